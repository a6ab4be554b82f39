/- The contracts of package kern: one number and another (plus, times), a list with a list (Dot), a tensor's numbers (wide), each of them (each). The contracts of package kern: each list of one tensor with each of another (dots). The contracts of package kern: number by number (both, Bias, Add, Mul, By), sums of columns. The contracts of package kern: dots, where there are lists. The contracts of package kern: Plain, Rows, Cols; all of them. What the laws of layer 14 ask first. -/
import Derived.Test.YtmipefapjehkaaaFunMath
import Derived.Test.YtmipefapjehkaaaTsr
import Derived.Test.YtmipefapjehkaaaAdd
import Derived.Test.YtmipefapjehkaaaPFma
import Derived.Deep.RegionHeld3
import Derived.StillTailTactics
import Derived.KernelRfl
import Derived.Test.YtmipefapjehkaaaREach
import Derived.Test.YtmipefapjehkaaaWorld
import Derived.Test.YtmipefapjehkaaaRProd
namespace Go.Proofs.Ytmipefapjehkaaa
open Go Go.RowKit
set_option linter.unusedVariables false
set_option linter.unusedSimpArgs false
open Go.RowKit

set_option maxHeartbeats 1000000 in
theorem kplus_any (a b : Int) (w : World) (a0 : 0 ≤ a) (a1 : a ≤ 4294967295) (b0 : 0 ≤ b) (b1 : b ≤ 4294967295) :
    Calls Try.prog 41 #[.int .u32 a, .int .u32 b] w fun e w' => e = .returned (.int .u32 (addV a b)) ∧ 0 ≤ addV a b ∧ addV a b ≤ 4294967295 ∧ Grown w w' := by
  obtain ⟨V, hV⟩ : ∃ V, addV a b = V := ⟨_, rfl⟩
  obtain ⟨q1, q2, q3, q4, q5, hs, h0, h1⟩ := op_val (add_shapeE 2 0 a b) hV
  rw [hV]
  have HS := Lib.hid hs
  clear hs hV
  go_enter Try.func41, Try.ntmps41
  go_wp2_with fail
  refine (sadd_any 2 0 a b _ a0 a1 b0 b1).mono ?_
  rintro e W1 ⟨he, hW1⟩
  rw [HS.out] at he
  subst he
  have HG := Lib.hid hW1
  clear hW1
  go_wp2
  go_ret
  exact ⟨rfl, h0, h1, gr⟩

theorem kdot_not (ad ad' : Option Addr) (n n' c c' : Nat) (w : World) (hn : n ≠ n') :
    Calls Try.prog 19 #[.slice ad n c, .slice ad' n' c'] w fun e w' => e = .returned (.tuple #[.int .u32 0, .int .i64 21]) ∧ Grown w w' := by
  have h1 : ((n : Int) == n') = false := by simpa using (show ¬ (n : Int) = n' by omega)
  have h2 : ((n : Int) != n') = true := by rw [bne, h1]; rfl
  clear hn
  go_enter Try.func19, Try.ntmps19
  go_wp2
  go_ret2
  exact ⟨rfl, Grown.refl _⟩

theorem kdot_nil (ad ad' : Option Addr) (c c' : Nat) (w : World) :
    Calls Try.prog 19 #[.slice ad 0 c, .slice ad' 0 c'] w fun e w' => e = .returned (.tuple #[.int .u32 0, .int .i64 0]) ∧ Grown w w' := by
  go_enter Try.func19, Try.ntmps19
  go_wp2
  refine wp_loop_rounds 1 ?_
  rw [rounds_succ]
  go_wp2
  go_ret2
  exact ⟨rfl, Grown.refl _⟩

set_option maxHeartbeats 1000000 in
theorem kdot_loop (b off b' off' n c c' : Nat) (g h : Nat → Int) (w : World) (hn : n ≤ 9223372036854775807) (hb : b < w.heap.size) (hb' : b' < w.heap.size)
    (hg : ∀ i, i < n → 0 ≤ g i ∧ g i ≤ 4294967295) (hh : ∀ i, i < n → 0 ≤ h i ∧ h i ≤ 4294967295)
    (hc : ∀ i, i < n → w.cell? ⟨b, off + i, none⟩ = some (.int .u32 (g i))) (hc' : ∀ i, i < n → w.cell? ⟨b', off' + i, none⟩ = some (.int .u32 (h i))) :
    Calls Try.prog 19 #[.slice (some ⟨b, off, none⟩) n c, .slice (some ⟨b', off', none⟩) n c'] w fun e w' => e = .returned (.tuple #[.int .u32 (dotV g h n), .int .i64 0]) ∧ Grown w w' := by
  have H1 := Lib.hid hg
  have H2 := Lib.hid hh
  have H3 := Lib.hid hc
  have H4 := Lib.hid hc'
  clear hg hh hc hc'
  go_enter Try.func19, Try.ntmps19
  go_wp2
  go_loopw [6, 7, 8, 16] (fun s _ _ i wr => DotRel g h n w s i wr) (fun _ _ _ i _ => n - (intOf i).toNat)
  case atStart => exact ⟨0, Nat.zero_le _, rfl, rfl, Int.le_refl _, by show (0 : Int) ≤ 4294967295; decide, Grown.refl _⟩
  case round =>
    obtain ⟨k, hk, rfl, rfl, s0, s1, hG⟩ := hrel
    have HG := Lib.hid hG
    clear hG
    obtain ⟨s, hs⟩ : ∃ s, dotV g h k = s := ⟨_, rfl⟩
    rw [hs] at s0 s1 ⊢
    have HS := Lib.hid hs
    clear hs
    by_cases hlt : k < n
    · have y0 : wr.cell? ⟨b, off + k, none⟩ = some (.int .u32 (g k)) := grown_cell HG.out (H3.out k hlt) hb
      have y1 : wr.cell? ⟨b', off' + k, none⟩ = some (.int .u32 (h k)) := grown_cell HG.out (H4.out k hlt) hb'
      obtain ⟨x0, x1⟩ := H1.out k hlt
      obtain ⟨z0, z1⟩ := H2.out k hlt
      have HD := Lib.hid (show dotV g h (k + 1) = fmaV (g k) (h k) s by rw [← HS.out]; rfl)
      generalize g k = x at *
      generalize h k = z at *
      obtain ⟨V, hV⟩ : ∃ V, fmaV x z s = V := ⟨_, rfl⟩
      obtain ⟨q1, q2, q3, q4, q5, hs, h0, h1⟩ := op_val (fma_shape 2 0 x z s) hV
      have HF := Lib.hid hs
      have HV := Lib.hid hV
      clear hs hV
      go_wp2_with (go_at_call 34; refine (pfma_any 2 0 x z s _ x0 x1 z0 z1 s0 s1).mono ?_; rintro e W1 ⟨he, hW1⟩; rw [HF.out] at he; subst he; replace HG := Lib.hid (show Grown w W1 from grown_trans gr hW1); clear hW1)
      go_roundw
      case rel => exact ⟨k + 1, by omega, by go_num, by rw [HD.out, HV.out], by rw [HD.out, HV.out]; exact h0, by rw [HD.out, HV.out]; exact h1, gr⟩
      case measure => simp [intOf]; omega
    · obtain rfl : k = n := by omega
      go_wp2
      go_ret2
      exact ⟨by rw [HS.out]; rfl, HG.out⟩

/-- Dot: from nought on, in order; of unlike lengths none. -/
theorem kdot_any (ad ad' : Option Addr) (n n' c c' : Nat) (g h : Nat → Int) (w : World) (hn : n ≤ 9223372036854775807) (h1 : Reads ad n g w) (h2 : Reads ad' n' h w) :
    Calls Try.prog 19 #[.slice ad n c, .slice ad' n' c'] w fun e w' => e = .returned (.tuple #[.int .u32 (if n = n' then dotV g h n else 0), .int .i64 (if n = n' then 0 else 21)]) ∧ Grown w w' := by
  by_cases e : n = n'
  · subst e
    rw [if_pos rfl, if_pos rfl]
    rcases h1.2 with rfl | ⟨b, off, rfl, hl, hc⟩
    · exact kdot_nil ad ad' c c' w
    · rcases h2.2 with rfl | ⟨b', off', rfl, hl', hc'⟩
      · exact kdot_nil _ ad' c c' w
      · exact kdot_loop b off b' off' n c c' g h w hn hl hl' h1.1 h2.1 hc hc'
  · rw [if_neg e, if_neg e]
    exact kdot_not ad ad' n n' c c' w e

/-- What holds of the memory of wide: the tensor's box, the result's row. -/
structure WiS (w : World) (B n : Nat) (t0 t1 t2 t3 : Value) (h : Nat → Int) (W : World) : Prop where
  g : Grown w W
  t1 : TenAt w.heap.size t0 t1 t2 t3 W
  r : Rowed B n h W
  o : w.heap.size < B

theorem WiS.grown {w : World} {B n : Nat} {t0 t1 t2 t3 : Value} {h : Nat → Int} {W W' : World} (s : WiS w B n t0 t1 t2 t3 h W) (g : Grown W W') : WiS w B n t0 t1 t2 t3 h W' :=
  ⟨grown_trans s.g g, s.t1.grown g, s.r.grown g, s.o⟩

theorem WiS.set {w : World} {B n : Nat} {t0 t1 t2 t3 : Value} {h h' : Nat → Int} {W : World} (s : WiS w B n t0 t1 t2 t3 h W) {j : Nat} {v : Int} (e1 : h' j = v) (e2 : ∀ t, t ≠ j → h' t = h t) : WiS w B n t0 t1 t2 t3 h' (W.setCell ⟨B, j, none⟩ (.int .u32 v)) :=
  ⟨Grown.setCell s.g (by have := s.o; show w.heap.size ≤ B; omega) _, s.t1.set (by have := s.o; show w.heap.size ≠ B; omega) _, s.r.set e1 e2, s.o⟩

/-- A list of n numbers that is nothing, or has room for n. -/
def Lay (ad : Option Addr) (n c : Nat) : Prop := (n = 0 → ad = none ∧ c = 0) ∧ (0 < n → n ≤ c ∧ ∃ b, ad = some ⟨b, 0, none⟩)

/-- append([]uint32(nil), l...) of nothing. -/
theorem wpList_append_none {P : Program} {ops : Array Oper} {rest : List Oper} {o : Oper} {a : Act} {w : World} {Q : Exit → Act → World → Prop} (hgd : o.guard = none) (s x : Operand) (t : TypeId)
    (ho : o.op = .call { callee := .builtin .append, args := #[s, x], argTypes := #[t, t] })
    (e : TypeId) (i : TypeInfo) (ht : P.underlying t = some (.slice e)) (hi : P.info? e = some i) (hsize : i.size = 1)
    (hs : a.eval s = .slice none 0 0) (ad : Option Addr) (c : Nat) (hx : a.eval x = .slice ad 0 c)
    (h : wpList P ops Q rest (a.put o.dst (.slice none 0 0)) w) : wpList P ops Q (o :: rest) a w := by
  refine wpList_plain hgd fun _ hK => ?_
  have hr := run_append_nothing (P := P) w t o.type e i ht hi hsize ad c
  unfold Oper.wp execOp
  simp only [ho, resolve, invoke, builtin, Sem.run_bind, Sem.run_pure, Result.andThen_ok, List.map_toArray, List.map_cons, List.map_nil, hs, hx, hr]
  exact hK _ _ h

set_option maxRecDepth 100000 in
theorem kwide_nil (R C F : Int) (ad : Option Addr) (c : Nat) (w : World) :
    Calls Try.prog 40 #[.agg #[.int .i64 R, .int .i64 C, .int .i64 F, .slice ad 0 c]] w fun e w' => e = .returned (.slice none 0 0) ∧ Grown w w' := by
  go_enter Try.func40, Try.ntmps40
  go_wp2_with (at_builtin; refine wpList_append_none rfl _ _ 22 rfl 37 _ rfl rfl rfl rfl ad c rfl ?_)
  refine wp_loop_rounds 1 ?_
  rw [rounds_succ]
  go_wp2
  go_ret
  exact ⟨rfl, gr⟩

set_option maxRecDepth 100000 in
set_option maxHeartbeats 1000000 in
theorem kwide_some (R C F : Int) (ad : Option Addr) (n c : Nat) (g : Nat → Int) (w : World) (hn : n ≤ 16777216) (hn0 : 0 < n) (hr : Reads ad n g w) :
    Calls Try.prog 40 #[.agg #[.int .i64 R, .int .i64 C, .int .i64 F, .slice ad n c]] w fun e w' => ∃ ad' c', e = .returned (.slice ad' n c') ∧ OwnS ad' n c' (fun i => widV F g i) w w' ∧ Lay ad' n c' ∧ Grown w w' := by
  have H1 := Lib.hid hr
  have HT := Lib.hid (ten_new w (.int .i64 R) (.int .i64 C) (.int .i64 F) (.slice ad n c) 24)
  have HB := Lib.hid hr.1
  have HQ := Lib.hid (wid_bd F g)
  have HW : Hid (∀ i, widV F g i = conV F 2 0 (g i)) := Lib.hid fun i => rfl
  generalize hq : widV F g = q at *
  have HG := Lib.hid (show Grown w (w.alloc (.cells #[.int .i64 R, .int .i64 C, .int .i64 F, .slice ad n c] 24)) from gr)
  clear hr hq
  go_enter Try.func40, Try.ntmps40
  go_wp2_with (at_builtin; refine wpList_append_copy rfl _ _ 22 rfl 37 _ _ 4 rfl rfl rfl rfl rfl rfl ad n c g rfl (H1.out.grown HG.out) (by show n ≤ 9223372036854775807; omega) (by omega) ?_; intro ad' c' W5 own5 hgr5)
  have hW5 := hgr5 _ (Grown.refl _)
  replace HT := Lib.hid (HT.out.grown hW5)
  replace HG := Lib.hid (grown_trans HG.out hW5)
  have hz : w.heap.size < (w.alloc (.cells #[.int .i64 R, .int .i64 C, .int .i64 F, .slice ad n c] 24)).heap.size := by simp
  rcases own5 with ⟨rfl, rfl, rfl⟩ | ⟨B, rfl, hB, hRo, hc'⟩
  · exact absurd hn0 (Nat.lt_irrefl 0)
  · have HE : Hid (WiS w B n (.int .i64 R) (.int .i64 C) (.int .i64 F) (.slice ad n c) (fun t => if t < 0 then q t else g t) W5) := Lib.hid ⟨HG.out, HT.out, hRo.congr (fun t ht => if_neg (Nat.not_lt_zero t)), by omega⟩
    clear HT HG hW5 hgr5 hRo hB hz
    go_loopw [4, 5, 11] (fun _ _ i wr => ∃ k : Nat, k ≤ n ∧ i = .int .i64 k ∧ Hid (WiS w B n (.int .i64 R) (.int .i64 C) (.int .i64 F) (.slice ad n c) (fun t => if t < k then q t else g t) wr)) (fun _ _ i _ => n - (intOf i).toNat)
    case atStart => exact ⟨0, Nat.zero_le _, rfl, HE⟩
    case round =>
      rename World => wr
      clear HE
      obtain ⟨k, hk, rfl, HE⟩ := hrel
      by_cases hlt : k < n
      · have y := (HE.out.r.cell k hlt).trans (by rw [if_neg (Nat.lt_irrefl k)])
        obtain ⟨x0, x1⟩ := HB.out k hlt
        obtain ⟨p0, p1, p2, p3, p4, -, -, -, -⟩ := HE.out.t1
        obtain ⟨x, hx⟩ : ∃ x, g k = x := ⟨_, rfl⟩
        have HU := Lib.hid (show conV F 2 0 x = q k by rw [HW.out, hx])
        rw [hx] at y x0 x1
        clear hx
        go_wp2_with fail
        refine (cwiden_any F x _ x0 x1).mono ?_
        rintro e W6 ⟨he, hW6⟩
        rw [HU.out] at he
        subst he
        replace HE := Lib.hid (HE.out.grown hW6)
        have y := (HE.out.r.cell k hlt).trans (by rw [if_neg (Nat.lt_irrefl k)])
        have z := HE.out.r.free k
        clear hW6 p0 p1 p2 p3 p4
        go_wp2
        go_roundw
        case rel => exact ⟨k + 1, by omega, by go_num, Lib.hid (HE.out.set (by show (if k < k + 1 then q k else g k) = _; rw [if_pos (Nat.lt_succ_self k)]) (fun t ht => by
            show (if t < k + 1 then q t else g t) = if t < k then q t else g t
            by_cases c : t < k
            · rw [if_pos c, if_pos (by omega)]
            · rw [if_neg c, if_neg (by omega)]))⟩
        case measure => simp [intOf]; omega
      · obtain rfl : k = n := by omega
        have ho := HE.out.o
        go_wp2
        go_ret
        exact ⟨_, _, rfl, .inr ⟨B, rfl, by omega, HE.out.r.congr (fun t ht => (if_pos ht).symm), hc'⟩, ⟨fun h => absurd h (by omega), fun _ => ⟨hc', B, rfl⟩⟩, HE.out.g⟩

/-- wide: a list of one's own, each number a Single. -/
theorem kwide_any (R C F : Int) (ad : Option Addr) (n c : Nat) (g : Nat → Int) (w : World) (hn : n ≤ 16777216) (hr : Reads ad n g w) :
    Calls Try.prog 40 #[.agg #[.int .i64 R, .int .i64 C, .int .i64 F, .slice ad n c]] w fun e w' => ∃ ad' c', e = .returned (.slice ad' n c') ∧ OwnS ad' n c' (fun i => widV F g i) w w' ∧ Lay ad' n c' ∧ Grown w w' := by
  rcases Nat.eq_zero_or_pos n with rfl | h
  · exact (kwide_nil R C F ad c w).mono fun e w' q => ⟨none, 0, q.1, .inl ⟨rfl, rfl, rfl⟩, ⟨fun _ => ⟨rfl, rfl⟩, fun h => absurd h (Nat.lt_irrefl 0)⟩, q.2⟩
  · exact kwide_some R C F ad n c g w hn h hr

/-- A call of K is a call of a function with a body. -/
def Enters (K : Nat) : Prop := ∀ (args : Array Value) (w : World), (callFunc K args).run Try.prog w = .ok (.enter K args) w

theorem kplus_enters : Enters 41 := fun args w => by kernel_rfl

/-- A function that answers q of two numbers, in whatever world has grown since w. -/
def OpsC (k : Nat) (q : Int → Int → Int) (w : World) : Prop :=
  ∀ (a b : Int) (W : World), 0 ≤ a → a ≤ 4294967295 → 0 ≤ b → b ≤ 4294967295 → Grown w W → Calls Try.prog k #[.int .u32 a, .int .u32 b] W fun e W' => e = .returned (.int .u32 (q a b)) ∧ 0 ≤ q a b ∧ q a b ≤ 4294967295 ∧ Grown W W'

/-- .. as far as it has numbers. -/
theorem TenE.like {t t' : PT} {E : Int} {w : World} {e : Ending} {w' : World} (h : TenE t E w e w') (e0 : t'.R = t.R) (e1 : t'.C = t.C) (e2 : t'.F = t.F) (e3 : t'.n = t.n) (e4 : ∀ i, i < t.n → t'.g i = t.g i) : TenE t' E w e w' := by
  obtain ⟨ad, c, h1, h2, h3, h4, h5⟩ := h
  exact ⟨ad, c, by rw [e0, e1, e2, e3]; exact h1, by rw [e3]; exact h2.congr e4, by rw [e3]; exact h3, h4, h5⟩

/-- What a call that answers a tensor of its own memory comes to. -/
def TenN (t : PT) (w : World) (e : Ending) (w' : World) : Prop :=
  ∃ (ad : Option Addr) (c : Nat), e = .returned (.agg #[.int .i64 t.R, .int .i64 t.C, .int .i64 t.F, .slice ad t.n c]) ∧ OwnS ad t.n c t.g w w' ∧ (∀ i, i < t.n → 0 ≤ t.g i ∧ t.g i ≤ 4294967295) ∧ Grown w w'

set_option maxRecDepth 100000 in
set_option maxHeartbeats 1000000 in
/-- each: what op makes of each number and its partner. -/
theorem keach_any (K : Nat) (q : Int → Int → Int) (R C F : Int) (ad pd : Option Addr) (n c m pc : Nat) (g p : Nat → Int) (w : World) (hn : n ≤ 16777216) (hm : m ≤ 16777216) (hr : Reads ad n g w) (hp : Reads pd m p w) (h0 : n = 0 ∨ 0 < m) (hK : Enters K) (hop : OpsC K q w) :
    Calls Try.prog 39 #[.agg #[.int .i64 R, .int .i64 C, .int .i64 F, .slice ad n c], .slice pd m pc, .func (.func K) #[] #[]] w (TenN ⟨R, C, 2, n, fun i => q (widV F g i) (p (i % m))⟩ w) := by
  have H1 := Lib.hid hr
  have H2 := Lib.hid hp
  have H3 := Lib.hid hop
  have H0 := Lib.hid h0
  have HQ := Lib.hid (wid_bd F g)
  have HT := Lib.hid ((ten_new w (.int .i64 R) (.int .i64 C) (.int .i64 F) (.slice ad n c) 24).grown (Grown.alloc (Grown.refl _) #[.int .i64 0, .int .i64 0, .int .i64 0, .slice none 0 0] 24))
  have HT2 := Lib.hid (ten_new (w.alloc (.cells #[.int .i64 R, .int .i64 C, .int .i64 F, .slice ad n c] 24)) (.int .i64 0) (.int .i64 0) (.int .i64 0) (.slice none 0 0) 24)
  simp only [World.size_alloc] at HT2
  have HKW : Hid (∀ W, Grown w W → Calls Try.prog 40 #[.agg #[.int .i64 R, .int .i64 C, .int .i64 F, .slice ad n c]] W fun e w' => ∃ ad' c', e = .returned (.slice ad' n c') ∧ OwnS ad' n c' (fun i => widV F g i) W w' ∧ Lay ad' n c' ∧ Grown W w') := Lib.hid fun W hW => kwide_any R C F ad n c g W hn (H1.out.grown hW)
  generalize hq : widV F g = u at *
  clear hr hp hop h0 hq
  go_enter Try.func39, Try.ntmps39
  go_wp2_with fail
  have HG := Lib.hid (show Grown w ((w.alloc (.cells #[.int .i64 R, .int .i64 C, .int .i64 F, .slice ad n c] 24)).alloc (.cells #[.int .i64 0, .int .i64 0, .int .i64 0, .slice none 0 0] 24)) from gr)
  generalize ((w.alloc _).alloc _) = W0 at HT HT2 HG ⊢
  refine (HKW.out _ HG.out).mono ?_
  rintro e W5 ⟨ad', c', rfl, own5, -, hW5⟩
  have HL1 := Lib.hid HT2.out.lies
  replace HT := Lib.hid (HT.out.grown hW5)
  replace HT2 := Lib.hid (HT2.out.grown hW5)
  replace HG := Lib.hid (grown_trans HG.out hW5)
  rcases own5 with ⟨rfl, rfl, rfl⟩ | ⟨B, rfl, hB, hRo, hc'⟩
  · obtain ⟨p0, p1, p2, p3, p4, -, -, -, -⟩ := HT.out
    obtain ⟨r0, r1, r2, r3, r4, r5, r6, r7, r8⟩ := HT2.out
    clear hW5
    go_wp2_with fail
    refine wp_loop_rounds 1 ?_
    rw [rounds_succ]
    go_wp2
    (try simp only [Exit.inBlock, Exit.then])
    refine bodyPost_ret (v := .agg #[.int .i64 R, .int .i64 C, .int .i64 2, .slice none 0 0]) ?_ rfl ⟨none, 0, rfl, .inl ⟨rfl, rfl, rfl⟩, fun i hi => absurd hi (Nat.not_lt_zero i), gr⟩
    rw [results_one rfl]
    go_simp
  · have HE : Hid (EaS w B n (.int .i64 R) (.int .i64 C) (.int .i64 F) (.slice ad n c) (fun t => if t < 0 then q (u t) (p (t % m)) else u t) W5) := Lib.hid ⟨HG.out, HT.out, HT2.out, hRo.congr (fun t ht => if_neg (Nat.not_lt_zero t)), by have := HL1.out; omega⟩
    clear HT HT2 hW5 hRo hB HG
    go_wp2_with fail
    go_loopw [8, 9, 14] (fun _ _ i wr => ∃ k : Nat, k ≤ n ∧ i = .int .i64 k ∧ Hid (EaS w B n (.int .i64 R) (.int .i64 C) (.int .i64 F) (.slice ad n c) (fun t => if t < k then q (u t) (p (t % m)) else u t) wr) ∧ Hid (∀ j, j < k → 0 ≤ q (u j) (p (j % m)) ∧ q (u j) (p (j % m)) ≤ 4294967295)) (fun _ _ i _ => n - (intOf i).toNat)
    case atStart => exact ⟨0, Nat.zero_le _, rfl, HE, Lib.hid fun j hj => absurd hj (Nat.not_lt_zero j)⟩
    case round =>
      rename World => wr
      clear HE
      obtain ⟨k, hk, rfl, HE, HY⟩ := hrel
      by_cases hlt : k < n
      · have hm0 : 0 < m := by rcases H0.out with h | h <;> omega
        obtain ⟨b, off, rfl, hl, hc⟩ : ∃ b off, pd = some ⟨b, off, none⟩ ∧ b < w.heap.size ∧ ∀ i, i < m → w.cell? ⟨b, off + i, none⟩ = some (.int .u32 (p i)) := by
          rcases H2.out.2 with h | h
          · omega
          · exact h
        obtain ⟨J, hJe⟩ : ∃ J, k % m = J := ⟨_, rfl⟩
        have hJ : J < m := by rw [← hJe]; exact Nat.mod_lt _ hm0
        have hrem : Int.tmod (k : Int) (m : Int) = (J : Int) := by rw [← hJe]; exact (Int.ofNat_tmod k m).symm
        have hnz : ¬ (m : Int) = 0 := by omega
        have hnz2 : ¬ m = 0 := by omega
        have HJE := Lib.hid hJe
        have y := (HE.out.r.cell k hlt).trans (by rw [if_neg (Nat.lt_irrefl k)])
        have y2 := grown_cell HE.out.g (hc J hJ) hl
        have hb2 := Nat.lt_of_lt_of_le hl HE.out.g.2.2
        obtain ⟨x0, x1⟩ := HQ.out k
        obtain ⟨z0, z1⟩ := H2.out.1 J hJ
        obtain ⟨x, hx⟩ : ∃ x, u k = x := ⟨_, rfl⟩
        obtain ⟨z, hz⟩ : ∃ z, p J = z := ⟨_, rfl⟩
        rw [hx] at y x0 x1
        rw [hz] at y2 z0 z1
        have hcall := Lib.hid (H3.out x z wr x0 x1 z0 z1 HE.out.g)
        obtain ⟨r, hr⟩ : ∃ r, q x z = r := ⟨_, rfl⟩
        rw [hr] at hcall
        have HU := Lib.hid (show q (u k) (p (k % m)) = r by rw [hJe, hx, hz, hr])
        clear hx hz hr hc hJe
        go_wp2_with fail
        rw [hK]
        show Calls Try.prog K _ _ _
        refine hcall.out.mono ?_
        rintro e W6 ⟨rfl, u0, u1, hW6⟩
        replace HE := Lib.hid (HE.out.grown hW6)
        have y := (HE.out.r.cell k hlt).trans (by rw [if_neg (Nat.lt_irrefl k)])
        have z := HE.out.r.free k
        clear hW6 hcall y2
        go_wp2
        go_roundw
        case rel => exact ⟨k + 1, by omega, by go_num, Lib.hid (HE.out.set (by show (if k < k + 1 then q (u k) (p (k % m)) else u k) = _; rw [if_pos (Nat.lt_succ_self k)]; exact HU.out) (fun t ht => by
            show (if t < k + 1 then q (u t) (p (t % m)) else u t) = if t < k then q (u t) (p (t % m)) else u t
            by_cases c : t < k
            · rw [if_pos c, if_pos (by omega)]
            · rw [if_neg c, if_neg (by omega)])), Lib.hid fun j hj => by
              by_cases e : j = k
              · subst e; rw [HU.out]; exact ⟨u0, u1⟩
              · exact HY.out j (by omega)⟩
        case measure => simp [intOf]; omega
      · obtain rfl : k = n := by omega
        obtain ⟨p0, p1, p2, p3, p4, -, -, -, -⟩ := HE.out.t1
        obtain ⟨r0, r1, r2, r3, r4, r5, r6, r7, r8⟩ := HE.out.t2
        have HG := Lib.hid HE.out.g
        have ho := HE.out.o
        have hne : B ≠ w.heap.size + 1 := by omega
        go_wp2
        (try simp only [Exit.inBlock, Exit.then])
        refine bodyPost_ret (v := .agg #[.int .i64 R, .int .i64 C, .int .i64 2, .slice (some ⟨B, 0, none⟩) k c']) ?_ rfl ⟨_, _, rfl, .inr ⟨B, rfl, by omega, ?_, hc'⟩, HY.out, gr⟩
        · rw [results_one rfl]
          go_simp
        · exact ((((HE.out.r.congr (fun t ht => (if_pos ht).symm)).other (a := ⟨w.heap.size + 1, 0, none⟩) hne _).other (a := ⟨w.heap.size + 1, 1, none⟩) hne _).other (a := ⟨w.heap.size + 1, 2, none⟩) hne _).other (a := ⟨w.heap.size + 1, 3, none⟩) hne _

/-- What a call that answers a tensor, of whatever memory, and a number comes to. -/
def TenG (t : PT) (E : Int) (w : World) (e : Ending) (w' : World) : Prop :=
  ∃ (ad : Option Addr) (c : Nat), e = .returned (.tuple #[.agg #[.int .i64 t.R, .int .i64 t.C, .int .i64 t.F, .slice ad t.n c], .int .i64 E]) ∧ Reads ad t.n t.g w' ∧ t.n ≤ 9223372036854775807 ∧ Grown w w'

/-- A function that makes x of a tensor t, in whatever world has grown since w. -/
def ListsC (K : Nat) (t x : PT) (X : Int) (w : World) : Prop :=
  ∀ (ad : Option Addr) (c : Nat) (W : World), Grown w W → Reads ad t.n t.g W → Calls Try.prog K #[.agg #[.int .i64 t.R, .int .i64 t.C, .int .i64 t.F, .slice ad t.n c]] W (TenG x X W)

def asisT (t : PT) : PT := if t.right then t else PT.bad

theorem kasis_any (R C F : Int) (ad : Option Addr) (n c : Nat) (g : Nat → Int) (w : World) (hn : n ≤ 9223372036854775807) (hr : Reads ad n g w) :
    Calls Try.prog 28 #[.agg #[.int .i64 R, .int .i64 C, .int .i64 F, .slice ad n c]] w (TenG (asisT ⟨R, C, F, n, g⟩) (turnX ⟨R, C, F, n, g⟩) w) := by
  unfold asisT turnX PT.right
  dsimp only
  have H1 := Lib.hid hr
  have HT := Lib.hid ((ten_new w (.int .i64 R) (.int .i64 C) (.int .i64 F) (.slice ad n c) 24).grown (Grown.alloc (Grown.refl _) #[.int .i64 0, .int .i64 0, .int .i64 0, .slice none 0 0] 24))
  have HT2 := Lib.hid (ten_new (w.alloc (.cells #[.int .i64 R, .int .i64 C, .int .i64 F, .slice ad n c] 24)) (.int .i64 0) (.int .i64 0) (.int .i64 0) (.slice none 0 0) 24)
  simp only [World.size_alloc] at HT2
  clear hr
  cases h : rightB R C F n g
  all_goals
    have K1 := Lib.hid (show Ending.returned (.bool (rightB R C F n g)) = .returned (.bool _) from by rw [h])
    clear h
    go_enter Try.func28, Try.ntmps28
    go_wp2_with fail
    have HG := Lib.hid (show Grown w ((w.alloc (.cells #[.int .i64 R, .int .i64 C, .int .i64 F, .slice ad n c] 24)).alloc (.cells #[.int .i64 0, .int .i64 0, .int .i64 0, .slice none 0 0] 24)) from gr)
    generalize ((w.alloc _).alloc _) = W0 at HT HT2 HG ⊢
    refine (tright_any _ _ _ _ _ _ g _ hn (H1.out.grown HG.out)).mono ?_
    rintro e W1 ⟨he, hW1⟩
    rw [K1.out] at he
    subst he
    obtain ⟨p0, p1, p2, p3, p4, -, -, -, -⟩ := HT.out.grown hW1
    obtain ⟨r0, r1, r2, r3, r4, r5, r6, r7, r8⟩ := HT2.out.grown hW1
    replace HG := Lib.hid (grown_trans HG.out hW1)
    clear hW1
    go_wp2
    (try simp only [Exit.inBlock, Exit.then])
  · refine bodyPost_ret (v := .tuple #[.agg #[.int .i64 0, .int .i64 0, .int .i64 0, .slice none 0 0], .int .i64 21]) ?_ rfl ⟨none, 0, rfl, Reads.nil _ _ _, by show (0 : Nat) ≤ 9223372036854775807; decide, gr⟩
    rw [results_cell_tmp rfl]
    go_simp
  · refine bodyPost_ret (v := .tuple #[.agg #[.int .i64 R, .int .i64 C, .int .i64 F, .slice ad n c], .int .i64 0]) ?_ rfl ⟨ad, c, rfl, H1.out.grown gr, hn, gr⟩
    rw [results_cell_tmp rfl]
    go_simp

set_option maxRecDepth 100000 in
set_option maxHeartbeats 1000000 in
/-- dots, where there is no list or the lists are of unlike lengths. -/
theorem kdots_bad (Ka Kb : Nat) (aR aC aF bR bC bF : Int) (ad bd : Option Addr) (an bn ca cb : Nat) (g h : Nat → Int) (x y : PT) (X Y : Int) (w : World) (h1 : Reads ad an g w) (h2 : Reads bd bn h w) (hKa : Enters Ka) (hKb : Enters Kb)
    (ha : ListsC Ka ⟨aR, aC, aF, an, g⟩ x X w) (hb : ListsC Kb ⟨bR, bC, bF, bn, h⟩ y Y w) (hbad : (X = 21 ∧ (Y = 0 ∨ Y = 21)) ∨ (X = 0 ∧ Y = 21) ∨ (X = 0 ∧ Y = 0 ∧ x.C ≠ y.C)) :
    Calls Try.prog 27 #[.agg #[.int .i64 aR, .int .i64 aC, .int .i64 aF, .slice ad an ca], .agg #[.int .i64 bR, .int .i64 bC, .int .i64 bF, .slice bd bn cb], .func (.func Ka) #[] #[], .func (.func Kb) #[] #[]] w (TenE PT.bad 21 w) := by
  obtain ⟨xR, xC, xF, xn, xg⟩ := x
  obtain ⟨yR, yC, yF, yn, yg⟩ := y
  dsimp only at hbad
  have H1 := Lib.hid h1
  have H2 := Lib.hid h2
  have HA := Lib.hid ha
  have HB := Lib.hid hb
  have HT1 := Lib.hid ((ten_new w (.int .i64 aR) (.int .i64 aC) (.int .i64 aF) (.slice ad an ca) 24).grown (Grown.alloc (Grown.alloc (Grown.refl _) #[.int .i64 bR, .int .i64 bC, .int .i64 bF, .slice bd bn cb] 24) #[.int .i64 0, .int .i64 0, .int .i64 0, .slice none 0 0] 24))
  have HT2 := Lib.hid ((ten_new2 w #[.int .i64 aR, .int .i64 aC, .int .i64 aF, .slice ad an ca] 24 (.int .i64 bR) (.int .i64 bC) (.int .i64 bF) (.slice bd bn cb) 24).grown (Grown.alloc (Grown.refl _) #[.int .i64 0, .int .i64 0, .int .i64 0, .slice none 0 0] 24))
  have HT3 := Lib.hid (ten_new ((w.alloc (.cells #[.int .i64 aR, .int .i64 aC, .int .i64 aF, .slice ad an ca] 24)).alloc (.cells #[.int .i64 bR, .int .i64 bC, .int .i64 bF, .slice bd bn cb] 24)) (.int .i64 0) (.int .i64 0) (.int .i64 0) (.slice none 0 0) 24)
  simp only [World.size_alloc] at HT3
  clear h1 h2 ha hb
  go_enter Try.func27, Try.ntmps27
  go_wp2_with fail
  have HG := Lib.hid (show Grown w (((w.alloc (.cells #[.int .i64 aR, .int .i64 aC, .int .i64 aF, .slice ad an ca] 24)).alloc (.cells #[.int .i64 bR, .int .i64 bC, .int .i64 bF, .slice bd bn cb] 24)).alloc (.cells #[.int .i64 0, .int .i64 0, .int .i64 0, .slice none 0 0] 24)) from gr)
  generalize (((w.alloc _).alloc _).alloc _) = W0 at HT1 HT2 HT3 HG ⊢
  rw [hKa]
  show Calls Try.prog Ka _ _ _
  refine (HA.out ad ca _ HG.out (H1.out.grown HG.out)).mono ?_
  rintro e W1 ⟨xd, xc, rfl, hxr, hxn, hW1⟩
  dsimp only at hxr hxn ⊢
  replace HT2 := Lib.hid (HT2.out.grown hW1)
  replace HT3 := Lib.hid (HT3.out.grown hW1)
  replace HG := Lib.hid (grown_trans HG.out hW1)
  obtain ⟨p0, p1, p2, p3, p4, -, -, -, -⟩ := HT2.out
  clear hW1 HT1 HA hxr
  go_wp2_with fail
  have HX := Lib.hid (ten_new W1 (.int .i64 xR) (.int .i64 xC) (.int .i64 xF) (.slice xd xn xc) 24)
  have HG2 := Lib.hid (show Grown w (W1.alloc (.cells #[.int .i64 xR, .int .i64 xC, .int .i64 xF, .slice xd xn xc] 24)) from gr)
  replace HT3 := Lib.hid (HT3.out.grown (Grown.alloc (Grown.refl _) #[.int .i64 xR, .int .i64 xC, .int .i64 xF, .slice xd xn xc] 24))
  generalize hbx : W1.heap.size = bx at HX ⊢
  clear p0 p1 p2 p3 p4 hbx HG HT2
  generalize (W1.alloc _) = W2 at HX HG2 HT3 ⊢
  rw [hKb]
  show Calls Try.prog Kb _ _ _
  refine (HB.out bd cb _ HG2.out (H2.out.grown HG2.out)).mono ?_
  rintro e W3 ⟨yd, yc, rfl, hyr, hyn, hW3⟩
  dsimp only at hyr hyn ⊢
  replace HX := Lib.hid (HX.out.grown hW3)
  replace HT3 := Lib.hid (HT3.out.grown hW3)
  replace HG2 := Lib.hid (grown_trans HG2.out hW3)
  clear hW3 HB hyr H1 H2 hKa hKb
  have hs : (X = 21 ∧ Y = 0) ∨ (X = 21 ∧ Y = 21) ∨ (X = 0 ∧ Y = 21) ∨ (X = 0 ∧ Y = 0 ∧ (xC == yC) = false ∧ (xC != yC) = true) := by
    rcases hbad with ⟨h, h' | h'⟩ | ⟨h, h'⟩ | ⟨h, h', hc⟩
    · exact .inl ⟨h, h'⟩
    · exact .inr (.inl ⟨h, h'⟩)
    · exact .inr (.inr (.inl ⟨h, h'⟩))
    · exact .inr (.inr (.inr ⟨h, h', by simpa using hc, by simpa using hc⟩))
  clear hbad
  obtain ⟨r0, r1, r2, r3, r4, r5, r6, r7, r8⟩ := HT3.out
  obtain ⟨p0, p1, p2, p3, p4, -, -, -, -⟩ := HX.out
  rcases hs with ⟨rfl, rfl⟩ | ⟨rfl, rfl⟩ | ⟨rfl, rfl⟩ | ⟨rfl, rfl, e1, e2⟩
  all_goals
    go_wp2
    (try simp only [Exit.inBlock, Exit.then])
    refine bodyPost_ret (v := .tuple #[.agg #[.int .i64 0, .int .i64 0, .int .i64 0, .slice none 0 0], .int .i64 21]) ?_ rfl ⟨none, 0, rfl, Reads.nil _ _ _, by show (0 : Nat) ≤ 9223372036854775807; decide, fresh_none _, gr⟩
    rw [results_cell_tmp rfl]
    go_simp

/-- What holds of the row of dots: k of G's numbers in it; of what was there at W6 nothing turns. -/
structure DoS (W6 : World) (G : Nat → Int) (k : Nat) (v : Value) (W : World) : Prop where
  g : Grown W6 W
  own : W.ownsRow W6.heap.size 37 1 v k (wordsL k G)

theorem DoS.grown {W6 : World} {G : Nat → Int} {k : Nat} {v : Value} {W W' : World} (s : DoS W6 G k v W) (g : Grown W W') : DoS W6 G k v W' :=
  ⟨grown_trans s.g g, owns_grown s.own g⟩

theorem DoS.next {W6 : World} {G : Nat → Int} {k : Nat} {v : Value} {W7 W8 : World} {X : Int} {gg cc : Nat} (h : DoS W6 G k v W7) (hX : G k = X)
    (own : W8.ownsRow W6.heap.size 37 1 (.slice (some ⟨gg, 0, none⟩) (k + 1) cc) (k + 1) (wordsL k G ++ [.int .u32 X])) (hgr : ∀ w0, Grown w0 W7 → w0.heap.size ≤ W6.heap.size → Grown w0 W8) :
    DoS W6 G (k + 1) (.slice (some ⟨gg, 0, none⟩) (k + 1) cc) W8 := by
  refine ⟨hgr W6 h.g (Nat.le_refl _), ?_⟩
  rw [wordsL_next, hX]
  exact own

theorem kdot_same (ad ad' : Option Addr) (n c c' : Nat) (g h : Nat → Int) (w : World) (hn : n ≤ 9223372036854775807) (h1 : Reads ad n g w) (h2 : Reads ad' n h w) :
    Calls Try.prog 19 #[.slice ad n c, .slice ad' n c'] w fun e w' => e = .returned (.tuple #[.int .u32 (dotV g h n), .int .i64 0]) ∧ Grown w w' := by
  have q := kdot_any ad ad' n n c c' g h w hn h1 h2
  rw [if_pos rfl, if_pos rfl] at q
  exact q

theorem OpsC.grown {K : Nat} {q : Int → Int → Int} {w W : World} (h : OpsC K q w) (g : Grown w W) : OpsC K q W := fun a b W' h0 h1 h2 h3 hG => h a b W' h0 h1 h2 h3 (grown_trans g hG)

theorem kplus_op (w : World) : OpsC 41 addV w := fun a b W h0 h1 h2 h3 _ => kplus_any a b W h0 h1 h2 h3

theorem kboth_bad1 (K : Nat) (q : Int → Int → Int) (aR aC aF bR bC bF : Int) (ad bd : Option Addr) (an bn ca cb : Nat) (g h : Nat → Int) (w : World) (hn : an ≤ 9223372036854775807) (hn' : bn ≤ 9223372036854775807) (h1 : Reads ad an g w) (h2 : Reads bd bn h w) (hr : rightB aR aC aF an g = false) :
    Calls Try.prog 42 #[.agg #[.int .i64 aR, .int .i64 aC, .int .i64 aF, .slice ad an ca], .agg #[.int .i64 bR, .int .i64 bC, .int .i64 bF, .slice bd bn cb], .func (.func K) #[] #[]] w (TenE PT.bad 21 w) := by
  have K1 := Lib.hid (show Ending.returned (.bool (rightB aR aC aF an g)) = .returned (.bool false) by rw [hr])
  have H1 := Lib.hid h1
  have H2 := Lib.hid h2
  have HT1 := Lib.hid ((ten_new w (.int .i64 aR) (.int .i64 aC) (.int .i64 aF) (.slice ad an ca) 24).grown (Grown.alloc (Grown.alloc (Grown.refl _) #[.int .i64 bR, .int .i64 bC, .int .i64 bF, .slice bd bn cb] 24) #[.int .i64 0, .int .i64 0, .int .i64 0, .slice none 0 0] 24))
  have HT2 := Lib.hid ((ten_new2 w #[.int .i64 aR, .int .i64 aC, .int .i64 aF, .slice ad an ca] 24 (.int .i64 bR) (.int .i64 bC) (.int .i64 bF) (.slice bd bn cb) 24).grown (Grown.alloc (Grown.refl _) #[.int .i64 0, .int .i64 0, .int .i64 0, .slice none 0 0] 24))
  have HT3 := Lib.hid (ten_new ((w.alloc (.cells #[.int .i64 aR, .int .i64 aC, .int .i64 aF, .slice ad an ca] 24)).alloc (.cells #[.int .i64 bR, .int .i64 bC, .int .i64 bF, .slice bd bn cb] 24)) (.int .i64 0) (.int .i64 0) (.int .i64 0) (.slice none 0 0) 24)
  simp only [World.size_alloc] at HT3
  clear h1 h2
  clear hr
  go_enter Try.func42, Try.ntmps42
  go_wp2_with fail
  have HG := Lib.hid (show Grown w (((w.alloc (.cells #[.int .i64 aR, .int .i64 aC, .int .i64 aF, .slice ad an ca] 24)).alloc (.cells #[.int .i64 bR, .int .i64 bC, .int .i64 bF, .slice bd bn cb] 24)).alloc (.cells #[.int .i64 0, .int .i64 0, .int .i64 0, .slice none 0 0] 24)) from gr)
  generalize (((w.alloc _).alloc _).alloc _) = W0 at HT1 HT2 HT3 HG ⊢
  refine (tright_any _ _ _ _ _ _ g _ (by assumption) (H1.out.grown HG.out)).mono ?_
  rintro e W1 ⟨he, hW⟩
  rw [K1.out] at he
  subst he
  replace HT1 := Lib.hid (HT1.out.grown hW)
  replace HT2 := Lib.hid (HT2.out.grown hW)
  replace HT3 := Lib.hid (HT3.out.grown hW)
  replace HG := Lib.hid (grown_trans HG.out hW)
  clear hW
  obtain ⟨p0, p1, p2, p3, p4, -, -, -, -⟩ := HT1.out
  obtain ⟨q0, q1, q2, q3, q4, -, -, -, -⟩ := HT2.out
  obtain ⟨r0, r1, r2, r3, r4, r5, r6, r7, r8⟩ := HT3.out
  go_wp2
  (try simp only [Exit.inBlock, Exit.then])
  refine bodyPost_ret (v := .tuple #[.agg #[.int .i64 0, .int .i64 0, .int .i64 0, .slice none 0 0], .int .i64 21]) ?_ rfl ⟨none, 0, rfl, Reads.nil _ _ _, by show (0 : Nat) ≤ 9223372036854775807; decide, fresh_none _, gr⟩
  rw [results_cell_tmp rfl]
  go_simp

theorem kboth_bad2 (K : Nat) (q : Int → Int → Int) (aR aC aF bR bC bF : Int) (ad bd : Option Addr) (an bn ca cb : Nat) (g h : Nat → Int) (w : World) (hn : an ≤ 9223372036854775807) (hn' : bn ≤ 9223372036854775807) (h1 : Reads ad an g w) (h2 : Reads bd bn h w) (hr : rightB aR aC aF an g = true) (hr2 : rightB bR bC bF bn h = false) :
    Calls Try.prog 42 #[.agg #[.int .i64 aR, .int .i64 aC, .int .i64 aF, .slice ad an ca], .agg #[.int .i64 bR, .int .i64 bC, .int .i64 bF, .slice bd bn cb], .func (.func K) #[] #[]] w (TenE PT.bad 21 w) := by
  have K1 := Lib.hid (show Ending.returned (.bool (rightB aR aC aF an g)) = .returned (.bool true) by rw [hr])
  have K2 := Lib.hid (show Ending.returned (.bool (rightB bR bC bF bn h)) = .returned (.bool false) by rw [hr2])
  have H1 := Lib.hid h1
  have H2 := Lib.hid h2
  have HT1 := Lib.hid ((ten_new w (.int .i64 aR) (.int .i64 aC) (.int .i64 aF) (.slice ad an ca) 24).grown (Grown.alloc (Grown.alloc (Grown.refl _) #[.int .i64 bR, .int .i64 bC, .int .i64 bF, .slice bd bn cb] 24) #[.int .i64 0, .int .i64 0, .int .i64 0, .slice none 0 0] 24))
  have HT2 := Lib.hid ((ten_new2 w #[.int .i64 aR, .int .i64 aC, .int .i64 aF, .slice ad an ca] 24 (.int .i64 bR) (.int .i64 bC) (.int .i64 bF) (.slice bd bn cb) 24).grown (Grown.alloc (Grown.refl _) #[.int .i64 0, .int .i64 0, .int .i64 0, .slice none 0 0] 24))
  have HT3 := Lib.hid (ten_new ((w.alloc (.cells #[.int .i64 aR, .int .i64 aC, .int .i64 aF, .slice ad an ca] 24)).alloc (.cells #[.int .i64 bR, .int .i64 bC, .int .i64 bF, .slice bd bn cb] 24)) (.int .i64 0) (.int .i64 0) (.int .i64 0) (.slice none 0 0) 24)
  simp only [World.size_alloc] at HT3
  clear h1 h2
  clear hr hr2
  go_enter Try.func42, Try.ntmps42
  go_wp2_with fail
  have HG := Lib.hid (show Grown w (((w.alloc (.cells #[.int .i64 aR, .int .i64 aC, .int .i64 aF, .slice ad an ca] 24)).alloc (.cells #[.int .i64 bR, .int .i64 bC, .int .i64 bF, .slice bd bn cb] 24)).alloc (.cells #[.int .i64 0, .int .i64 0, .int .i64 0, .slice none 0 0] 24)) from gr)
  generalize (((w.alloc _).alloc _).alloc _) = W0 at HT1 HT2 HT3 HG ⊢
  refine (tright_any _ _ _ _ _ _ g _ (by assumption) (H1.out.grown HG.out)).mono ?_
  rintro e W1 ⟨he, hW⟩
  rw [K1.out] at he
  subst he
  replace HT1 := Lib.hid (HT1.out.grown hW)
  replace HT2 := Lib.hid (HT2.out.grown hW)
  replace HT3 := Lib.hid (HT3.out.grown hW)
  replace HG := Lib.hid (grown_trans HG.out hW)
  clear hW
  obtain ⟨p0, p1, p2, p3, p4, -, -, -, -⟩ := HT1.out
  obtain ⟨q0, q1, q2, q3, q4, -, -, -, -⟩ := HT2.out
  obtain ⟨r0, r1, r2, r3, r4, r5, r6, r7, r8⟩ := HT3.out
  go_wp2_with fail
  clear p0 p1 p2 p3 p4 q0 q1 q2 q3 q4 r0 r1 r2 r3 r4 r5 r6 r7 r8
  refine (tright_any _ _ _ _ _ _ h _ (by assumption) (H2.out.grown HG.out)).mono ?_
  rintro e W2 ⟨he, hW⟩
  rw [K2.out] at he
  subst he
  replace HT1 := Lib.hid (HT1.out.grown hW)
  replace HT2 := Lib.hid (HT2.out.grown hW)
  replace HT3 := Lib.hid (HT3.out.grown hW)
  replace HG := Lib.hid (grown_trans HG.out hW)
  clear hW
  obtain ⟨p0, p1, p2, p3, p4, -, -, -, -⟩ := HT1.out
  obtain ⟨q0, q1, q2, q3, q4, -, -, -, -⟩ := HT2.out
  obtain ⟨r0, r1, r2, r3, r4, r5, r6, r7, r8⟩ := HT3.out
  go_wp2
  (try simp only [Exit.inBlock, Exit.then])
  refine bodyPost_ret (v := .tuple #[.agg #[.int .i64 0, .int .i64 0, .int .i64 0, .slice none 0 0], .int .i64 21]) ?_ rfl ⟨none, 0, rfl, Reads.nil _ _ _, by show (0 : Nat) ≤ 9223372036854775807; decide, fresh_none _, gr⟩
  rw [results_cell_tmp rfl]
  go_simp

theorem kboth_bad3 (K : Nat) (q : Int → Int → Int) (aR aC aF bR bC bF : Int) (ad bd : Option Addr) (an bn ca cb : Nat) (g h : Nat → Int) (w : World) (hn : an ≤ 9223372036854775807) (hn' : bn ≤ 9223372036854775807) (h1 : Reads ad an g w) (h2 : Reads bd bn h w) (hr : rightB aR aC aF an g = true) (hr2 : rightB bR bC bF bn h = true) (hk : ¬ (aR = bR ∧ aC = bC)) :
    Calls Try.prog 42 #[.agg #[.int .i64 aR, .int .i64 aC, .int .i64 aF, .slice ad an ca], .agg #[.int .i64 bR, .int .i64 bC, .int .i64 bF, .slice bd bn cb], .func (.func K) #[] #[]] w (TenE PT.bad 21 w) := by
  have K1 := Lib.hid (show Ending.returned (.bool (rightB aR aC aF an g)) = .returned (.bool true) by rw [hr])
  have K2 := Lib.hid (show Ending.returned (.bool (rightB bR bC bF bn h)) = .returned (.bool true) by rw [hr2])
  have hs : ((aR == bR) = false ∧ (aR != bR) = true) ∨ ((aR == bR) = true ∧ (aR != bR) = false ∧ (aC == bC) = false ∧ (aC != bC) = true) := by
    by_cases c : aR = bR
    · exact .inr ⟨by simp [c], by simp [c], by simpa using (fun d => hk ⟨c, d⟩), by simpa using (fun d => hk ⟨c, d⟩)⟩
    · exact .inl ⟨by simpa using c, by simpa using c⟩
  have H1 := Lib.hid h1
  have H2 := Lib.hid h2
  have HT1 := Lib.hid ((ten_new w (.int .i64 aR) (.int .i64 aC) (.int .i64 aF) (.slice ad an ca) 24).grown (Grown.alloc (Grown.alloc (Grown.refl _) #[.int .i64 bR, .int .i64 bC, .int .i64 bF, .slice bd bn cb] 24) #[.int .i64 0, .int .i64 0, .int .i64 0, .slice none 0 0] 24))
  have HT2 := Lib.hid ((ten_new2 w #[.int .i64 aR, .int .i64 aC, .int .i64 aF, .slice ad an ca] 24 (.int .i64 bR) (.int .i64 bC) (.int .i64 bF) (.slice bd bn cb) 24).grown (Grown.alloc (Grown.refl _) #[.int .i64 0, .int .i64 0, .int .i64 0, .slice none 0 0] 24))
  have HT3 := Lib.hid (ten_new ((w.alloc (.cells #[.int .i64 aR, .int .i64 aC, .int .i64 aF, .slice ad an ca] 24)).alloc (.cells #[.int .i64 bR, .int .i64 bC, .int .i64 bF, .slice bd bn cb] 24)) (.int .i64 0) (.int .i64 0) (.int .i64 0) (.slice none 0 0) 24)
  simp only [World.size_alloc] at HT3
  clear h1 h2
  clear hr hr2 hk
  rcases hs with ⟨e1, e2⟩ | ⟨e1, e2, e3, e4⟩
  all_goals
    go_enter Try.func42, Try.ntmps42
    go_wp2_with fail
    have HG := Lib.hid (show Grown w (((w.alloc (.cells #[.int .i64 aR, .int .i64 aC, .int .i64 aF, .slice ad an ca] 24)).alloc (.cells #[.int .i64 bR, .int .i64 bC, .int .i64 bF, .slice bd bn cb] 24)).alloc (.cells #[.int .i64 0, .int .i64 0, .int .i64 0, .slice none 0 0] 24)) from gr)
    generalize (((w.alloc _).alloc _).alloc _) = W0 at HT1 HT2 HT3 HG ⊢
    refine (tright_any _ _ _ _ _ _ g _ (by assumption) (H1.out.grown HG.out)).mono ?_
    rintro e W1 ⟨he, hW⟩
    rw [K1.out] at he
    subst he
    replace HT1 := Lib.hid (HT1.out.grown hW)
    replace HT2 := Lib.hid (HT2.out.grown hW)
    replace HT3 := Lib.hid (HT3.out.grown hW)
    replace HG := Lib.hid (grown_trans HG.out hW)
    clear hW
    obtain ⟨p0, p1, p2, p3, p4, -, -, -, -⟩ := HT1.out
    obtain ⟨q0, q1, q2, q3, q4, -, -, -, -⟩ := HT2.out
    obtain ⟨r0, r1, r2, r3, r4, r5, r6, r7, r8⟩ := HT3.out
    go_wp2_with fail
    clear p0 p1 p2 p3 p4 q0 q1 q2 q3 q4 r0 r1 r2 r3 r4 r5 r6 r7 r8
    refine (tright_any _ _ _ _ _ _ h _ (by assumption) (H2.out.grown HG.out)).mono ?_
    rintro e W2 ⟨he, hW⟩
    rw [K2.out] at he
    subst he
    replace HT1 := Lib.hid (HT1.out.grown hW)
    replace HT2 := Lib.hid (HT2.out.grown hW)
    replace HT3 := Lib.hid (HT3.out.grown hW)
    replace HG := Lib.hid (grown_trans HG.out hW)
    clear hW
    obtain ⟨p0, p1, p2, p3, p4, -, -, -, -⟩ := HT1.out
    obtain ⟨q0, q1, q2, q3, q4, -, -, -, -⟩ := HT2.out
    obtain ⟨r0, r1, r2, r3, r4, r5, r6, r7, r8⟩ := HT3.out
    go_wp2
    (try simp only [Exit.inBlock, Exit.then])
    refine bodyPost_ret (v := .tuple #[.agg #[.int .i64 0, .int .i64 0, .int .i64 0, .slice none 0 0], .int .i64 21]) ?_ rfl ⟨none, 0, rfl, Reads.nil _ _ _, by show (0 : Nat) ≤ 9223372036854775807; decide, fresh_none _, gr⟩
    rw [results_cell_tmp rfl]
    go_simp

set_option maxRecDepth 100000 in
set_option maxHeartbeats 1000000 in
theorem kboth_good (K : Nat) (q : Int → Int → Int) (aR aC aF bR bC bF : Int) (ad bd : Option Addr) (an bn ca cb : Nat) (g h : Nat → Int) (w : World) (hn : an ≤ 9223372036854775807) (hn' : bn ≤ 9223372036854775807) (h1 : Reads ad an g w) (h2 : Reads bd bn h w) (hr : rightB aR aC aF an g = true) (hr2 : rightB bR bC bF bn h = true) (ha : an ≤ 16777216) (hb : bn ≤ 16777216) (h0 : an = 0 ∨ 0 < bn) (hk1 : bR = aR) (hk2 : bC = aC) (hKE : Enters K) (hop : OpsC K q w) :
    Calls Try.prog 42 #[.agg #[.int .i64 aR, .int .i64 aC, .int .i64 aF, .slice ad an ca], .agg #[.int .i64 bR, .int .i64 bC, .int .i64 bF, .slice bd bn cb], .func (.func K) #[] #[]] w (TenE ⟨aR, aC, 2, an, fun t => q (widV aF g t) (widV bF h (t % bn))⟩ 0 w) := by
  subst hk1 hk2
  have e1 : (bR == bR) = true := by simp
  have e2 : (bR != bR) = false := by simp
  have e3 : (bC == bC) = true := by simp
  have e4 : (bC != bC) = false := by simp
  have HO := Lib.hid hop
  clear hop
  have K1 := Lib.hid (show Ending.returned (.bool (rightB bR bC aF an g)) = .returned (.bool true) by rw [hr])
  have K2 := Lib.hid (show Ending.returned (.bool (rightB bR bC bF bn h)) = .returned (.bool true) by rw [hr2])
  have H1 := Lib.hid h1
  have H2 := Lib.hid h2
  have HT1 := Lib.hid ((ten_new w (.int .i64 bR) (.int .i64 bC) (.int .i64 aF) (.slice ad an ca) 24).grown (Grown.alloc (Grown.alloc (Grown.refl _) #[.int .i64 bR, .int .i64 bC, .int .i64 bF, .slice bd bn cb] 24) #[.int .i64 0, .int .i64 0, .int .i64 0, .slice none 0 0] 24))
  have HT2 := Lib.hid ((ten_new2 w #[.int .i64 bR, .int .i64 bC, .int .i64 aF, .slice ad an ca] 24 (.int .i64 bR) (.int .i64 bC) (.int .i64 bF) (.slice bd bn cb) 24).grown (Grown.alloc (Grown.refl _) #[.int .i64 0, .int .i64 0, .int .i64 0, .slice none 0 0] 24))
  have HT3 := Lib.hid (ten_new ((w.alloc (.cells #[.int .i64 bR, .int .i64 bC, .int .i64 aF, .slice ad an ca] 24)).alloc (.cells #[.int .i64 bR, .int .i64 bC, .int .i64 bF, .slice bd bn cb] 24)) (.int .i64 0) (.int .i64 0) (.int .i64 0) (.slice none 0 0) 24)
  simp only [World.size_alloc] at HT3
  clear h1 h2
  have H0 := Lib.hid h0
  clear hr hr2 h0
  go_enter Try.func42, Try.ntmps42
  go_wp2_with fail
  have HG := Lib.hid (show Grown w (((w.alloc (.cells #[.int .i64 bR, .int .i64 bC, .int .i64 aF, .slice ad an ca] 24)).alloc (.cells #[.int .i64 bR, .int .i64 bC, .int .i64 bF, .slice bd bn cb] 24)).alloc (.cells #[.int .i64 0, .int .i64 0, .int .i64 0, .slice none 0 0] 24)) from gr)
  generalize (((w.alloc _).alloc _).alloc _) = W0 at HT1 HT2 HT3 HG ⊢
  refine (tright_any _ _ _ _ _ _ g _ (by assumption) (H1.out.grown HG.out)).mono ?_
  rintro e W1 ⟨he, hW⟩
  rw [K1.out] at he
  subst he
  replace HT1 := Lib.hid (HT1.out.grown hW)
  replace HT2 := Lib.hid (HT2.out.grown hW)
  replace HT3 := Lib.hid (HT3.out.grown hW)
  replace HG := Lib.hid (grown_trans HG.out hW)
  clear hW
  obtain ⟨p0, p1, p2, p3, p4, -, -, -, -⟩ := HT1.out
  obtain ⟨q0, q1, q2, q3, q4, -, -, -, -⟩ := HT2.out
  obtain ⟨r0, r1, r2, r3, r4, r5, r6, r7, r8⟩ := HT3.out
  go_wp2_with fail
  clear p0 p1 p2 p3 p4 q0 q1 q2 q3 q4 r0 r1 r2 r3 r4 r5 r6 r7 r8
  refine (tright_any _ _ _ _ _ _ h _ (by assumption) (H2.out.grown HG.out)).mono ?_
  rintro e W2 ⟨he, hW⟩
  rw [K2.out] at he
  subst he
  replace HT1 := Lib.hid (HT1.out.grown hW)
  replace HT2 := Lib.hid (HT2.out.grown hW)
  replace HT3 := Lib.hid (HT3.out.grown hW)
  replace HG := Lib.hid (grown_trans HG.out hW)
  clear hW
  obtain ⟨p0, p1, p2, p3, p4, -, -, -, -⟩ := HT1.out
  obtain ⟨q0, q1, q2, q3, q4, -, -, -, -⟩ := HT2.out
  obtain ⟨r0, r1, r2, r3, r4, r5, r6, r7, r8⟩ := HT3.out
  go_wp2_with fail
  have n1 : ¬ w.heap.size + 1 + 1 = w.heap.size := by omega
  have n2 : ¬ w.heap.size + 1 + 1 = w.heap.size + 1 := by omega
  have n3 : w.heap.size ≤ w.heap.size + 1 + 1 := by omega
  generalize w.heap.size + 1 + 1 = z at HT3 n1 n2 n3 r0 r1 r2 r3 r4 r5 r6 r7 r8 ⊢
  go_region_held3 (fun w' => w'.cell? ⟨w.heap.size, 0, none⟩ = some (.int .i64 bR) ∧ w'.cell? ⟨w.heap.size, 1, none⟩ = some (.int .i64 bC) ∧ w'.cell? ⟨w.heap.size, 2, none⟩ = some (.int .i64 aF) ∧ w'.cell? ⟨w.heap.size, 3, none⟩ = some (.slice ad an ca) ∧ w'.cell? ⟨w.heap.size + 1, 0, none⟩ = some (.int .i64 bR) ∧ w'.cell? ⟨w.heap.size + 1, 1, none⟩ = some (.int .i64 bC) ∧ w'.cell? ⟨w.heap.size + 1, 2, none⟩ = some (.int .i64 bF) ∧ w'.cell? ⟨w.heap.size + 1, 3, none⟩ = some (.slice bd bn cb)) (go_keep) (first
    | (go_at_call 40; refine (kwide_any bR bC bF bd bn cb h _ hb (H2.out.grown gr)).mono ?_; rintro e W6 ⟨pd, pc, rfl, own6, -, hW⟩; replace hW : Grown W2 W6 := grown_trans gr hW; have HP := Lib.hid (own6.reads (fun t _ => wid_bd bF h t)); replace HG := Lib.hid (grown_trans HG.out hW); replace HT1 := Lib.hid (HT1.out.grown hW); replace HT2 := Lib.hid (HT2.out.grown hW); replace HT3 := Lib.hid (HT3.out.grown hW); clear p0 p1 p2 p3 p4 q0 q1 q2 q3 q4 r0 r1 r2 r3 r4 r5 r6 r7 r8; obtain ⟨p0, p1, p2, p3, p4, -, -, -, -⟩ := HT1.out; obtain ⟨q0, q1, q2, q3, q4, -, -, -, -⟩ := HT2.out; obtain ⟨r0, r1, r2, r3, r4, r5, r6, r7, r8⟩ := HT3.out; clear own6 hW)
    | (go_at_call 39; refine (keach_any K q bR bC aF ad pd an ca bn pc g (fun i => widV bF h i) _ ha hb (H1.out.grown HG.out) HP.out H0.out hKE (HO.out.grown HG.out)).mono ?_; rintro e W7 ⟨xd, xc, rfl, own7, hbd, hW⟩; have HF := Lib.hid (own7.fresh.off HT3.out.lies); have HFF := Lib.hid (own7.fresh.back HG.out); have HR := Lib.hid (own7.reads hbd); replace HG := Lib.hid (grown_trans HG.out hW); replace HT1 := Lib.hid (HT1.out.grown hW); replace HT2 := Lib.hid (HT2.out.grown hW); replace HT3 := Lib.hid (HT3.out.grown hW); clear p0 p1 p2 p3 p4 q0 q1 q2 q3 q4 r0 r1 r2 r3 r4 r5 r6 r7 r8; obtain ⟨p0, p1, p2, p3, p4, -, -, -, -⟩ := HT1.out; obtain ⟨q0, q1, q2, q3, q4, -, -, -, -⟩ := HT2.out; obtain ⟨r0, r1, r2, r3, r4, r5, r6, r7, r8⟩ := HT3.out; clear own7 hbd hW))
  go_wp2
  (try simp only [Exit.inBlock, Exit.then])
  refine bodyPost_ret (v := .tuple #[.agg #[.int .i64 bR, .int .i64 bC, .int .i64 2, .slice xd an xc], .int .i64 0]) ?_ rfl ⟨_, _, rfl, ?_, (show an ≤ 9223372036854775807 by omega), HFF.out, gr⟩
  · rw [results_cell_tmp rfl]
    go_simp
  · exact (((HR.out.set HF.out _).set HF.out _).set HF.out _).set HF.out _

theorem kbias_bad1 (aR aC aF bR bC bF : Int) (ad bd : Option Addr) (an bn ca cb : Nat) (g h : Nat → Int) (w : World) (hn : an ≤ 9223372036854775807) (hn' : bn ≤ 9223372036854775807) (h1 : Reads ad an g w) (h2 : Reads bd bn h w) (hr : rightB aR aC aF an g = false) :
    Calls Try.prog 22 #[.agg #[.int .i64 aR, .int .i64 aC, .int .i64 aF, .slice ad an ca], .agg #[.int .i64 bR, .int .i64 bC, .int .i64 bF, .slice bd bn cb]] w (TenE PT.bad 21 w) := by
  have K1 := Lib.hid (show Ending.returned (.bool (rightB aR aC aF an g)) = .returned (.bool false) by rw [hr])
  have H1 := Lib.hid h1
  have H2 := Lib.hid h2
  have HT1 := Lib.hid ((ten_new w (.int .i64 aR) (.int .i64 aC) (.int .i64 aF) (.slice ad an ca) 24).grown (Grown.alloc (Grown.alloc (Grown.refl _) #[.int .i64 bR, .int .i64 bC, .int .i64 bF, .slice bd bn cb] 24) #[.int .i64 0, .int .i64 0, .int .i64 0, .slice none 0 0] 24))
  have HT2 := Lib.hid ((ten_new2 w #[.int .i64 aR, .int .i64 aC, .int .i64 aF, .slice ad an ca] 24 (.int .i64 bR) (.int .i64 bC) (.int .i64 bF) (.slice bd bn cb) 24).grown (Grown.alloc (Grown.refl _) #[.int .i64 0, .int .i64 0, .int .i64 0, .slice none 0 0] 24))
  have HT3 := Lib.hid (ten_new ((w.alloc (.cells #[.int .i64 aR, .int .i64 aC, .int .i64 aF, .slice ad an ca] 24)).alloc (.cells #[.int .i64 bR, .int .i64 bC, .int .i64 bF, .slice bd bn cb] 24)) (.int .i64 0) (.int .i64 0) (.int .i64 0) (.slice none 0 0) 24)
  simp only [World.size_alloc] at HT3
  clear h1 h2
  clear hr
  go_enter Try.func22, Try.ntmps22
  go_wp2_with fail
  have HG := Lib.hid (show Grown w (((w.alloc (.cells #[.int .i64 aR, .int .i64 aC, .int .i64 aF, .slice ad an ca] 24)).alloc (.cells #[.int .i64 bR, .int .i64 bC, .int .i64 bF, .slice bd bn cb] 24)).alloc (.cells #[.int .i64 0, .int .i64 0, .int .i64 0, .slice none 0 0] 24)) from gr)
  generalize (((w.alloc _).alloc _).alloc _) = W0 at HT1 HT2 HT3 HG ⊢
  refine (tright_any _ _ _ _ _ _ g _ (by assumption) (H1.out.grown HG.out)).mono ?_
  rintro e W1 ⟨he, hW⟩
  rw [K1.out] at he
  subst he
  replace HT1 := Lib.hid (HT1.out.grown hW)
  replace HT2 := Lib.hid (HT2.out.grown hW)
  replace HT3 := Lib.hid (HT3.out.grown hW)
  replace HG := Lib.hid (grown_trans HG.out hW)
  clear hW
  obtain ⟨p0, p1, p2, p3, p4, -, -, -, -⟩ := HT1.out
  obtain ⟨q0, q1, q2, q3, q4, -, -, -, -⟩ := HT2.out
  obtain ⟨r0, r1, r2, r3, r4, r5, r6, r7, r8⟩ := HT3.out
  go_wp2
  (try simp only [Exit.inBlock, Exit.then])
  refine bodyPost_ret (v := .tuple #[.agg #[.int .i64 0, .int .i64 0, .int .i64 0, .slice none 0 0], .int .i64 21]) ?_ rfl ⟨none, 0, rfl, Reads.nil _ _ _, by show (0 : Nat) ≤ 9223372036854775807; decide, fresh_none _, gr⟩
  rw [results_cell_tmp rfl]
  go_simp

theorem kbias_bad2 (aR aC aF bR bC bF : Int) (ad bd : Option Addr) (an bn ca cb : Nat) (g h : Nat → Int) (w : World) (hn : an ≤ 9223372036854775807) (hn' : bn ≤ 9223372036854775807) (h1 : Reads ad an g w) (h2 : Reads bd bn h w) (hr : rightB aR aC aF an g = true) (hr2 : rightB bR bC bF bn h = false) :
    Calls Try.prog 22 #[.agg #[.int .i64 aR, .int .i64 aC, .int .i64 aF, .slice ad an ca], .agg #[.int .i64 bR, .int .i64 bC, .int .i64 bF, .slice bd bn cb]] w (TenE PT.bad 21 w) := by
  have K1 := Lib.hid (show Ending.returned (.bool (rightB aR aC aF an g)) = .returned (.bool true) by rw [hr])
  have K2 := Lib.hid (show Ending.returned (.bool (rightB bR bC bF bn h)) = .returned (.bool false) by rw [hr2])
  have H1 := Lib.hid h1
  have H2 := Lib.hid h2
  have HT1 := Lib.hid ((ten_new w (.int .i64 aR) (.int .i64 aC) (.int .i64 aF) (.slice ad an ca) 24).grown (Grown.alloc (Grown.alloc (Grown.refl _) #[.int .i64 bR, .int .i64 bC, .int .i64 bF, .slice bd bn cb] 24) #[.int .i64 0, .int .i64 0, .int .i64 0, .slice none 0 0] 24))
  have HT2 := Lib.hid ((ten_new2 w #[.int .i64 aR, .int .i64 aC, .int .i64 aF, .slice ad an ca] 24 (.int .i64 bR) (.int .i64 bC) (.int .i64 bF) (.slice bd bn cb) 24).grown (Grown.alloc (Grown.refl _) #[.int .i64 0, .int .i64 0, .int .i64 0, .slice none 0 0] 24))
  have HT3 := Lib.hid (ten_new ((w.alloc (.cells #[.int .i64 aR, .int .i64 aC, .int .i64 aF, .slice ad an ca] 24)).alloc (.cells #[.int .i64 bR, .int .i64 bC, .int .i64 bF, .slice bd bn cb] 24)) (.int .i64 0) (.int .i64 0) (.int .i64 0) (.slice none 0 0) 24)
  simp only [World.size_alloc] at HT3
  clear h1 h2
  clear hr hr2
  go_enter Try.func22, Try.ntmps22
  go_wp2_with fail
  have HG := Lib.hid (show Grown w (((w.alloc (.cells #[.int .i64 aR, .int .i64 aC, .int .i64 aF, .slice ad an ca] 24)).alloc (.cells #[.int .i64 bR, .int .i64 bC, .int .i64 bF, .slice bd bn cb] 24)).alloc (.cells #[.int .i64 0, .int .i64 0, .int .i64 0, .slice none 0 0] 24)) from gr)
  generalize (((w.alloc _).alloc _).alloc _) = W0 at HT1 HT2 HT3 HG ⊢
  refine (tright_any _ _ _ _ _ _ g _ (by assumption) (H1.out.grown HG.out)).mono ?_
  rintro e W1 ⟨he, hW⟩
  rw [K1.out] at he
  subst he
  replace HT1 := Lib.hid (HT1.out.grown hW)
  replace HT2 := Lib.hid (HT2.out.grown hW)
  replace HT3 := Lib.hid (HT3.out.grown hW)
  replace HG := Lib.hid (grown_trans HG.out hW)
  clear hW
  obtain ⟨p0, p1, p2, p3, p4, -, -, -, -⟩ := HT1.out
  obtain ⟨q0, q1, q2, q3, q4, -, -, -, -⟩ := HT2.out
  obtain ⟨r0, r1, r2, r3, r4, r5, r6, r7, r8⟩ := HT3.out
  go_wp2_with fail
  clear p0 p1 p2 p3 p4 q0 q1 q2 q3 q4 r0 r1 r2 r3 r4 r5 r6 r7 r8
  refine (tright_any _ _ _ _ _ _ h _ (by assumption) (H2.out.grown HG.out)).mono ?_
  rintro e W2 ⟨he, hW⟩
  rw [K2.out] at he
  subst he
  replace HT1 := Lib.hid (HT1.out.grown hW)
  replace HT2 := Lib.hid (HT2.out.grown hW)
  replace HT3 := Lib.hid (HT3.out.grown hW)
  replace HG := Lib.hid (grown_trans HG.out hW)
  clear hW
  obtain ⟨p0, p1, p2, p3, p4, -, -, -, -⟩ := HT1.out
  obtain ⟨q0, q1, q2, q3, q4, -, -, -, -⟩ := HT2.out
  obtain ⟨r0, r1, r2, r3, r4, r5, r6, r7, r8⟩ := HT3.out
  go_wp2
  (try simp only [Exit.inBlock, Exit.then])
  refine bodyPost_ret (v := .tuple #[.agg #[.int .i64 0, .int .i64 0, .int .i64 0, .slice none 0 0], .int .i64 21]) ?_ rfl ⟨none, 0, rfl, Reads.nil _ _ _, by show (0 : Nat) ≤ 9223372036854775807; decide, fresh_none _, gr⟩
  rw [results_cell_tmp rfl]
  go_simp

theorem kbias_bad3 (aR aC aF bR bC bF : Int) (ad bd : Option Addr) (an bn ca cb : Nat) (g h : Nat → Int) (w : World) (hn : an ≤ 9223372036854775807) (hn' : bn ≤ 9223372036854775807) (h1 : Reads ad an g w) (h2 : Reads bd bn h w) (hr : rightB aR aC aF an g = true) (hr2 : rightB bR bC bF bn h = true) (hk : ¬ (bR = 1 ∧ bC = aC)) :
    Calls Try.prog 22 #[.agg #[.int .i64 aR, .int .i64 aC, .int .i64 aF, .slice ad an ca], .agg #[.int .i64 bR, .int .i64 bC, .int .i64 bF, .slice bd bn cb]] w (TenE PT.bad 21 w) := by
  have K1 := Lib.hid (show Ending.returned (.bool (rightB aR aC aF an g)) = .returned (.bool true) by rw [hr])
  have K2 := Lib.hid (show Ending.returned (.bool (rightB bR bC bF bn h)) = .returned (.bool true) by rw [hr2])
  have hs : ((bR == 1) = false ∧ (bR != 1) = true) ∨ ((bR == 1) = true ∧ (bR != 1) = false ∧ (bC == aC) = false ∧ (bC != aC) = true) := by
    by_cases c : bR = 1
    · exact .inr ⟨by simp [c], by simp [c], by simpa using (fun d => hk ⟨c, d⟩), by simpa using (fun d => hk ⟨c, d⟩)⟩
    · exact .inl ⟨by simpa using c, by simpa using c⟩
  have H1 := Lib.hid h1
  have H2 := Lib.hid h2
  have HT1 := Lib.hid ((ten_new w (.int .i64 aR) (.int .i64 aC) (.int .i64 aF) (.slice ad an ca) 24).grown (Grown.alloc (Grown.alloc (Grown.refl _) #[.int .i64 bR, .int .i64 bC, .int .i64 bF, .slice bd bn cb] 24) #[.int .i64 0, .int .i64 0, .int .i64 0, .slice none 0 0] 24))
  have HT2 := Lib.hid ((ten_new2 w #[.int .i64 aR, .int .i64 aC, .int .i64 aF, .slice ad an ca] 24 (.int .i64 bR) (.int .i64 bC) (.int .i64 bF) (.slice bd bn cb) 24).grown (Grown.alloc (Grown.refl _) #[.int .i64 0, .int .i64 0, .int .i64 0, .slice none 0 0] 24))
  have HT3 := Lib.hid (ten_new ((w.alloc (.cells #[.int .i64 aR, .int .i64 aC, .int .i64 aF, .slice ad an ca] 24)).alloc (.cells #[.int .i64 bR, .int .i64 bC, .int .i64 bF, .slice bd bn cb] 24)) (.int .i64 0) (.int .i64 0) (.int .i64 0) (.slice none 0 0) 24)
  simp only [World.size_alloc] at HT3
  clear h1 h2
  clear hr hr2 hk
  rcases hs with ⟨e1, e2⟩ | ⟨e1, e2, e3, e4⟩
  all_goals
    go_enter Try.func22, Try.ntmps22
    go_wp2_with fail
    have HG := Lib.hid (show Grown w (((w.alloc (.cells #[.int .i64 aR, .int .i64 aC, .int .i64 aF, .slice ad an ca] 24)).alloc (.cells #[.int .i64 bR, .int .i64 bC, .int .i64 bF, .slice bd bn cb] 24)).alloc (.cells #[.int .i64 0, .int .i64 0, .int .i64 0, .slice none 0 0] 24)) from gr)
    generalize (((w.alloc _).alloc _).alloc _) = W0 at HT1 HT2 HT3 HG ⊢
    refine (tright_any _ _ _ _ _ _ g _ (by assumption) (H1.out.grown HG.out)).mono ?_
    rintro e W1 ⟨he, hW⟩
    rw [K1.out] at he
    subst he
    replace HT1 := Lib.hid (HT1.out.grown hW)
    replace HT2 := Lib.hid (HT2.out.grown hW)
    replace HT3 := Lib.hid (HT3.out.grown hW)
    replace HG := Lib.hid (grown_trans HG.out hW)
    clear hW
    obtain ⟨p0, p1, p2, p3, p4, -, -, -, -⟩ := HT1.out
    obtain ⟨q0, q1, q2, q3, q4, -, -, -, -⟩ := HT2.out
    obtain ⟨r0, r1, r2, r3, r4, r5, r6, r7, r8⟩ := HT3.out
    go_wp2_with fail
    clear p0 p1 p2 p3 p4 q0 q1 q2 q3 q4 r0 r1 r2 r3 r4 r5 r6 r7 r8
    refine (tright_any _ _ _ _ _ _ h _ (by assumption) (H2.out.grown HG.out)).mono ?_
    rintro e W2 ⟨he, hW⟩
    rw [K2.out] at he
    subst he
    replace HT1 := Lib.hid (HT1.out.grown hW)
    replace HT2 := Lib.hid (HT2.out.grown hW)
    replace HT3 := Lib.hid (HT3.out.grown hW)
    replace HG := Lib.hid (grown_trans HG.out hW)
    clear hW
    obtain ⟨p0, p1, p2, p3, p4, -, -, -, -⟩ := HT1.out
    obtain ⟨q0, q1, q2, q3, q4, -, -, -, -⟩ := HT2.out
    obtain ⟨r0, r1, r2, r3, r4, r5, r6, r7, r8⟩ := HT3.out
    go_wp2
    (try simp only [Exit.inBlock, Exit.then])
    refine bodyPost_ret (v := .tuple #[.agg #[.int .i64 0, .int .i64 0, .int .i64 0, .slice none 0 0], .int .i64 21]) ?_ rfl ⟨none, 0, rfl, Reads.nil _ _ _, by show (0 : Nat) ≤ 9223372036854775807; decide, fresh_none _, gr⟩
    rw [results_cell_tmp rfl]
    go_simp

set_option maxRecDepth 100000 in
set_option maxHeartbeats 1000000 in
theorem kbias_good (aR aC aF bR bC bF : Int) (ad bd : Option Addr) (an bn ca cb : Nat) (g h : Nat → Int) (w : World) (hn : an ≤ 9223372036854775807) (hn' : bn ≤ 9223372036854775807) (h1 : Reads ad an g w) (h2 : Reads bd bn h w) (hr : rightB aR aC aF an g = true) (hr2 : rightB bR bC bF bn h = true) (ha : an ≤ 16777216) (hb : bn ≤ 16777216) (h0 : an = 0 ∨ 0 < bn) (hk1 : bR = 1) (hk2 : bC = aC) :
    Calls Try.prog 22 #[.agg #[.int .i64 aR, .int .i64 aC, .int .i64 aF, .slice ad an ca], .agg #[.int .i64 bR, .int .i64 bC, .int .i64 bF, .slice bd bn cb]] w (TenE ⟨aR, aC, 2, an, fun t => addV (widV aF g t) (widV bF h (t % bn))⟩ 0 w) := by
  subst hk1 hk2
  have e3 : (bC == bC) = true := by simp
  have e4 : (bC != bC) = false := by simp
  have HO := Lib.hid (kplus_op w)
  have hKE := kplus_enters
  have K1 := Lib.hid (show Ending.returned (.bool (rightB aR bC aF an g)) = .returned (.bool true) by rw [hr])
  have K2 := Lib.hid (show Ending.returned (.bool (rightB 1 bC bF bn h)) = .returned (.bool true) by rw [hr2])
  have H1 := Lib.hid h1
  have H2 := Lib.hid h2
  have HT1 := Lib.hid ((ten_new w (.int .i64 aR) (.int .i64 bC) (.int .i64 aF) (.slice ad an ca) 24).grown (Grown.alloc (Grown.alloc (Grown.refl _) #[.int .i64 1, .int .i64 bC, .int .i64 bF, .slice bd bn cb] 24) #[.int .i64 0, .int .i64 0, .int .i64 0, .slice none 0 0] 24))
  have HT2 := Lib.hid ((ten_new2 w #[.int .i64 aR, .int .i64 bC, .int .i64 aF, .slice ad an ca] 24 (.int .i64 1) (.int .i64 bC) (.int .i64 bF) (.slice bd bn cb) 24).grown (Grown.alloc (Grown.refl _) #[.int .i64 0, .int .i64 0, .int .i64 0, .slice none 0 0] 24))
  have HT3 := Lib.hid (ten_new ((w.alloc (.cells #[.int .i64 aR, .int .i64 bC, .int .i64 aF, .slice ad an ca] 24)).alloc (.cells #[.int .i64 1, .int .i64 bC, .int .i64 bF, .slice bd bn cb] 24)) (.int .i64 0) (.int .i64 0) (.int .i64 0) (.slice none 0 0) 24)
  simp only [World.size_alloc] at HT3
  clear h1 h2
  have H0 := Lib.hid h0
  clear hr hr2 h0
  go_enter Try.func22, Try.ntmps22
  go_wp2_with fail
  have HG := Lib.hid (show Grown w (((w.alloc (.cells #[.int .i64 aR, .int .i64 bC, .int .i64 aF, .slice ad an ca] 24)).alloc (.cells #[.int .i64 1, .int .i64 bC, .int .i64 bF, .slice bd bn cb] 24)).alloc (.cells #[.int .i64 0, .int .i64 0, .int .i64 0, .slice none 0 0] 24)) from gr)
  generalize (((w.alloc _).alloc _).alloc _) = W0 at HT1 HT2 HT3 HG ⊢
  refine (tright_any _ _ _ _ _ _ g _ (by assumption) (H1.out.grown HG.out)).mono ?_
  rintro e W1 ⟨he, hW⟩
  rw [K1.out] at he
  subst he
  replace HT1 := Lib.hid (HT1.out.grown hW)
  replace HT2 := Lib.hid (HT2.out.grown hW)
  replace HT3 := Lib.hid (HT3.out.grown hW)
  replace HG := Lib.hid (grown_trans HG.out hW)
  clear hW
  obtain ⟨p0, p1, p2, p3, p4, -, -, -, -⟩ := HT1.out
  obtain ⟨q0, q1, q2, q3, q4, -, -, -, -⟩ := HT2.out
  obtain ⟨r0, r1, r2, r3, r4, r5, r6, r7, r8⟩ := HT3.out
  go_wp2_with fail
  clear p0 p1 p2 p3 p4 q0 q1 q2 q3 q4 r0 r1 r2 r3 r4 r5 r6 r7 r8
  refine (tright_any _ _ _ _ _ _ h _ (by assumption) (H2.out.grown HG.out)).mono ?_
  rintro e W2 ⟨he, hW⟩
  rw [K2.out] at he
  subst he
  replace HT1 := Lib.hid (HT1.out.grown hW)
  replace HT2 := Lib.hid (HT2.out.grown hW)
  replace HT3 := Lib.hid (HT3.out.grown hW)
  replace HG := Lib.hid (grown_trans HG.out hW)
  clear hW
  obtain ⟨p0, p1, p2, p3, p4, -, -, -, -⟩ := HT1.out
  obtain ⟨q0, q1, q2, q3, q4, -, -, -, -⟩ := HT2.out
  obtain ⟨r0, r1, r2, r3, r4, r5, r6, r7, r8⟩ := HT3.out
  go_wp2_with fail
  have n1 : ¬ w.heap.size + 1 + 1 = w.heap.size := by omega
  have n2 : ¬ w.heap.size + 1 + 1 = w.heap.size + 1 := by omega
  have n3 : w.heap.size ≤ w.heap.size + 1 + 1 := by omega
  generalize w.heap.size + 1 + 1 = z at HT3 n1 n2 n3 r0 r1 r2 r3 r4 r5 r6 r7 r8 ⊢
  go_region_held3 (fun w' => w'.cell? ⟨w.heap.size, 0, none⟩ = some (.int .i64 aR) ∧ w'.cell? ⟨w.heap.size, 1, none⟩ = some (.int .i64 bC) ∧ w'.cell? ⟨w.heap.size, 2, none⟩ = some (.int .i64 aF) ∧ w'.cell? ⟨w.heap.size, 3, none⟩ = some (.slice ad an ca) ∧ w'.cell? ⟨w.heap.size + 1, 0, none⟩ = some (.int .i64 1) ∧ w'.cell? ⟨w.heap.size + 1, 1, none⟩ = some (.int .i64 bC) ∧ w'.cell? ⟨w.heap.size + 1, 2, none⟩ = some (.int .i64 bF) ∧ w'.cell? ⟨w.heap.size + 1, 3, none⟩ = some (.slice bd bn cb)) (go_keep) (first
    | (go_at_call 40; refine (kwide_any 1 bC bF bd bn cb h _ hb (H2.out.grown gr)).mono ?_; rintro e W6 ⟨pd, pc, rfl, own6, -, hW⟩; replace hW : Grown W2 W6 := grown_trans gr hW; have HP := Lib.hid (own6.reads (fun t _ => wid_bd bF h t)); replace HG := Lib.hid (grown_trans HG.out hW); replace HT1 := Lib.hid (HT1.out.grown hW); replace HT2 := Lib.hid (HT2.out.grown hW); replace HT3 := Lib.hid (HT3.out.grown hW); clear p0 p1 p2 p3 p4 q0 q1 q2 q3 q4 r0 r1 r2 r3 r4 r5 r6 r7 r8; obtain ⟨p0, p1, p2, p3, p4, -, -, -, -⟩ := HT1.out; obtain ⟨q0, q1, q2, q3, q4, -, -, -, -⟩ := HT2.out; obtain ⟨r0, r1, r2, r3, r4, r5, r6, r7, r8⟩ := HT3.out; clear own6 hW)
    | (go_at_call 39; refine (keach_any 41 addV aR bC aF ad pd an ca bn pc g (fun i => widV bF h i) _ ha hb (H1.out.grown HG.out) HP.out H0.out hKE (HO.out.grown HG.out)).mono ?_; rintro e W7 ⟨xd, xc, rfl, own7, hbd, hW⟩; have HF := Lib.hid (own7.fresh.off HT3.out.lies); have HFF := Lib.hid (own7.fresh.back HG.out); have HR := Lib.hid (own7.reads hbd); replace HG := Lib.hid (grown_trans HG.out hW); replace HT1 := Lib.hid (HT1.out.grown hW); replace HT2 := Lib.hid (HT2.out.grown hW); replace HT3 := Lib.hid (HT3.out.grown hW); clear p0 p1 p2 p3 p4 q0 q1 q2 q3 q4 r0 r1 r2 r3 r4 r5 r6 r7 r8; obtain ⟨p0, p1, p2, p3, p4, -, -, -, -⟩ := HT1.out; obtain ⟨q0, q1, q2, q3, q4, -, -, -, -⟩ := HT2.out; obtain ⟨r0, r1, r2, r3, r4, r5, r6, r7, r8⟩ := HT3.out; clear own7 hbd hW))
  go_wp2
  (try simp only [Exit.inBlock, Exit.then])
  refine bodyPost_ret (v := .tuple #[.agg #[.int .i64 aR, .int .i64 bC, .int .i64 2, .slice xd an xc], .int .i64 0]) ?_ rfl ⟨_, _, rfl, ?_, (show an ≤ 9223372036854775807 by omega), HFF.out, gr⟩
  · rw [results_cell_tmp rfl]
    go_simp
  · exact (((HR.out.set HF.out _).set HF.out _).set HF.out _).set HF.out _

theorem kbias_any (aR aC aF bR bC bF : Int) (ad bd : Option Addr) (an bn ca cb : Nat) (g h : Nat → Int) (w : World) (hn : an ≤ 9223372036854775807) (hn' : bn ≤ 9223372036854775807) (h1 : Reads ad an g w) (h2 : Reads bd bn h w) :
    Calls Try.prog 22 #[.agg #[.int .i64 aR, .int .i64 aC, .int .i64 aF, .slice ad an ca], .agg #[.int .i64 bR, .int .i64 bC, .int .i64 bF, .slice bd bn cb]] w (TenE (browT ⟨aR, aC, aF, an, g⟩ ⟨bR, bC, bF, bn, h⟩) (browX ⟨aR, aC, aF, an, g⟩ ⟨bR, bC, bF, bn, h⟩) w) := by
  unfold browT browX PT.right
  dsimp only
  cases hr : rightB aR aC aF an g
  · exact kbias_bad1 aR aC aF bR bC bF ad bd an bn ca cb g h w hn hn' h1 h2 hr
  · cases hr2 : rightB bR bC bF bn h
    · exact kbias_bad2 aR aC aF bR bC bF ad bd an bn ca cb g h w hn hn' h1 h2 hr hr2
    · by_cases hk : bR = 1 ∧ bC = aC
      · obtain ⟨r, c, e1, e2, l1, l2, e3⟩ := right_nat (t := ⟨aR, aC, aF, an, g⟩) hr
        obtain ⟨r', c', f1, f2, l3, l4, f3⟩ := right_nat (t := ⟨bR, bC, bF, bn, h⟩) hr2
        simp only at e1 e2 e3 f1 f2 f3
        obtain ⟨_, m1⟩ := wrap_mul r c an l1 l2 e3.symm
        obtain ⟨_, m2⟩ := wrap_mul r' c' bn l3 l4 f3.symm
        obtain ⟨hk1, hk2⟩ := hk
        have j1 : r' = 1 := by omega
        have j2 : c' = c := by omega
        have j3 : bn = aC.toNat := by rw [f3, j1, j2, Nat.one_mul]; omega
        have j4 : bn = c := by rw [f3, j1, j2, Nat.one_mul]
        rw [if_pos (by simp [hk1, hk2]), if_pos (by simp [hk1, hk2])]
        exact (kbias_good aR aC aF bR bC bF ad bd an bn ca cb g h w hn hn' h1 h2 hr hr2 m1 m2 (by
          rcases Nat.eq_zero_or_pos bn with e | e
          · left; rw [e3, ← j4, e, Nat.mul_zero]
          · exact .inr e) hk1 hk2).mono fun e w' q => q.like rfl rfl rfl rfl (fun i hi => by dsimp only; rw [j3])
      · rw [if_neg (by simpa using hk), if_neg (by simpa using hk)]
        exact kbias_bad3 aR aC aF bR bC bF ad bd an bn ca cb g h w hn hn' h1 h2 hr hr2 hk

def bothT (q : Int → Int → Int) (a b : PT) : PT :=
  if a.right && b.right && (a.R == b.R && a.C == b.C) then ⟨a.R, a.C, 2, a.n, fun t => q (widV a.F a.g t) (widV b.F b.g t)⟩ else PT.bad

theorem kboth_any (K : Nat) (q : Int → Int → Int) (aR aC aF bR bC bF : Int) (ad bd : Option Addr) (an bn ca cb : Nat) (g h : Nat → Int) (w : World) (hn : an ≤ 9223372036854775807) (hn' : bn ≤ 9223372036854775807) (h1 : Reads ad an g w) (h2 : Reads bd bn h w) (hKE : Enters K) (hop : OpsC K q w) :
    Calls Try.prog 42 #[.agg #[.int .i64 aR, .int .i64 aC, .int .i64 aF, .slice ad an ca], .agg #[.int .i64 bR, .int .i64 bC, .int .i64 bF, .slice bd bn cb], .func (.func K) #[] #[]] w (TenE (bothT q ⟨aR, aC, aF, an, g⟩ ⟨bR, bC, bF, bn, h⟩) (each0X ⟨aR, aC, aF, an, g⟩ ⟨bR, bC, bF, bn, h⟩) w) := by
  unfold bothT each0X PT.right
  dsimp only
  cases hr : rightB aR aC aF an g
  · exact kboth_bad1 K q aR aC aF bR bC bF ad bd an bn ca cb g h w hn hn' h1 h2 hr
  · cases hr2 : rightB bR bC bF bn h
    · exact kboth_bad2 K q aR aC aF bR bC bF ad bd an bn ca cb g h w hn hn' h1 h2 hr hr2
    · by_cases hk : aR = bR ∧ aC = bC
      · obtain ⟨r, c, e1, e2, l1, l2, e3⟩ := right_nat (t := ⟨aR, aC, aF, an, g⟩) hr
        obtain ⟨r', c', f1, f2, l3, l4, f3⟩ := right_nat (t := ⟨bR, bC, bF, bn, h⟩) hr2
        simp only at e1 e2 e3 f1 f2 f3
        obtain ⟨_, m1⟩ := wrap_mul r c an l1 l2 e3.symm
        obtain ⟨_, m2⟩ := wrap_mul r' c' bn l3 l4 f3.symm
        obtain ⟨hk1, hk2⟩ := hk
        have j1 : r' = r := by omega
        have j2 : c' = c := by omega
        have j3 : bn = an := by rw [f3, e3, j1, j2]
        rw [if_pos (by simp [hk1, hk2]), if_pos (by simp [hk1, hk2])]
        exact (kboth_good K q aR aC aF bR bC bF ad bd an bn ca cb g h w hn hn' h1 h2 hr hr2 m1 m2 (by omega) hk1.symm hk2.symm hKE hop).mono fun e w' q => q.like rfl rfl rfl rfl (fun i hi => by
          dsimp only at hi ⊢
          rw [j3, Nat.mod_eq_of_lt hi])
      · rw [if_neg (by simpa using hk), if_neg (by simpa using hk)]
        exact kboth_bad3 K q aR aC aF bR bC bF ad bd an bn ca cb g h w hn hn' h1 h2 hr hr2 hk

set_option maxHeartbeats 1000000 in
theorem kadd_any (aR aC aF bR bC bF : Int) (ad bd : Option Addr) (an bn ca cb : Nat) (g h : Nat → Int) (w : World) (hn : an ≤ 9223372036854775807) (hn' : bn ≤ 9223372036854775807) (h1 : Reads ad an g w) (h2 : Reads bd bn h w) :
    Calls Try.prog 23 #[.agg #[.int .i64 aR, .int .i64 aC, .int .i64 aF, .slice ad an ca], .agg #[.int .i64 bR, .int .i64 bC, .int .i64 bF, .slice bd bn cb]] w (TenE (each0T ⟨aR, aC, aF, an, g⟩ ⟨bR, bC, bF, bn, h⟩) (each0X ⟨aR, aC, aF, an, g⟩ ⟨bR, bC, bF, bn, h⟩) w) := by
  have H1 := Lib.hid h1
  have H2 := Lib.hid h2
  obtain ⟨T, hT⟩ : ∃ T, each0T ⟨aR, aC, aF, an, g⟩ ⟨bR, bC, bF, bn, h⟩ = T := ⟨_, rfl⟩
  obtain ⟨X, hX⟩ : ∃ X, each0X ⟨aR, aC, aF, an, g⟩ ⟨bR, bC, bF, bn, h⟩ = X := ⟨_, rfl⟩
  rw [hT, hX]
  obtain ⟨tR, tC, tF, tn, tg⟩ := T
  have HTT : Hid (bothT addV ⟨aR, aC, aF, an, g⟩ ⟨bR, bC, bF, bn, h⟩ = ⟨tR, tC, tF, tn, tg⟩) := Lib.hid hT
  have HXX : Hid (each0X ⟨aR, aC, aF, an, g⟩ ⟨bR, bC, bF, bn, h⟩ = X) := Lib.hid hX
  have HT3 := Lib.hid (ten_new ((w.alloc (.cells #[.int .i64 aR, .int .i64 aC, .int .i64 aF, .slice ad an ca] 24)).alloc (.cells #[.int .i64 bR, .int .i64 bC, .int .i64 bF, .slice bd bn cb] 24)) (.int .i64 0) (.int .i64 0) (.int .i64 0) (.slice none 0 0) 24)
  simp only [World.size_alloc] at HT3
  clear h1 h2 hT hX
  go_enter Try.func23, Try.ntmps23
  go_wp2_with fail
  have HG := Lib.hid (show Grown w (((w.alloc (.cells #[.int .i64 aR, .int .i64 aC, .int .i64 aF, .slice ad an ca] 24)).alloc (.cells #[.int .i64 bR, .int .i64 bC, .int .i64 bF, .slice bd bn cb] 24)).alloc (.cells #[.int .i64 0, .int .i64 0, .int .i64 0, .slice none 0 0] 24)) from gr)
  generalize (((w.alloc _).alloc _).alloc _) = W0 at HT3 HG ⊢
  refine (kboth_any 41 addV aR aC aF bR bC bF ad bd an bn ca cb g h _ hn hn' (H1.out.grown HG.out) (H2.out.grown HG.out) kplus_enters (kplus_op _)).mono ?_
  rw [HTT.out, HXX.out]
  rintro e W1 ⟨xd, xc, rfl, hR, hxn, hf, hW⟩
  dsimp only at hR hxn ⊢
  have HF := Lib.hid (hf.off HT3.out.lies)
  have HF2 := Lib.hid (hf.back HG.out)
  have HR := Lib.hid hR
  have HN := Lib.hid hxn
  obtain ⟨r0, r1, r2, r3, r4, r5, r6, r7, r8⟩ := HT3.out.grown hW
  replace HG := Lib.hid (grown_trans HG.out hW)
  clear hW hf hR hxn
  go_wp2
  (try simp only [Exit.inBlock, Exit.then])
  refine bodyPost_ret (v := .tuple #[.agg #[.int .i64 tR, .int .i64 tC, .int .i64 tF, .slice xd tn xc], .int .i64 X]) ?_ rfl ⟨_, _, rfl, ?_, HN.out, HF2.out, gr⟩
  · rw [results_cell_tmp rfl]
    go_simp
  · exact (((HR.out.set HF.out _).set HF.out _).set HF.out _).set HF.out _

/-- What holds of the memory of Sums: the boxes, the row of sums, the list of numbers. -/
structure SuS (w : World) (B M : Nat) (t0 t1 t2 t3 : Value) (h : Nat → Int) (ld : Option Addr) (ln : Nat) (u : Nat → Int) (W : World) : Prop where
  e : EaS w B M t0 t1 t2 t3 h W
  l : Reads ld ln u W
  ne : ∀ x, ld = some x → x.block ≠ B

theorem SuS.grown {w : World} {B M : Nat} {t0 t1 t2 t3 : Value} {h : Nat → Int} {ld : Option Addr} {ln : Nat} {u : Nat → Int} {W W' : World} (s : SuS w B M t0 t1 t2 t3 h ld ln u W) (g : Grown W W') : SuS w B M t0 t1 t2 t3 h ld ln u W' :=
  ⟨s.e.grown g, s.l.grown g, s.ne⟩

theorem SuS.set {w : World} {B M : Nat} {t0 t1 t2 t3 : Value} {h h' : Nat → Int} {ld : Option Addr} {ln : Nat} {u : Nat → Int} {W : World} (s : SuS w B M t0 t1 t2 t3 h ld ln u W) {j : Nat} {v : Int} (e1 : h' j = v) (e2 : ∀ t, t ≠ j → h' t = h t) : SuS w B M t0 t1 t2 t3 h' ld ln u (W.setCell ⟨B, j, none⟩ (.int .u32 v)) :=
  ⟨s.e.set e1 e2, s.l.set (a := ⟨B, j, none⟩) s.ne _, s.ne⟩

theorem div_at (I J n : Nat) (h : J < n) : (I * n + J) / n = I ∧ (I * n + J) % n = J := by
  rw [Nat.mul_comm I n, Nat.mul_add_div (by omega), Nat.div_eq_of_lt h, Nat.mul_add_mod, Nat.mod_eq_of_lt h]
  exact ⟨rfl, rfl⟩

theorem Reads.part {b n : Nat} {u : Nat → Int} {W : World} (h : Reads (some ⟨b, 0, none⟩) n u W) (L k : Nat) (hl : L + k ≤ n) (hk : 0 < k) : Reads (some ⟨b, L, none⟩) k (fun i => u (L + i)) W := by
  refine ⟨fun i hi => h.1 (L + i) (by omega), ?_⟩
  rcases h.2 with e | ⟨b', off, e, hb, hc⟩
  · omega
  · cases e
    exact .inr ⟨b, L, rfl, hb, fun i hi => by have := hc (L + i) (by omega); rw [Nat.zero_add] at this; exact this⟩

set_option maxRecDepth 100000 in
set_option maxHeartbeats 4000000 in
/-- dots: at i, j the Dot of the one's list i, the other's list j. -/
theorem kdots_good (Ka Kb : Nat) (aR aC aF bR bC bF : Int) (ad bd : Option Addr) (an bn ca cb : Nat) (g h : Nat → Int) (m n k xn yn : Nat) (xF yF : Int) (xg yg : Nat → Int) (w : World) (h1 : Reads ad an g w) (h2 : Reads bd bn h w) (hKa : Enters Ka) (hKb : Enters Kb)
    (ha : ListsC Ka ⟨aR, aC, aF, an, g⟩ ⟨m, k, xF, xn, xg⟩ 0 w) (hb : ListsC Kb ⟨bR, bC, bF, bn, h⟩ ⟨n, k, yF, yn, yg⟩ 0 w) (hm : m ≤ 4096) (hn : n ≤ 4096) (hk : k ≤ 4096) (hxn : xn = m * k) (hyn : yn = n * k) :
    Calls Try.prog 27 #[.agg #[.int .i64 aR, .int .i64 aC, .int .i64 aF, .slice ad an ca], .agg #[.int .i64 bR, .int .i64 bC, .int .i64 bF, .slice bd bn cb], .func (.func Ka) #[] #[], .func (.func Kb) #[] #[]] w (TenE ⟨m, n, 2, m * n, fun t => dotV (fun x => widV xF xg (t / n * k + x)) (fun x => widV yF yg (t % n * k + x)) k⟩ 0 w) := by
  obtain ⟨hM, hM2⟩ := wrap_mul m n (m * n) hm hn rfl
  obtain ⟨-, hX2⟩ := wrap_mul m k xn hm hk hxn.symm
  obtain ⟨-, hY2⟩ := wrap_mul n k yn hn hk hyn.symm
  have HXN := Lib.hid hxn
  have HYN := Lib.hid hyn
  obtain ⟨G, hG⟩ : ∃ G : Nat → Int, (fun t => dotV (fun x => widV xF xg (t / n * k + x)) (fun x => widV yF yg (t % n * k + x)) k) = G := ⟨_, rfl⟩
  have HGG := Lib.hid (show ∀ t, dotV (fun x => widV xF xg (t / n * k + x)) (fun x => widV yF yg (t % n * k + x)) k = G t from fun t => by rw [← hG])
  rw [hG]
  obtain ⟨M, hMM⟩ : ∃ M, m * n = M := ⟨_, rfl⟩
  rw [hMM] at hM hM2 ⊢
  have HMM := Lib.hid hMM
  have H1 := Lib.hid h1
  have H2 := Lib.hid h2
  have HA := Lib.hid ha
  have HB := Lib.hid hb
  have HT1 := Lib.hid ((ten_new w (.int .i64 aR) (.int .i64 aC) (.int .i64 aF) (.slice ad an ca) 24).grown (Grown.alloc (Grown.alloc (Grown.refl _) #[.int .i64 bR, .int .i64 bC, .int .i64 bF, .slice bd bn cb] 24) #[.int .i64 0, .int .i64 0, .int .i64 0, .slice none 0 0] 24))
  have HT2 := Lib.hid ((ten_new2 w #[.int .i64 aR, .int .i64 aC, .int .i64 aF, .slice ad an ca] 24 (.int .i64 bR) (.int .i64 bC) (.int .i64 bF) (.slice bd bn cb) 24).grown (Grown.alloc (Grown.refl _) #[.int .i64 0, .int .i64 0, .int .i64 0, .slice none 0 0] 24))
  have HT3 := Lib.hid (ten_new ((w.alloc (.cells #[.int .i64 aR, .int .i64 aC, .int .i64 aF, .slice ad an ca] 24)).alloc (.cells #[.int .i64 bR, .int .i64 bC, .int .i64 bF, .slice bd bn cb] 24)) (.int .i64 0) (.int .i64 0) (.int .i64 0) (.slice none 0 0) 24)
  simp only [World.size_alloc] at HT3
  clear h1 h2 ha hb hG hxn hyn hMM
  go_enter Try.func27, Try.ntmps27
  go_wp2_with fail
  have HG := Lib.hid (show Grown w (((w.alloc (.cells #[.int .i64 aR, .int .i64 aC, .int .i64 aF, .slice ad an ca] 24)).alloc (.cells #[.int .i64 bR, .int .i64 bC, .int .i64 bF, .slice bd bn cb] 24)).alloc (.cells #[.int .i64 0, .int .i64 0, .int .i64 0, .slice none 0 0] 24)) from gr)
  generalize (((w.alloc _).alloc _).alloc _) = W0 at HT1 HT2 HT3 HG ⊢
  rw [hKa]
  show Calls Try.prog Ka _ _ _
  refine (HA.out ad ca _ HG.out (H1.out.grown HG.out)).mono ?_
  rintro e W1 ⟨xd, xc, rfl, hxr, hxl, hW1⟩
  dsimp only at hxr hxl ⊢
  replace HT2 := Lib.hid (HT2.out.grown hW1)
  replace HT3 := Lib.hid (HT3.out.grown hW1)
  replace HG := Lib.hid (grown_trans HG.out hW1)
  obtain ⟨p0, p1, p2, p3, p4, -, -, -, -⟩ := HT2.out
  have HXR := Lib.hid hxr
  clear hW1 HT1 HA hxr hxl
  go_wp2_with fail
  have HX := Lib.hid (ten_new W1 (.int .i64 m) (.int .i64 k) (.int .i64 xF) (.slice xd xn xc) 24)
  have HG2 := Lib.hid (show Grown w (W1.alloc (.cells #[.int .i64 m, .int .i64 k, .int .i64 xF, .slice xd xn xc] 24)) from gr)
  have HL := Lib.hid HT3.out.lies
  replace HXR := Lib.hid (HXR.out.grown (Grown.alloc (Grown.refl _) #[.int .i64 m, .int .i64 k, .int .i64 xF, .slice xd xn xc] 24))
  replace HT3 := Lib.hid (HT3.out.grown (Grown.alloc (Grown.refl _) #[.int .i64 m, .int .i64 k, .int .i64 xF, .slice xd xn xc] 24))
  generalize W1.heap.size = bx at HX HL ⊢
  clear p0 p1 p2 p3 p4 HG HT2
  generalize (W1.alloc _) = W2 at HX HG2 HT3 HXR ⊢
  rw [hKb]
  show Calls Try.prog Kb _ _ _
  refine (HB.out bd cb _ HG2.out (H2.out.grown HG2.out)).mono ?_
  rintro e W3 ⟨yd, yc, rfl, hyr, hyl, hW3⟩
  dsimp only at hyr hyl ⊢
  replace HX := Lib.hid (HX.out.grown hW3)
  replace HT3 := Lib.hid (HT3.out.grown hW3)
  replace HXR := Lib.hid (HXR.out.grown hW3)
  replace HG2 := Lib.hid (grown_trans HG2.out hW3)
  have HYR := Lib.hid hyr
  clear hW3 HB hyr H1 H2 hKa hKb hyl
  have e1 : ((k : Int) == (k : Int)) = true := by simp
  have e2 : ((k : Int) != (k : Int)) = false := by simp
  have HLx := Lib.hid HX.out.lies
  obtain ⟨p0, p1, p2, p3, p4, -, -, -, -⟩ := HX.out
  have HL3 := Lib.hid HT3.out.lies
  have HY := Lib.hid (ten_new W3 (.int .i64 n) (.int .i64 k) (.int .i64 yF) (.slice yd yn yc) 24)
  replace HX := Lib.hid (HX.out.grown (Grown.alloc (Grown.refl _) #[.int .i64 n, .int .i64 k, .int .i64 yF, .slice yd yn yc] 24))
  replace HT3 := Lib.hid (HT3.out.grown (Grown.alloc (Grown.refl _) #[.int .i64 n, .int .i64 k, .int .i64 yF, .slice yd yn yc] 24))
  replace HXR := Lib.hid (HXR.out.grown (Grown.alloc (Grown.refl _) #[.int .i64 n, .int .i64 k, .int .i64 yF, .slice yd yn yc] 24))
  replace HYR := Lib.hid (HYR.out.grown (Grown.alloc (Grown.refl _) #[.int .i64 n, .int .i64 k, .int .i64 yF, .slice yd yn yc] 24))
  replace HG2 := Lib.hid (show Grown w (W3.alloc (.cells #[.int .i64 n, .int .i64 k, .int .i64 yF, .slice yd yn yc] 24)) from gr)
  go_wp2_with fail
  clear p0 p1 p2 p3 p4
  generalize W3.heap.size = by' at HY HLx HL3 ⊢
  generalize (W3.alloc _) = W4 at HX HY HG2 HT3 HXR HYR ⊢
  obtain ⟨p0, p1, p2, p3, p4, -, -, -, -⟩ := HX.out
  obtain ⟨q0, q1, q2, q3, q4, -, -, -, -⟩ := HY.out
  go_region_held3 (fun w' => w'.cell? ⟨bx, 0, none⟩ = some (.int .i64 m) ∧ w'.cell? ⟨bx, 1, none⟩ = some (.int .i64 k) ∧ w'.cell? ⟨bx, 2, none⟩ = some (.int .i64 xF) ∧ w'.cell? ⟨bx, 3, none⟩ = some (.slice xd xn xc) ∧ w'.cell? ⟨by', 0, none⟩ = some (.int .i64 n) ∧ w'.cell? ⟨by', 1, none⟩ = some (.int .i64 k) ∧ w'.cell? ⟨by', 2, none⟩ = some (.int .i64 yF) ∧ w'.cell? ⟨by', 3, none⟩ = some (.slice yd yn yc)) (go_keep) (first
    | (go_at_call 40; (with_reducible refine (kwide_any m k xF xd xn xc xg _ hX2 (HXR.out.grown gr)).mono ?_); rintro e W5 ⟨sd, sc, rfl, own5, lay5, hW⟩; replace hW : Grown W4 W5 := grown_trans gr hW; have HSX := Lib.hid (own5.reads (fun t _ => wid_bd xF xg t)); have HLX := Lib.hid lay5; replace HX := Lib.hid (HX.out.grown hW); replace HY := Lib.hid (HY.out.grown hW); replace HT3 := Lib.hid (HT3.out.grown hW); replace HXR := Lib.hid (HXR.out.grown hW); replace HYR := Lib.hid (HYR.out.grown hW); replace HG2 := Lib.hid (grown_trans HG2.out hW); clear p0 p1 p2 p3 p4 q0 q1 q2 q3 q4; obtain ⟨p0, p1, p2, p3, p4, -, -, -, -⟩ := HX.out; obtain ⟨q0, q1, q2, q3, q4, -, -, -, -⟩ := HY.out; clear own5 lay5 hW)
    | (go_at_call 40; (with_reducible refine (kwide_any n k yF yd yn yc yg _ hY2 (HYR.out.grown gr)).mono ?_); rintro e W6 ⟨ud, uc, rfl, own6, lay6, hW⟩; replace hW : Grown W5 W6 := grown_trans gr hW; have HSY := Lib.hid (own6.reads (fun t _ => wid_bd yF yg t)); have HLY := Lib.hid lay6; replace HSX := Lib.hid (HSX.out.grown hW); replace HX := Lib.hid (HX.out.grown hW); replace HY := Lib.hid (HY.out.grown hW); replace HT3 := Lib.hid (HT3.out.grown hW); replace HXR := Lib.hid (HXR.out.grown hW); replace HYR := Lib.hid (HYR.out.grown hW); replace HG2 := Lib.hid (grown_trans HG2.out hW); clear p0 p1 p2 p3 p4 q0 q1 q2 q3 q4; obtain ⟨p0, p1, p2, p3, p4, -, -, -, -⟩ := HX.out; obtain ⟨q0, q1, q2, q3, q4, -, -, -, -⟩ := HY.out; clear own6 lay6 hW))
  have hmk := run_make_cap (P := Try.prog) 22 37 (.int .u32 0) 4 Try.underlying22 (by kernel_rfl) rfl .i64 .i64 M (by omega) (by omega)
  have HS : Hid (DoS W6 G 0 (.slice (some ⟨W6.heap.size, 0, none⟩) 0 M) (W6.alloc (.cells (madeCells #[.int .u32 0] M) 37))) :=
    Lib.hid ⟨gr, owns_cap W6 _ M _ _ (Nat.le_refl _) (by show M ≤ 9223372036854775807; omega)⟩
  go_wp2
  clear hmk p0 p1 p2 p3 p4 q0 q1 q2 q3 q4 HXR HYR e1 e2
  generalize W6.alloc _ = W7 at HS ⊢
  generalize Value.slice (some ⟨W6.heap.size, 0, none⟩) 0 M = V7 at HS ⊢
  go_loopw [17, 62] (fun v i wr => ∃ I : Nat, I ≤ m ∧ i = .int .i64 I ∧ Hid (DoS W6 G (I * n) v wr)) (fun _ i _ => m - (intOf i).toNat)
  case atStart => exact ⟨0, Nat.zero_le _, rfl, by rw [Nat.zero_mul]; exact HS⟩
  case round =>
    rename World => wr
    clear HS
    obtain ⟨I, hI, rfl, HS⟩ := hrel
    by_cases hI2 : I < m
    · obtain ⟨q0, q1, q2, q3, q4, -, -, -, -⟩ := HY.out.grown HS.out.g
      go_wp2_with fail
      clear q0 q1 q2 q3 q4
      go_loopw [17, 67] (fun v i wr => ∃ J : Nat, J ≤ n ∧ i = .int .i64 J ∧ Hid (DoS W6 G (I * n + J) v wr)) (fun _ i _ => n - (intOf i).toNat)
      case atStart => exact ⟨0, Nat.zero_le _, rfl, HS⟩
      case round =>
        rename World => wr1
        clear HS
        obtain ⟨J, hJ, rfl, HS⟩ := hrel
        by_cases hJ2 : J < n
        · have hlt : I * n + J < M := by
            rw [← HMM.out]
            have := Nat.mul_le_mul_right n (show I + 1 ≤ m by omega)
            rw [Nat.add_mul, Nat.one_mul] at this
            omega
          have HL := Lib.hid hlt
          obtain ⟨d1, d2⟩ := div_at I J n hJ2
          have HD : Hid (G (I * n + J) = dotV (fun x => widV xF xg (I * k + x)) (fun x => widV yF yg (J * k + x)) k) := Lib.hid (by rw [← HGG.out, d1, d2])
          obtain ⟨Kn, hKn⟩ : ∃ Kn, I * n + J = Kn := ⟨_, rfl⟩
          rw [hKn] at HS HL HD
          have HKN := Lib.hid hKn
          clear hlt d1 d2 hKn
          rcases Nat.eq_zero_or_pos k with hk0 | hk0
          · obtain ⟨rfl, rfl⟩ := HLX.out.1 (by rw [HXN.out, hk0, Nat.mul_zero])
            obtain ⟨rfl, rfl⟩ := HLY.out.1 (by rw [HYN.out, hk0, Nat.mul_zero])
            have HX0 : Hid (G Kn = 0) := Lib.hid (by rw [HD.out, hk0]; rfl)
            have x1 : IntKind.i64.wrap ((I : Int) * (k : Int)) = 0 := by rw [hk0]; simp; decide
            have x2 : IntKind.i64.wrap ((I : Int) + 1) = (I : Int) + 1 := by rw [IntKind.wrap_i64]; omega
            have x3 : IntKind.i64.wrap (((I : Int) + 1) * (k : Int)) = 0 := by rw [hk0]; simp; decide
            have y1 : IntKind.i64.wrap ((J : Int) * (k : Int)) = 0 := by rw [hk0]; simp; decide
            have y2 : IntKind.i64.wrap ((J : Int) + 1) = (J : Int) + 1 := by rw [IntKind.wrap_i64]; omega
            have y3 : IntKind.i64.wrap (((J : Int) + 1) * (k : Int)) = 0 := by rw [hk0]; simp; decide
            clear HD hk0
            go_wp2_with fail
            go_region_held3 (fun w' => True) (go_keep) (first
              | (go_at_call 19; refine (kdot_same none none 0 0 0 (fun _ => 0) (fun _ => 0) _ (by decide) (Reads.nil _ _ _) (Reads.nil _ _ _)).mono ?_; rintro e W8 ⟨he, hW⟩; rw [show dotV (fun _ => 0) (fun _ => 0) 0 = 0 from rfl] at he; subst he; replace hW : Grown wr1 W8 := grown_trans gr hW; replace HS := Lib.hid (HS.out.grown hW); clear hW))
            go_wp2_with (at_builtin; refine wpList_append_one rfl _ _ 22 rfl 37 _ _ 4 rfl rfl rfl rfl rfl rfl W6.heap.size _ Kn (wordsL Kn G) rfl (HS.out.own.alloc _) W8.heap.size (.int .u32 0) rfl (by go_simp) rfl (by have := HL.out; show Kn + 1 ≤ 9223372036854775807; omega) (by have := HL.out; show (Kn + 1) * 4 ≤ 140737488355328; omega) (by have := HS.out.g.2.2; simp; omega) ?_; intro gg cc W9 own9 hb9 hs9 hblk hcell hfr hgr; have HN9 := Lib.hid ((HS.out.grown (Grown.alloc (Grown.refl W8) #[.int .u32 0] 37)).next HX0.out own9 hgr); clear own9 hb9 hs9 hblk hcell hfr hgr)
            go_roundw
            case rel => exact ⟨J + 1, by omega, by go_num, by rw [← Nat.add_assoc, HKN.out]; exact HN9⟩
            case measure => simp [intOf]; omega
          · obtain ⟨L1, E1, x1, x2, x3, x4, x5, x6⟩ := row_any I m k hI2 hm hk
            obtain ⟨L2, E2, y1, y2, y3, y4, y5, y6⟩ := row_any J n k hJ2 hn hk
            rw [← HXN.out] at x4
            rw [← HYN.out] at y4
            obtain ⟨cx, bx1, rfl⟩ := HLX.out.2 (by omega)
            obtain ⟨cy, by1, rfl⟩ := HLY.out.2 (by omega)
            have hc1 : ¬ sc = L1 := by omega
            have hc2 : ¬ uc = L2 := by omega
            have z1 : L1 ≤ E1 := by omega
            have z2 : E1 ≤ sc := by omega
            have z3 : L2 ≤ E2 := by omega
            have z4 : E2 ≤ uc := by omega
            have he1 : E1 - L1 = k := by omega
            have he2 : E2 - L2 = k := by omega
            rw [x6, y6] at HD
            have R1 := Lib.hid ((HSX.out.grown HS.out.g).part L1 k (by omega) hk0)
            have R2 := Lib.hid ((HSY.out.grown HS.out.g).part L2 k (by omega) hk0)
            obtain ⟨X, hX⟩ : ∃ X, dotV (fun x => widV xF xg (L1 + x)) (fun x => widV yF yg (L2 + x)) k = X := ⟨_, rfl⟩
            have HX0 := Lib.hid (HD.out.trans hX)
            have HXX := Lib.hid hX
            clear hX HD x6 y6
            go_wp2_with fail
            go_region_held3 (fun w' => True) (go_keep) (first
              | (go_at_call 19; refine (kdot_same _ _ k _ _ _ _ _ (by omega) (R1.out.grown gr) (R2.out.grown gr)).mono ?_; rintro e W8 ⟨he, hW⟩; rw [HXX.out] at he; subst he; replace hW : Grown wr1 W8 := grown_trans gr hW; replace HS := Lib.hid (HS.out.grown hW); clear hW))
            go_wp2_with (at_builtin; refine wpList_append_one rfl _ _ 22 rfl 37 _ _ 4 rfl rfl rfl rfl rfl rfl W6.heap.size _ Kn (wordsL Kn G) rfl (HS.out.own.alloc _) W8.heap.size (.int .u32 X) rfl (by go_simp) rfl (by have := HL.out; show Kn + 1 ≤ 9223372036854775807; omega) (by have := HL.out; show (Kn + 1) * 4 ≤ 140737488355328; omega) (by have := HS.out.g.2.2; simp; omega) ?_; intro gg cc W9 own9 hb9 hs9 hblk hcell hfr hgr; have HN9 := Lib.hid ((HS.out.grown (Grown.alloc (Grown.refl W8) #[.int .u32 X] 37)).next HX0.out own9 hgr); clear own9 hb9 hs9 hblk hcell hfr hgr)
            go_roundw
            case rel => exact ⟨J + 1, by omega, by go_num, by rw [← Nat.add_assoc, HKN.out]; exact HN9⟩
            case measure => simp [intOf]; omega
        · obtain rfl : J = n := by omega
          go_wp2
          go_roundw
          case rel => exact ⟨I + 1, by omega, by go_num, by rw [Nat.add_mul, Nat.one_mul]; exact HS⟩
          case measure => simp [intOf]; omega
    · obtain rfl : I = m := by omega
      have HS' := HS
      rw [HMM.out] at HS'
      obtain ⟨zd, zc, rfl, hO, hbl⟩ := owns_told (w := W6) HS'.out.own (Nat.le_refl _)
      have HO := Lib.hid (hO.reads (fun t _ => by rw [← HGG.out]; exact dotV_bd _ _ _))
      have HF : Hid (∀ x, zd = some x → x.block ≠ w.heap.size + 1 + 1) := Lib.hid fun x hx => by have := hbl x hx; have := HT3.out.lies; omega
      have HFF := Lib.hid (hO.fresh.back HG2.out)
      obtain ⟨p0, p1, p2, p3, p4, -, -, -, -⟩ := HX.out.grown HS'.out.g
      obtain ⟨q0, q1, q2, q3, q4, -, -, -, -⟩ := HY.out.grown HS'.out.g
      obtain ⟨r0, r1, r2, r3, r4, r5, r6, r7, r8⟩ := HT3.out.grown HS'.out.g
      have HG := Lib.hid (grown_trans HG2.out HS'.out.g)
      clear HS HS' hO hbl
      go_wp2
      (try simp only [Exit.inBlock, Exit.then])
      refine bodyPost_ret (v := .tuple #[.agg #[.int .i64 I, .int .i64 n, .int .i64 2, .slice zd M zc], .int .i64 0]) ?_ rfl ⟨_, _, rfl, ?_, (show M ≤ 9223372036854775807 by omega), HFF.out, gr⟩
      · rw [results_cell_tmp rfl]
        go_simp
      · exact (((HO.out.set HF.out _).set HF.out _).set HF.out _).set HF.out _

/-- A tensor's rows, or its columns as rows. -/
def lisT (t : Bool) (a : PT) : PT := if t then turnT a else asisT a

theorem lis_good (t : Bool) (a : PT) (r c : Nat) (h : a.right = true) (hR : a.R = r) (hC : a.C = c) :
    lisT t a = ⟨((if t then c else r : Nat) : Int), ((if t then r else c : Nat) : Int), a.F, a.n, fun i => if t then a.g (tunP r c i) else a.g i⟩ := by
  obtain ⟨aR, aC, aF, an, g⟩ := a
  dsimp only at hR hC
  subst hR hC
  cases t
  · show asisT _ = _
    unfold asisT
    rw [h]
    rfl
  · show turnT _ = _
    unfold turnT
    rw [h]
    simp

theorem lis_at (t : Bool) (F : Int) (g : Nat → Int) (r c I x : Nat) (hx : x < (if t then r else c)) : widV F (fun i => if t then g (tunP r c i) else g i) (I * (if t then r else c) + x) = widV F g (ixI t c I x) := by
  unfold widV ixI
  cases t
  · rfl
  · show conV F 2 0 (g (tunP r c (I * r + x))) = conV F 2 0 (g (x * c + I))
    rw [tunP_at r c x I hx]

theorem dots_ok (t t' : Bool) (a b : PT) (r c r' c' : Nat) (ha : a.right = true) (hb : b.right = true) (hR : a.R = r) (hC : a.C = c) (hR' : b.R = r') (hC' : b.C = c') :
    prodM a t = ((if t then c else r : Nat) : Int) ∧ prodK a t = ((if t then r else c : Nat) : Int) ∧ prodK b (!t') = ((if t' then c' else r' : Nat) : Int) ∧ prodM b (!t') = ((if t' then r' else c' : Nat) : Int) ∧
    prodOk a b t (!t') = decide ((if t then r else c) = (if t' then r' else c')) := by
  have m1 : prodM a t = ((if t then c else r : Nat) : Int) := by unfold prodM; rw [hR, hC]; cases t <;> rfl
  have m2 : prodK a t = ((if t then r else c : Nat) : Int) := by unfold prodK; rw [hR, hC]; cases t <;> rfl
  have m3 : prodK b (!t') = ((if t' then c' else r' : Nat) : Int) := by unfold prodK; rw [hR', hC']; cases t' <;> rfl
  have m4 : prodM b (!t') = ((if t' then r' else c' : Nat) : Int) := by unfold prodM; rw [hR', hC']; cases t' <;> rfl
  refine ⟨m1, m2, m3, m4, ?_⟩
  unfold prodOk
  rw [ha, hb, m2, m4]
  rw [Bool.eq_iff_iff]
  simp only [Bool.true_and, beq_iff_eq, decide_eq_true_eq]
  exact Int.ofNat_inj

theorem kdots_any (t t' : Bool) (Ka Kb : Nat) (aR aC aF bR bC bF : Int) (ad bd : Option Addr) (an bn ca cb : Nat) (g h : Nat → Int) (w : World) (hn : an ≤ 9223372036854775807) (hn' : bn ≤ 9223372036854775807) (h1 : Reads ad an g w) (h2 : Reads bd bn h w) (hKa : Enters Ka) (hKb : Enters Kb) (ha : ListsC Ka ⟨aR, aC, aF, an, g⟩ (lisT t ⟨aR, aC, aF, an, g⟩) (turnX ⟨aR, aC, aF, an, g⟩) w) (hb : ListsC Kb ⟨bR, bC, bF, bn, h⟩ (lisT t' ⟨bR, bC, bF, bn, h⟩) (turnX ⟨bR, bC, bF, bn, h⟩) w) :
    Calls Try.prog 27 #[.agg #[.int .i64 aR, .int .i64 aC, .int .i64 aF, .slice ad an ca], .agg #[.int .i64 bR, .int .i64 bC, .int .i64 bF, .slice bd bn cb], .func (.func Ka) #[] #[], .func (.func Kb) #[] #[]] w (TenE (prodT ⟨aR, aC, aF, an, g⟩ ⟨bR, bC, bF, bn, h⟩ t (!t')) (prodX ⟨aR, aC, aF, an, g⟩ ⟨bR, bC, bF, bn, h⟩ t (!t')) w) := by
  have hY : turnX ⟨bR, bC, bF, bn, h⟩ = 0 ∨ turnX ⟨bR, bC, bF, bn, h⟩ = 21 := by unfold turnX; split <;> simp
  cases hr : PT.right ⟨aR, aC, aF, an, g⟩
  · have hno : prodOk ⟨aR, aC, aF, an, g⟩ ⟨bR, bC, bF, bn, h⟩ t (!t') = false := by unfold prodOk; rw [hr]; rfl
    rw [(prod_no _ _ _ _ hno).1, (prod_no _ _ _ _ hno).2]
    exact kdots_bad Ka Kb aR aC aF bR bC bF ad bd an bn ca cb g h _ _ _ _ w h1 h2 hKa hKb ha hb (.inl ⟨by unfold turnX; rw [hr]; rfl, hY⟩)
  · have hX : turnX ⟨aR, aC, aF, an, g⟩ = 0 := by unfold turnX; rw [hr]; rfl
    cases hr2 : PT.right ⟨bR, bC, bF, bn, h⟩
    · have hno : prodOk ⟨aR, aC, aF, an, g⟩ ⟨bR, bC, bF, bn, h⟩ t (!t') = false := by unfold prodOk; rw [hr, hr2]; rfl
      rw [(prod_no _ _ _ _ hno).1, (prod_no _ _ _ _ hno).2]
      exact kdots_bad Ka Kb aR aC aF bR bC bF ad bd an bn ca cb g h _ _ _ _ w h1 h2 hKa hKb ha hb (.inr (.inl ⟨hX, by unfold turnX; rw [hr2]; rfl⟩))
    · have hY0 : turnX ⟨bR, bC, bF, bn, h⟩ = 0 := by unfold turnX; rw [hr2]; rfl
      obtain ⟨r, c, e1, e2, l1, l2, e3⟩ := right_nat hr
      obtain ⟨r', c', f1, f2, l3, l4, f3⟩ := right_nat hr2
      obtain ⟨m1, m2, m3, m4, hok⟩ := dots_ok t t' _ _ r c r' c' hr hr2 e1 e2 f1 f2
      have g1 := lis_good t _ r c hr e1 e2
      have g2 := lis_good t' _ r' c' hr2 f1 f2
      rw [hX, g1] at ha
      rw [hY0, g2] at hb
      dsimp only at e1 e2 e3 f1 f2 f3
      by_cases hk : (if t then r else c) = (if t' then r' else c')
      · rw [decide_eq_true hk] at hok
        rw [(prod_yes _ _ _ _ hok _ _ _ m1 m3 m2).1, (prod_yes _ _ _ _ hok _ _ _ m1 m3 m2).2]
        have q := kdots_good Ka Kb aR aC aF bR bC bF ad bd an bn ca cb g h (if t then c else r) (if t' then c' else r') (if t then r else c) an bn aF bF (fun i => if t then g (tunP r c i) else g i) (fun i => if t' then h (tunP r' c' i) else h i) w h1 h2 hKa hKb ha (by rw [hk]; exact hb)
          (by split <;> assumption) (by split <;> assumption) (by split <;> assumption) (by rw [e3]; cases t; rfl; exact Nat.mul_comm _ _) (by rw [hk, f3]; cases t'; rfl; exact Nat.mul_comm _ _)
        refine q.mono fun e w' z => z.like rfl rfl rfl rfl (fun i hi => ?_)
        dsimp only
        refine dotV_congr (fun x hx => ?_) (fun x hx => ?_)
        · rw [lis_at t aF g r c _ x hx, e2]
          rfl
        · rw [hk] at hx ⊢
          rw [lis_at t' bF h r' c' _ x hx, f2]
          cases t' <;> rfl
      · rw [decide_eq_false hk] at hok
        rw [(prod_no _ _ _ _ hok).1, (prod_no _ _ _ _ hok).2]
        exact kdots_bad Ka Kb aR aC aF bR bC bF ad bd an bn ca cb g h _ _ _ _ w h1 h2 hKa hKb ha hb (.inr (.inr ⟨rfl, rfl, fun e => hk (Int.ofNat_inj.1 e)⟩))

theorem kasis_enters : Enters 28 := fun args w => by kernel_rfl

theorem kturn_enters : Enters 29 := fun args w => by kernel_rfl

theorem kasis_lists (R C F : Int) (n : Nat) (g : Nat → Int) (w : World) (hn : n ≤ 9223372036854775807) : ListsC 28 ⟨R, C, F, n, g⟩ (lisT false ⟨R, C, F, n, g⟩) (turnX ⟨R, C, F, n, g⟩) w :=
  fun ad c W _ hr => kasis_any R C F ad n c g W hn hr

theorem kturn_lists (R C F : Int) (n : Nat) (g : Nat → Int) (w : World) (hn : n ≤ 9223372036854775807) : ListsC 29 ⟨R, C, F, n, g⟩ (lisT true ⟨R, C, F, n, g⟩) (turnX ⟨R, C, F, n, g⟩) w :=
  fun ad c W _ hr => (tsturn_any R C F ad n c g W hn hr).mono fun e w' q => by
    obtain ⟨xd, xc, h1, h2, h3, h4, h5⟩ := q.ten
    exact ⟨xd, xc, h1, h2, h3, h5⟩

set_option maxRecDepth 100000 in
set_option maxHeartbeats 1000000 in
theorem kplain_any (aR aC aF bR bC bF : Int) (ad bd : Option Addr) (an bn ca cb : Nat) (g h : Nat → Int) (w : World) (hn : an ≤ 9223372036854775807) (hn' : bn ≤ 9223372036854775807) (h1 : Reads ad an g w) (h2 : Reads bd bn h w) :
    Calls Try.prog 11 #[.agg #[.int .i64 aR, .int .i64 aC, .int .i64 aF, .slice ad an ca], .agg #[.int .i64 bR, .int .i64 bC, .int .i64 bF, .slice bd bn cb]] w (TenE (prodT ⟨aR, aC, aF, an, g⟩ ⟨bR, bC, bF, bn, h⟩ false false) (prodX ⟨aR, aC, aF, an, g⟩ ⟨bR, bC, bF, bn, h⟩ false false) w) := by
  have H1 := Lib.hid h1
  have H2 := Lib.hid h2
  obtain ⟨T, hT⟩ : ∃ T, prodT ⟨aR, aC, aF, an, g⟩ ⟨bR, bC, bF, bn, h⟩ false false = T := ⟨_, rfl⟩
  obtain ⟨X, hX⟩ : ∃ X, prodX ⟨aR, aC, aF, an, g⟩ ⟨bR, bC, bF, bn, h⟩ false false = X := ⟨_, rfl⟩
  rw [hT, hX]
  obtain ⟨tR, tC, tF, tn, tg⟩ := T
  have HTT : Hid (prodT ⟨aR, aC, aF, an, g⟩ ⟨bR, bC, bF, bn, h⟩ false (!true) = ⟨tR, tC, tF, tn, tg⟩) := Lib.hid hT
  have HXX : Hid (prodX ⟨aR, aC, aF, an, g⟩ ⟨bR, bC, bF, bn, h⟩ false (!true) = X) := Lib.hid hX
  have HT3 := Lib.hid (ten_new ((w.alloc (.cells #[.int .i64 aR, .int .i64 aC, .int .i64 aF, .slice ad an ca] 24)).alloc (.cells #[.int .i64 bR, .int .i64 bC, .int .i64 bF, .slice bd bn cb] 24)) (.int .i64 0) (.int .i64 0) (.int .i64 0) (.slice none 0 0) 24)
  simp only [World.size_alloc] at HT3
  clear h1 h2 hT hX
  go_enter Try.func11, Try.ntmps11
  go_wp2_with fail
  have HG := Lib.hid (show Grown w (((w.alloc (.cells #[.int .i64 aR, .int .i64 aC, .int .i64 aF, .slice ad an ca] 24)).alloc (.cells #[.int .i64 bR, .int .i64 bC, .int .i64 bF, .slice bd bn cb] 24)).alloc (.cells #[.int .i64 0, .int .i64 0, .int .i64 0, .slice none 0 0] 24)) from gr)
  generalize (((w.alloc _).alloc _).alloc _) = W0 at HT3 HG ⊢
  refine (kdots_any false true 28 29 aR aC aF bR bC bF ad bd an bn ca cb g h _ hn hn' (H1.out.grown HG.out) (H2.out.grown HG.out) kasis_enters kturn_enters (kasis_lists aR aC aF an g _ hn) (kturn_lists bR bC bF bn h _ hn')).mono ?_
  rw [HTT.out, HXX.out]
  rintro e W1 ⟨xd, xc, rfl, hR, hxn, hf, hW⟩
  dsimp only at hR hxn ⊢
  have HF := Lib.hid (hf.off HT3.out.lies)
  have HF2 := Lib.hid (hf.back HG.out)
  have HR := Lib.hid hR
  have HN := Lib.hid hxn
  obtain ⟨r0, r1, r2, r3, r4, r5, r6, r7, r8⟩ := HT3.out.grown hW
  replace HG := Lib.hid (grown_trans HG.out hW)
  clear hW hf hR hxn
  go_wp2
  (try simp only [Exit.inBlock, Exit.then])
  refine bodyPost_ret (v := .tuple #[.agg #[.int .i64 tR, .int .i64 tC, .int .i64 tF, .slice xd tn xc], .int .i64 X]) ?_ rfl ⟨_, _, rfl, ?_, HN.out, HF2.out, gr⟩
  · rw [results_cell_tmp rfl]
    go_simp
  · exact (((HR.out.set HF.out _).set HF.out _).set HF.out _).set HF.out _

set_option maxRecDepth 100000 in
set_option maxHeartbeats 1000000 in
theorem krows_any (aR aC aF bR bC bF : Int) (ad bd : Option Addr) (an bn ca cb : Nat) (g h : Nat → Int) (w : World) (hn : an ≤ 9223372036854775807) (hn' : bn ≤ 9223372036854775807) (h1 : Reads ad an g w) (h2 : Reads bd bn h w) :
    Calls Try.prog 13 #[.agg #[.int .i64 aR, .int .i64 aC, .int .i64 aF, .slice ad an ca], .agg #[.int .i64 bR, .int .i64 bC, .int .i64 bF, .slice bd bn cb]] w (TenE (prodT ⟨aR, aC, aF, an, g⟩ ⟨bR, bC, bF, bn, h⟩ false true) (prodX ⟨aR, aC, aF, an, g⟩ ⟨bR, bC, bF, bn, h⟩ false true) w) := by
  have H1 := Lib.hid h1
  have H2 := Lib.hid h2
  obtain ⟨T, hT⟩ : ∃ T, prodT ⟨aR, aC, aF, an, g⟩ ⟨bR, bC, bF, bn, h⟩ false true = T := ⟨_, rfl⟩
  obtain ⟨X, hX⟩ : ∃ X, prodX ⟨aR, aC, aF, an, g⟩ ⟨bR, bC, bF, bn, h⟩ false true = X := ⟨_, rfl⟩
  rw [hT, hX]
  obtain ⟨tR, tC, tF, tn, tg⟩ := T
  have HTT : Hid (prodT ⟨aR, aC, aF, an, g⟩ ⟨bR, bC, bF, bn, h⟩ false (!false) = ⟨tR, tC, tF, tn, tg⟩) := Lib.hid hT
  have HXX : Hid (prodX ⟨aR, aC, aF, an, g⟩ ⟨bR, bC, bF, bn, h⟩ false (!false) = X) := Lib.hid hX
  have HT3 := Lib.hid (ten_new ((w.alloc (.cells #[.int .i64 aR, .int .i64 aC, .int .i64 aF, .slice ad an ca] 24)).alloc (.cells #[.int .i64 bR, .int .i64 bC, .int .i64 bF, .slice bd bn cb] 24)) (.int .i64 0) (.int .i64 0) (.int .i64 0) (.slice none 0 0) 24)
  simp only [World.size_alloc] at HT3
  clear h1 h2 hT hX
  go_enter Try.func13, Try.ntmps13
  go_wp2_with fail
  have HG := Lib.hid (show Grown w (((w.alloc (.cells #[.int .i64 aR, .int .i64 aC, .int .i64 aF, .slice ad an ca] 24)).alloc (.cells #[.int .i64 bR, .int .i64 bC, .int .i64 bF, .slice bd bn cb] 24)).alloc (.cells #[.int .i64 0, .int .i64 0, .int .i64 0, .slice none 0 0] 24)) from gr)
  generalize (((w.alloc _).alloc _).alloc _) = W0 at HT3 HG ⊢
  refine (kdots_any false false 28 28 aR aC aF bR bC bF ad bd an bn ca cb g h _ hn hn' (H1.out.grown HG.out) (H2.out.grown HG.out) kasis_enters kasis_enters (kasis_lists aR aC aF an g _ hn) (kasis_lists bR bC bF bn h _ hn')).mono ?_
  rw [HTT.out, HXX.out]
  rintro e W1 ⟨xd, xc, rfl, hR, hxn, hf, hW⟩
  dsimp only at hR hxn ⊢
  have HF := Lib.hid (hf.off HT3.out.lies)
  have HF2 := Lib.hid (hf.back HG.out)
  have HR := Lib.hid hR
  have HN := Lib.hid hxn
  obtain ⟨r0, r1, r2, r3, r4, r5, r6, r7, r8⟩ := HT3.out.grown hW
  replace HG := Lib.hid (grown_trans HG.out hW)
  clear hW hf hR hxn
  go_wp2
  (try simp only [Exit.inBlock, Exit.then])
  refine bodyPost_ret (v := .tuple #[.agg #[.int .i64 tR, .int .i64 tC, .int .i64 tF, .slice xd tn xc], .int .i64 X]) ?_ rfl ⟨_, _, rfl, ?_, HN.out, HF2.out, gr⟩
  · rw [results_cell_tmp rfl]
    go_simp
  · exact (((HR.out.set HF.out _).set HF.out _).set HF.out _).set HF.out _

set_option maxRecDepth 100000 in
set_option maxHeartbeats 1000000 in
theorem kcols_any (aR aC aF bR bC bF : Int) (ad bd : Option Addr) (an bn ca cb : Nat) (g h : Nat → Int) (w : World) (hn : an ≤ 9223372036854775807) (hn' : bn ≤ 9223372036854775807) (h1 : Reads ad an g w) (h2 : Reads bd bn h w) :
    Calls Try.prog 15 #[.agg #[.int .i64 aR, .int .i64 aC, .int .i64 aF, .slice ad an ca], .agg #[.int .i64 bR, .int .i64 bC, .int .i64 bF, .slice bd bn cb]] w (TenE (prodT ⟨aR, aC, aF, an, g⟩ ⟨bR, bC, bF, bn, h⟩ true false) (prodX ⟨aR, aC, aF, an, g⟩ ⟨bR, bC, bF, bn, h⟩ true false) w) := by
  have H1 := Lib.hid h1
  have H2 := Lib.hid h2
  obtain ⟨T, hT⟩ : ∃ T, prodT ⟨aR, aC, aF, an, g⟩ ⟨bR, bC, bF, bn, h⟩ true false = T := ⟨_, rfl⟩
  obtain ⟨X, hX⟩ : ∃ X, prodX ⟨aR, aC, aF, an, g⟩ ⟨bR, bC, bF, bn, h⟩ true false = X := ⟨_, rfl⟩
  rw [hT, hX]
  obtain ⟨tR, tC, tF, tn, tg⟩ := T
  have HTT : Hid (prodT ⟨aR, aC, aF, an, g⟩ ⟨bR, bC, bF, bn, h⟩ true (!true) = ⟨tR, tC, tF, tn, tg⟩) := Lib.hid hT
  have HXX : Hid (prodX ⟨aR, aC, aF, an, g⟩ ⟨bR, bC, bF, bn, h⟩ true (!true) = X) := Lib.hid hX
  have HT3 := Lib.hid (ten_new ((w.alloc (.cells #[.int .i64 aR, .int .i64 aC, .int .i64 aF, .slice ad an ca] 24)).alloc (.cells #[.int .i64 bR, .int .i64 bC, .int .i64 bF, .slice bd bn cb] 24)) (.int .i64 0) (.int .i64 0) (.int .i64 0) (.slice none 0 0) 24)
  simp only [World.size_alloc] at HT3
  clear h1 h2 hT hX
  go_enter Try.func15, Try.ntmps15
  go_wp2_with fail
  have HG := Lib.hid (show Grown w (((w.alloc (.cells #[.int .i64 aR, .int .i64 aC, .int .i64 aF, .slice ad an ca] 24)).alloc (.cells #[.int .i64 bR, .int .i64 bC, .int .i64 bF, .slice bd bn cb] 24)).alloc (.cells #[.int .i64 0, .int .i64 0, .int .i64 0, .slice none 0 0] 24)) from gr)
  generalize (((w.alloc _).alloc _).alloc _) = W0 at HT3 HG ⊢
  refine (kdots_any true true 29 29 aR aC aF bR bC bF ad bd an bn ca cb g h _ hn hn' (H1.out.grown HG.out) (H2.out.grown HG.out) kturn_enters kturn_enters (kturn_lists aR aC aF an g _ hn) (kturn_lists bR bC bF bn h _ hn')).mono ?_
  rw [HTT.out, HXX.out]
  rintro e W1 ⟨xd, xc, rfl, hR, hxn, hf, hW⟩
  dsimp only at hR hxn ⊢
  have HF := Lib.hid (hf.off HT3.out.lies)
  have HF2 := Lib.hid (hf.back HG.out)
  have HR := Lib.hid hR
  have HN := Lib.hid hxn
  obtain ⟨r0, r1, r2, r3, r4, r5, r6, r7, r8⟩ := HT3.out.grown hW
  replace HG := Lib.hid (grown_trans HG.out hW)
  clear hW hf hR hxn
  go_wp2
  (try simp only [Exit.inBlock, Exit.then])
  refine bodyPost_ret (v := .tuple #[.agg #[.int .i64 tR, .int .i64 tC, .int .i64 tF, .slice xd tn xc], .int .i64 X]) ?_ rfl ⟨_, _, rfl, ?_, HN.out, HF2.out, gr⟩
  · rw [results_cell_tmp rfl]
    go_simp
  · exact (((HR.out.set HF.out _).set HF.out _).set HF.out _).set HF.out _

/-- A slice literal's numbers. -/
theorem reads_lit (w : World) (L : List Int) (t : TypeId) (n b : Nat) (hn : n = L.length) (hb : ∀ x ∈ L, 0 ≤ x ∧ x ≤ 4294967295) (hs : w.heap.size = b) : Reads (some ⟨b, 0, none⟩) n (fun i => L.getD i 0) (w.alloc (.cells (L.map fun x => Value.int .u32 x).toArray t)) := by
  subst hn hs
  refine ⟨fun i hi => ?_, .inr ⟨w.heap.size, 0, rfl, by simp, fun i hi => ?_⟩⟩
  · have e : L.getD i 0 = L[i] := by simp [List.getD, hi]
    show 0 ≤ L.getD i 0 ∧ L.getD i 0 ≤ 4294967295
    rw [e]; exact hb _ (List.getElem_mem hi)
  · rw [Nat.zero_add, World.cell?_alloc_at (hn := rfl)]
    simp [hi]

def k14A : PT := ⟨1, 1, 0, 1, fun i => [16384].getD i 0⟩

def k14B : PT := ⟨1, 1, 1, 1, fun i => [16384].getD i 0⟩

theorem k14_vals : dotV (fun i => [1073741824, 1065353216].getD i 0) (fun i => [1077936128, 1065353216].getD i 0) 2 = 1088421888 ∧ prodX k14A k14B false true = 0 ∧ (prodT k14A k14B false true).R = 1 ∧ (prodT k14A k14B false true).C = 1
    ∧ (prodT k14A k14B false true).F = 2 ∧ (prodT k14A k14B false true).n = 1 ∧ (prodT k14A k14B false true).g 0 = 1082130432 := by
  refine ⟨?_, ?_, ?_, ?_, ?_, ?_, ?_⟩ <;> kernel_rfl

set_option maxRecDepth 100000 in
set_option maxHeartbeats 4000000 in
theorem known14_any (w : World) : Calls Try.prog 8 #[] w fun e w' => e = .returned (.bool true) ∧ Grown w w' := by
  obtain ⟨v1, v2, v3, v4, v5, v6, v7⟩ := k14_vals
  have V1 := Lib.hid v1
  have V2 := Lib.hid v2
  have V3 := Lib.hid v3
  have V4 := Lib.hid v4
  have V5 := Lib.hid v5
  have V6 := Lib.hid v6
  have V7 := Lib.hid v7
  clear v1 v2 v3 v4 v5 v6 v7
  go_enter Try.func8, Try.ntmps8
  go_wp2_with fail
  refine (kdot_any _ _ 2 2 2 2 (fun i => [1073741824, 1065353216].getD i 0) (fun i => [1077936128, 1065353216].getD i 0) _ (by decide) ((reads_lit w [1073741824, 1065353216] 37 2 _ rfl (by decide) rfl).grown (Grown.alloc (Grown.refl _) _ _)) (reads_lit _ [1077936128, 1065353216] 37 2 _ rfl (by decide) (by simp))).mono ?_
  rintro e W1 ⟨he, hW1⟩
  rw [if_pos rfl, if_pos rfl, V1.out] at he
  subst he
  have HG := Lib.hid (show Grown w W1 from grown_trans gr hW1)
  clear hW1
  go_wp2_with fail
  refine (kdot_any _ _ 1 0 1 0 (fun i => [1].getD i 0) (fun i => 0) _ (by decide) (reads_lit W1 [1] 37 1 _ rfl (by decide) rfl) (Reads.nil _ _ _)).mono ?_
  rintro e W2 ⟨he, hW2⟩
  rw [if_neg (by decide), if_neg (by decide)] at he
  subst he
  replace HG := Lib.hid (show Grown w W2 from grown_trans gr hW2)
  clear hW2
  go_wp2_with fail
  refine (krows_any 1 1 0 1 1 1 _ _ 1 1 1 1 (fun i => [16384].getD i 0) (fun i => [16384].getD i 0) _ (by decide) (by decide) ((reads_lit W2 [16384] 37 1 _ rfl (by decide) rfl).grown (Grown.alloc (Grown.refl _) _ _)) (reads_lit _ [16384] 37 1 _ rfl (by decide) (by simp))).mono ?_
  show ∀ e w', TenE (prodT k14A k14B false true) (prodX k14A k14B false true) _ e w' → _
  rintro e W3 ⟨xd, xc, he, hR, hn, hf, hW⟩
  rw [V2.out, V3.out, V4.out, V5.out, V6.out] at he
  rw [V6.out] at hR
  subst he
  obtain ⟨_, h⟩ := hR
  obtain ⟨b, off, rfl, hl, hc⟩ : ∃ b off, xd = some ⟨b, off, none⟩ ∧ b < W3.heap.size ∧ ∀ i, i < 1 → W3.cell? ⟨b, off + i, none⟩ = some (.int .u32 ((prodT k14A k14B false true).g i)) := by
    rcases h with h | h
    · exact absurd h (by decide)
    · exact h
  have y := hc 0 (by decide)
  rw [V7.out, Nat.add_zero] at y
  replace HG := Lib.hid (show Grown w W3 from grown_trans gr hW)
  have yA : (W3.alloc (.cells #[.int .i64 1, .int .i64 1, .int .i64 2, .slice (some ⟨b, off, none⟩) 1 xc] 24)).cell? ⟨b, off, none⟩ = some (.int .u32 1082130432) := grown_cell (Grown.alloc (Grown.refl _) _ _) y hl
  clear hc hf hn hW hl h
  go_wp2
  go_ret
  exact ⟨rfl, gr⟩
end Go.Proofs.Ytmipefapjehkaaa
