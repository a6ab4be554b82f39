/- The walk of KernUnits. (Written by gen54.py.) -/
import Derived.Test.YtmipefapjehkaaaFrame
import Derived.Test.YtmipefapjehkaaaSeatT
import Derived.Test.YtmipefapjehkaaaKern
import Derived.Test.YtmipefapjehkaaaKeTurn
import Derived.Test.YtmipefapjehkaaaWorld
namespace Go.Proofs.Ytmipefapjehkaaa
open Go Go.RowKit
set_option linter.unusedVariables false
set_option linter.unusedSimpArgs false

/-- Ones in the first I rows, each in a row of its own. -/
def uniI (c I t : Nat) : Int := if t / c = t % c ∧ t / c < I then 1065353216 else 0

theorem uni_next (c I : Nat) (hI : I < c) : uniI c (I + 1) (I * c + I) = 1065353216 ∧ ∀ t, t ≠ I * c + I → uniI c (I + 1) t = uniI c I t := by
  obtain ⟨e1, e2⟩ := ix_back I I c hI
  refine ⟨by unfold uniI; rw [if_pos ⟨by rw [e1, e2], by rw [e1]; omega⟩], fun t ht => ?_⟩
  unfold uniI
  by_cases h : t / c = t % c
  · have hne : t / c ≠ I := fun e => ht (by have := Nat.div_add_mod t c; rw [← h, e, Nat.mul_comm] at this; exact this.symm)
    by_cases l : t / c < I
    · rw [if_pos ⟨h, by omega⟩, if_pos ⟨h, l⟩]
    · rw [if_neg (fun a => l (by omega)), if_neg (fun a => l a.2)]
  · rw [if_neg (fun a => h a.1), if_neg (fun a => h a.1)]

theorem uni_at (c q j : Nat) (hq : q < c) (hj : j < c) : uniI c c (q * c + j) = if q = j then 1065353216 else 0 := by
  obtain ⟨e1, e2⟩ := ix_back q j c hj
  unfold uniI
  rw [e1, e2]
  by_cases e : q = j
  · rw [if_pos ⟨e, hq⟩, if_pos e]
  · rw [if_neg (fun a => e a.1), if_neg e]

theorem uni_bd (c I t : Nat) : 0 ≤ uniI c I t ∧ uniI c I t ≤ 4294967295 := by unfold uniI; split <;> decide

theorem mil_good (k : Int) (k0 : 0 ≤ k) : finI 2 (milI 2 k) = true ∧ 0 ≤ milI 2 k ∧ milI 2 k ≤ 4294967295 ∧ milI 2 k ≠ 2147483648 := by
  obtain ⟨b0, b1⟩ := mil_bd 2 k k0
  by_cases c : milI 2 k = 0
  · rw [c]; exact ⟨by decide, by decide, by decide, by decide⟩
  · obtain ⟨h1, _, h2, _⟩ := mil_norm 2 k k0 c
    refine ⟨h1, b0, b1, fun e => ?_⟩
    rw [e] at h2
    exact absurd h2 (by decide)

theorem wid_self (g : Nat → Int) (i : Nat) (h : finI 2 (g i) = true ∧ 0 ≤ g i ∧ g i ≤ 4294967295 ∧ g i ≠ 2147483648) : widV 2 g i = g i :=
  (con_exact 2 2 0 (g i) (g i) h.1 h.2.1 h.2.2.1 h.1 rfl rfl).1

theorem one_good : finI 2 1065353216 = true ∧ (0 : Int) ≤ 1065353216 ∧ (1065353216 : Int) ≤ 4294967295 ∧ (1065353216 : Int) ≠ 2147483648 := by decide

theorem nought_good : finI 2 0 = true ∧ (0 : Int) ≤ 0 ∧ (0 : Int) ≤ 4294967295 ∧ (0 : Int) ≠ 2147483648 := by decide

theorem uni_good (c I t : Nat) : finI 2 (uniI c I t) = true ∧ 0 ≤ uniI c I t ∧ uniI c I t ≤ 4294967295 ∧ uniI c I t ≠ 2147483648 := by
  unfold uniI
  split
  · exact one_good
  · exact nought_good

/-- A tensor by ones in a row of their own is it, in both forms. -/
theorem unit_two (x c n : Nat) (ga : Nat → Int) (lx : x ≤ 4096) (lc : c ≤ 4096) (hn : n = x * c) (hg : ∀ i, i < n → finI 2 (ga i) = true ∧ 0 ≤ ga i ∧ ga i ≤ 4294967295 ∧ ga i ≠ 2147483648) :
    ∃ (g1 g2 : Nat → Int), (prodT ⟨x, c, 2, n, ga⟩ ⟨c, c, 2, c * c, uniI c c⟩ false false = ⟨x, c, 2, n, g1⟩ ∧ prodX ⟨x, c, 2, n, ga⟩ ⟨c, c, 2, c * c, uniI c c⟩ false false = 0) ∧
      (prodT ⟨x, c, 2, n, ga⟩ ⟨c, c, 2, c * c, uniI c c⟩ false true = ⟨x, c, 2, n, g2⟩ ∧ prodX ⟨x, c, 2, n, ga⟩ ⟨c, c, 2, c * c, uniI c c⟩ false true = 0) ∧ (∀ i, i < n → ga i = g1 i) ∧ (∀ i, i < n → ga i = g2 i) := by
  have ra : rightB x c 2 n ga = true := ten_right lx lc rfl hn (fun i hi => (hg i hi).2.2.1)
  have rb : rightB c c 2 (c * c) (uniI c c) = true := ten_right lc lc rfl rfl (fun i _ => (uni_bd c c i).2)
  have k1 : prodOk ⟨x, c, 2, n, ga⟩ ⟨c, c, 2, c * c, uniI c c⟩ false false = true := by
    unfold prodOk PT.right prodK prodM
    simp only [Bool.and_eq_true, beq_iff_eq]
    exact ⟨⟨ra, rb⟩, rfl⟩
  have k2 : prodOk ⟨x, c, 2, n, ga⟩ ⟨c, c, 2, c * c, uniI c c⟩ false true = true := by
    unfold prodOk PT.right prodK prodM
    simp only [Bool.and_eq_true, beq_iff_eq]
    exact ⟨⟨ra, rb⟩, rfl⟩
  have key : ∀ i, i < n → ∀ h : Nat → Int, (∀ q, q < c → h q = if q = i % c then 1065353216 else 0) → ga i = dotV (fun q => widV 2 ga (i / c * c + q)) h c := by
    intro i hi h hh
    have hc : 0 < c := by
      rcases Nat.eq_zero_or_pos c with e | e
      · subst e; omega
      · exact e
    have hj := Nat.mod_lt i hc
    have hd : i / c < x := by rw [Nat.div_lt_iff_lt_mul hc, ← hn]; exact hi
    have hlt : ∀ q, q < c → i / c * c + q < n := fun q hq => by
      have := Nat.mul_le_mul_right c (show i / c + 1 ≤ x by omega)
      rw [Nat.add_mul, Nat.one_mul, ← hn] at this
      omega
    have e : ∀ q, q < c → widV 2 ga (i / c * c + q) = ga (i / c * c + q) := fun q hq => wid_self ga _ (hg _ (hlt q hq))
    rw [dot_unit _ h c (i % c) hj (fun q hq => by rw [e q hq]; exact hg _ (hlt q hq)) hh, e _ hj]
    rw [show i / c * c + i % c = i by rw [Nat.mul_comm]; exact Nat.div_add_mod i c]
  have hT1 := (prodT_is _ _ _ _ k1)
  have hT2 := (prodT_is _ _ _ _ k2)
  refine ⟨fun t => prodV ⟨x, c, 2, n, ga⟩ ⟨c, c, 2, c * c, uniI c c⟩ false false c (t / c) (t % c), fun t => prodV ⟨x, c, 2, n, ga⟩ ⟨c, c, 2, c * c, uniI c c⟩ false true c (t / c) (t % c), ⟨?_, hT1.2⟩, ⟨?_, hT2.2⟩, fun i hi => ?_, fun i hi => ?_⟩
  · rw [hT1.1, hn]; rfl
  · rw [hT2.1, hn]; rfl
  · refine key i hi _ (fun q hq => ?_)
    have hc : 0 < c := by omega
    show widV 2 (uniI c c) (q * c + i % c) = _
    rw [wid_self _ _ (uni_good _ _ _), uni_at c q (i % c) hq (Nat.mod_lt i hc)]
  · refine key i hi _ (fun q hq => ?_)
    have hc : 0 < c := by omega
    show widV 2 (uniI c c) (i % c * c + q) = _
    rw [wid_self _ _ (uni_good _ _ _), uni_at c (i % c) q (Nat.mod_lt i hc) hq]
    by_cases e : i % c = q
    · rw [if_pos e, if_pos e.symm]
    · rw [if_neg e, if_neg (fun a => e a.symm)]

/-- What holds of the unit tensor's memory: I ones written. -/
structure UnS (w : World) (nb ou M c I : Nat) (W : World) : Prop where
  g : Grown w W
  u : TenAt ou (.int .i64 c) (.int .i64 c) (.int .i64 2) (.slice (some ⟨nb, 0, none⟩) M M) W
  r : Rowed nb M (uniI c I) W
  o1 : w.heap.size ≤ nb
  o2 : w.heap.size ≤ ou
  ne : ou ≠ nb

theorem UnS.set {w : World} {nb ou M c I I' : Nat} {W : World} (h : UnS w nb ou M c I W) {j : Nat} {v : Int} (e1 : uniI c I' j = v) (e2 : ∀ t, t ≠ j → uniI c I' t = uniI c I t) : UnS w nb ou M c I' (W.setCell ⟨nb, j, none⟩ (.int .u32 v)) :=
  ⟨Grown.setCell h.g h.o1 _, h.u.set (by have := h.ne; show ou ≠ nb; exact this) _, h.r.set e1 e2, h.o1, h.o2, h.ne⟩

set_option maxRecDepth 100000 in
set_option maxHeartbeats 8000000 in
theorem kunits_go (w : World) (a b : Int) (ld : Option Addr) (ln lc : Nat) (lg : Nat → Int) (hl : ln ≤ 30) (Rl : Reads ld ln lg w) (a0 : 0 ≤ a) (a1 : a ≤ 255) (b0 : 0 ≤ b) (b1 : b ≤ 255) :
    Calls Try.prog 6 #[.int .u8 a, .int .u8 b, .slice ld ln lc] w fun e w' => e = .returned (.bool true) ∧ Grown w w' := by
  have t1 : ¬ (30 : Int) < (ln : Int) := by omega
  have HK := Lib.hid (((Lot.nil w).add (f := .gr w) (Grown.refl w)).add (f := .rd ld ln lg) Rl)
  obtain ⟨x, hx⟩ : ∃ x : Nat, a % 5 = (x : Int) := ⟨(a % 5).toNat, by omega⟩
  obtain ⟨c, hc⟩ : ∃ c : Nat, b % 5 + 1 = (c : Int) := ⟨(b % 5 + 1).toNat, by omega⟩
  have lx : x ≤ 4 := by omega
  have l0 : 0 < c := by omega
  have l1 : c ≤ 5 := by omega
  obtain ⟨M1, hM1⟩ : ∃ M1, x * c = M1 := ⟨_, rfl⟩
  obtain ⟨M2, hM2⟩ : ∃ M2, c * c = M2 := ⟨_, rfl⟩
  have X1 : Hid ((x : Int) * (c : Int) = (M1 : Int)) := Lib.hid (by rw [← hM1, Int.natCast_mul])
  have hcc : (c : Int) * (c : Int) = (M2 : Int) := by rw [← hM2, Int.natCast_mul]
  have B1 : Hid (M1 ≤ 20 ∧ M2 ≤ 25) := Lib.hid ⟨by have := Nat.mul_le_mul lx l1; omega, by have := Nat.mul_le_mul l1 l1; omega⟩
  have hw2 : IntKind.i64.wrap ((c : Int) * (c : Int)) = (M2 : Int) := by rw [hcc, IntKind.wrap_i64]; have := B1.out; omega
  have HM1 := Lib.hid hM1.symm
  have HM2 := Lib.hid hM2
  clear hM1 hM2 Rl hcc
  go_enter Try.func6, Try.ntmps6
  go_wp2_with fail
  refine (known14_any _).mono ?_
  rintro e W1 ⟨rfl, hW1⟩
  replace HK := Lib.hid (HK.out.grown hW1)
  clear hW1
  go_wp2_with fail
  refine (seatt_any x c 2 M1 ld ln lc lg true _ (by omega) (HK.out.rd 0 rfl) (by omega) (by omega) (by omega) (by omega) X1.out).mono ?_
  rintro e Wa ⟨da, ca, ga, rfl, hR, hf, hW, hm, hs⟩
  have Sa := Lib.hid hs
  have Va : Hid (∀ i, i < M1 → finI 2 (ga i) = true ∧ 0 ≤ ga i ∧ ga i ≤ 4294967295 ∧ ga i ≠ 2147483648) := Lib.hid fun i hi => by
    obtain ⟨q, q0, _, hq⟩ := hm rfl i hi
    rw [hq]; exact mil_good q q0
  replace HK := Lib.hid ((HK.out.grown hW).add (f := .rd da M1 ga) hR)
  clear hR hf hW hm hs
  replace HK := Lib.hid ((HK.out.grown (Grown.alloc (Grown.refl Wa) #[.int .i64 x, .int .i64 c, .int .i64 2, .slice da M1 ca] 24)).add (f := .ten Wa.heap.size (.int .i64 x) (.int .i64 c) (.int .i64 2) (.slice da M1 ca)) (ten_new Wa _ _ _ _ _))
  have hmk := run_make_row' (P := Try.prog) 22 37 (.int .u32 0) 4 Try.underlying22 (by kernel_rfl) rfl .i64 .i64 M2 (by have := B1.out; omega) (by have := B1.out; omega)
  go_wp2_with fail
  have HU : Hid (UnS (Wa.alloc (.cells #[.int .i64 x, .int .i64 c, .int .i64 2, .slice da M1 ca] 24)) (Wa.heap.size + 1) (Wa.heap.size + 1 + 1) M2 c 0 (((Wa.alloc (.cells #[.int .i64 x, .int .i64 c, .int .i64 2, .slice da M1 ca] 24)).alloc (.cells (madeCells #[.int .u32 0] M2) 37)).alloc (.cells #[.int .i64 c, .int .i64 c, .int .i64 2, .slice (some ⟨Wa.heap.size + 1, 0, none⟩) M2 M2] 24))) := Lib.hid (by
    refine ⟨gr, ?_, ?_, by simp, by simp, by omega⟩
    · have h := ten_new ((Wa.alloc (.cells #[.int .i64 x, .int .i64 c, .int .i64 2, .slice da M1 ca] 24)).alloc (.cells (madeCells #[.int .u32 0] M2) 37)) (.int .i64 c) (.int .i64 c) (.int .i64 2) (.slice (some ⟨Wa.heap.size + 1, 0, none⟩) M2 M2) 24
      simp only [World.size_alloc] at h
      exact h
    · have h := (rowed_new2 Wa M2 37 #[.int .i64 x, .int .i64 c, .int .i64 2, .slice da M1 ca] 24).grown (Grown.alloc (Grown.refl _) #[.int .i64 c, .int .i64 c, .int .i64 2, .slice (some ⟨Wa.heap.size + 1, 0, none⟩) M2 M2] 24)
      exact h.congr (fun t _ => by unfold uniI; rw [if_neg (fun a => Nat.not_lt_zero _ a.2)]))
  clear hmk
  generalize ((Wa.alloc _).alloc _).alloc _ = Wc at HU ⊢
  generalize Wa.alloc _ = Ub at HU HK ⊢
  generalize Wa.heap.size = oa at HU HK ⊢
  go_loopw [10] (fun i wr => ∃ I : Nat, I ≤ c ∧ i = .int .i64 I ∧ Hid (UnS Ub (oa + 1) (oa + 1 + 1) M2 c I wr)) (fun i _ => c - (intOf i).toNat)
  case atStart => exact ⟨0, Nat.zero_le _, rfl, HU⟩
  case round =>
    rename World => wr
    clear HU
    obtain ⟨I, hI, rfl, HU⟩ := hrel
    by_cases hI2 : I < c
    · obtain ⟨P1, P, y1, y2, y3, y4⟩ := ix_any I I c c hI2 hI2 (by omega) (by omega)
      rw [HM2.out] at y3
      obtain ⟨u1, u2⟩ := uni_next c I hI2
      rw [y4] at u1 u2
      have HU1 := Lib.hid u1
      have HU2 := Lib.hid u2
      obtain ⟨p0, p1, p2, p3, p4, _, _, _, _⟩ := HU.out.u
      have y := HU.out.r.cell P y3
      have z := HU.out.r.free P
      clear u1 u2 y4
      go_wp2
      go_roundw
      case rel => exact ⟨I + 1, by omega, by go_num, Lib.hid (HU.out.set HU1.out HU2.out)⟩
      case measure => simp [intOf]; omega
    · obtain rfl : I = c := by omega
      have hRu := (HU.out.r.cell)
      have HRU : Hid (Reads (some ⟨oa + 1, 0, none⟩) M2 (uniI I I) wr) := Lib.hid ⟨fun i _ => uni_bd I I i, .inr ⟨oa + 1, 0, rfl, HU.out.r.lies, fun i hi => by rw [Nat.zero_add]; exact HU.out.r.cell i hi⟩⟩
      replace HK := Lib.hid (((HK.out.grown HU.out.g).add (f := .rd (some ⟨oa + 1, 0, none⟩) M2 (uniI I I)) HRU.out).add (f := .ten (oa + 1 + 1) (.int .i64 I) (.int .i64 I) (.int .i64 2) (.slice (some ⟨oa + 1, 0, none⟩) M2 M2)) HU.out.u)
      clear HU HRU hRu
      obtain ⟨G1, G2, ⟨hT1, hX1⟩, ⟨hT2, hX2⟩, hE1, hE2⟩ := unit_two x I M1 ga (by omega) (by omega) HM1.out Va.out
      rw [HM2.out] at hT1 hX1 hT2 hX2
      have HT1 := Lib.hid hT1
      have HX1 := Lib.hid hX1
      have HT2 := Lib.hid hT2
      have HX2 := Lib.hid hX2
      have HE1 := Lib.hid hE1
      have HE2 := Lib.hid hE2
      clear hT1 hX1 hT2 hX2 hE1 hE2
      obtain ⟨p0, p1, p2, p3, p4, _, _, _, _⟩ := (HK.out.ten 2 rfl)
      obtain ⟨q0, q1, q2, q3, q4, _, _, _, _⟩ := (HK.out.ten 0 rfl)
      go_wp2_with fail
      clear p0 p1 p2 p3 p4 q0 q1 q2 q3 q4
      refine (kplain_any x I 2 I I 2 da (some ⟨oa + 1, 0, none⟩) M1 M2 ca M2 ga (uniI I I) _ (by have := B1.out; omega) (by have := B1.out; omega) (HK.out.rd 3 rfl) (HK.out.rd 1 rfl)).mono ?_
      rw [HT1.out, HX1.out]
      rintro e Wp ⟨dp, cp, rfl, hR, hn, hf, hW⟩
      dsimp only at hR hn ⊢
      have Np := Lib.hid hn
      replace HK := Lib.hid ((HK.out.grown hW).add (f := .rd dp M1 ga) (hR.congr HE1.out))
      clear hR hn hf hW
      obtain ⟨p0, p1, p2, p3, p4, _, _, _, _⟩ := (HK.out.ten 3 rfl)
      obtain ⟨q0, q1, q2, q3, q4, _, _, _, _⟩ := (HK.out.ten 1 rfl)
      go_wp2_with fail
      clear p0 p1 p2 p3 p4 q0 q1 q2 q3 q4
      replace HK := Lib.hid ((HK.out.grown (Grown.alloc (Grown.refl Wp) #[.int .i64 x, .int .i64 I, .int .i64 2, .slice dp M1 cp] 24)).add (f := .ten Wp.heap.size (.int .i64 x) (.int .i64 I) (.int .i64 2) (.slice dp M1 cp)) (ten_new Wp _ _ _ _ _))
      generalize Wp.alloc _ = Up at HK ⊢
      generalize Wp.heap.size = op at HK ⊢
      refine (krows_any x I 2 I I 2 da (some ⟨oa + 1, 0, none⟩) M1 M2 ca M2 ga (uniI I I) _ (by have := B1.out; omega) (by have := B1.out; omega) (HK.out.rd 5 rfl) (HK.out.rd 3 rfl)).mono ?_
      rw [HT2.out, HX2.out]
      rintro e Wq ⟨dq, cq, rfl, hR, hn, hf, hW⟩
      dsimp only at hR hn ⊢
      have Nq := Lib.hid hn
      replace HK := Lib.hid ((HK.out.grown hW).add (f := .rd dq M1 ga) (hR.congr HE2.out))
      clear hR hn hf hW
      obtain ⟨p0, p1, p2, p3, p4, _, _, _, _⟩ := (HK.out.ten 1 rfl)
      obtain ⟨q0, q1, q2, q3, q4, _, _, _, _⟩ := (HK.out.ten 5 rfl)
      go_wp2_with fail
      clear p0 p1 p2 p3 p4 q0 q1 q2 q3 q4
      replace HK := Lib.hid ((HK.out.grown (Grown.alloc (Grown.refl Wq) #[.int .i64 x, .int .i64 I, .int .i64 2, .slice dq M1 cq] 24)).add (f := .ten Wq.heap.size (.int .i64 x) (.int .i64 I) (.int .i64 2) (.slice dq M1 cq)) (ten_new Wq _ _ _ _ _))
      generalize Wq.alloc _ = Uq at HK ⊢
      generalize Wq.heap.size = oq at HK ⊢
      refine (htensor_any x I 2 dp da M1 cp ca ga _ Np.out (HK.out.rd 3 rfl) (HK.out.rd 7 rfl)).mono ?_
      rintro e Y1 ⟨rfl, hY⟩
      replace HK := Lib.hid (HK.out.grown hY)
      clear hY
      obtain ⟨p0, p1, p2, p3, p4, _, _, _, _⟩ := (HK.out.ten 0 rfl)
      obtain ⟨q0, q1, q2, q3, q4, _, _, _, _⟩ := (HK.out.ten 6 rfl)
      go_wp2_with fail
      clear p0 p1 p2 p3 p4 q0 q1 q2 q3 q4
      refine (htensor_any x I 2 dq da M1 cq ca ga _ Nq.out (HK.out.rd 1 rfl) (HK.out.rd 7 rfl)).mono ?_
      rintro e Y2 ⟨rfl, hY⟩
      replace HK := Lib.hid (HK.out.grown hY)
      clear hY
      have HG := Lib.hid (HK.out.gr 9 rfl)
      go_wp2
      go_ret
      exact ⟨rfl, HG.out⟩

theorem kunits_end (w : World) (a b : Int) (ld : Option Addr) (ln lc : Nat) (h : (30 : Int) < (ln : Int)) :
    Calls Try.prog 6 #[.int .u8 a, .int .u8 b, .slice ld ln lc] w fun e w' => e = .returned (.bool true) ∧ Grown w w' := by
  go_enter Try.func6, Try.ntmps6
  go_wp2_with fail
  refine (known14_any _).mono ?_
  rintro e W1 ⟨rfl, hW1⟩
  have HG := Lib.hid hW1
  clear hW1
  go_wp2
  go_ret
  exact ⟨rfl, HG.out⟩

theorem kunits_walk (W : World) (a : Int) (wa : (Lit.int .u8 a).wf = true) (b : Int) (wb : (Lit.int .u8 b).wf = true) (l : Value) (Ll : ListIn l W) :
    Calls Try.prog 6 #[.int .u8 a, .int .u8 b, l] W fun e w' => e = .returned (.bool true) ∧ Grown W w' := by
  obtain ⟨ld, ln, lc, lg, rfl, _, _, _, l4⟩ := Ll
  obtain ⟨a0, a1⟩ := bounds_u8 wa
  obtain ⟨b0, b1⟩ := bounds_u8 wb
  by_cases h1 : ln ≤ 30
  · exact kunits_go W a b ld ln lc lg h1 l4 a0 a1 b0 b1
  · exact kunits_end W a b ld ln lc (by omega)
end Go.Proofs.Ytmipefapjehkaaa
