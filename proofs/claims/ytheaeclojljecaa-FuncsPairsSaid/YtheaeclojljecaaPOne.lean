/- Contracts of package prod: classes asked, a number's parts, a product's, a number raised. -/
import Derived.Test.YtheaeclojljecaaRows
import Derived.Test.YtheaeclojljecaaFmt
import Derived.Test.YtheaeclojljecaaBits
import Derived.Test.YtheaeclojljecaaWorld
import Derived.Test.YtheaeclojljecaaLimbs
import Derived.KernelRfl
import Derived.StillTailTactics
namespace Go.Proofs.Ytheaeclojljecaa
open Go.RowKit
set_option linter.unusedVariables false
set_option linter.unusedSimpArgs false

/-- Block b holds a number's parts. -/
structure PartAt (b : Nat) (n : Bool) (e M : Int) (W : World) : Prop where
  lies : b < W.heap.size
  c0 : W.cell? ⟨b, 0, none⟩ = some (.bool n)
  c1 : W.cell? ⟨b, 1, none⟩ = some (.int .i64 e)
  c2 : W.cell? ⟨b, 2, none⟩ = some (.int .u64 M)
  z0 : W.frozen? ⟨b, 0, none⟩ = false
  z1 : W.frozen? ⟨b, 1, none⟩ = false
  z2 : W.frozen? ⟨b, 2, none⟩ = false

theorem PartAt.grown {b : Nat} {n : Bool} {e M : Int} {W W' : World} (h : PartAt b n e M W) (g : Grown W W') : PartAt b n e M W' :=
  ⟨Nat.lt_of_lt_of_le h.lies g.2.2, grown_cell g h.c0 h.lies, grown_cell g h.c1 h.lies, grown_cell g h.c2 h.lies,
    by rw [g.2.1]; exact h.z0, by rw [g.2.1]; exact h.z1, by rw [g.2.1]; exact h.z2⟩

theorem part_new (w : World) (n : Bool) (e M : Int) (t : TypeId) : PartAt w.heap.size n e M (w.alloc (.cells #[.bool n, .int .i64 e, .int .u64 M] t)) := by
  refine ⟨by show w.heap.size < (w.heap.push _).size; simp, ?_, ?_, ?_, ?_, ?_, ?_⟩
  all_goals go_simp

theorem PartAt.under1 {b : Nat} {n : Bool} {e M : Int} {W : World} (h : PartAt b n e M W) (C : Array Value) (t : TypeId) : PartAt b n e M (W.alloc (.cells C t)) :=
  h.grown (Grown.alloc (Grown.refl _) _ _)

theorem cells2 (W : World) (a b : Value) (u : TypeId) :
    (W.alloc (.cells #[a, b] u)).cell? ⟨W.heap.size, 0, none⟩ = some a ∧ (W.alloc (.cells #[a, b] u)).cell? ⟨W.heap.size, 1, none⟩ = some b := by
  refine ⟨?_, ?_⟩ <;> go_simp

theorem cells3 (W : World) (a b c : Value) (u : TypeId) :
    (W.alloc (.cells #[a, b, c] u)).cell? ⟨W.heap.size, 0, none⟩ = some a ∧ (W.alloc (.cells #[a, b, c] u)).cell? ⟨W.heap.size, 1, none⟩ = some b ∧ (W.alloc (.cells #[a, b, c] u)).cell? ⟨W.heap.size, 2, none⟩ = some c := by
  refine ⟨?_, ?_, ?_⟩ <;> go_simp

theorem cells2b (W : World) (C : Array Value) (t : TypeId) (a b : Value) (u : TypeId) :
    ((W.alloc (.cells C t)).alloc (.cells #[a, b] u)).cell? ⟨W.heap.size + 1, 0, none⟩ = some a ∧ ((W.alloc (.cells C t)).alloc (.cells #[a, b] u)).cell? ⟨W.heap.size + 1, 1, none⟩ = some b := by
  refine ⟨?_, ?_⟩ <;> go_simp

theorem cells3b (W : World) (C : Array Value) (t : TypeId) (a b c : Value) (u : TypeId) :
    ((W.alloc (.cells C t)).alloc (.cells #[a, b, c] u)).cell? ⟨W.heap.size + 1, 0, none⟩ = some a ∧ ((W.alloc (.cells C t)).alloc (.cells #[a, b, c] u)).cell? ⟨W.heap.size + 1, 1, none⟩ = some b ∧ ((W.alloc (.cells C t)).alloc (.cells #[a, b, c] u)).cell? ⟨W.heap.size + 1, 2, none⟩ = some c := by
  refine ⟨?_, ?_, ?_⟩ <;> go_simp

set_option maxHeartbeats 1000000 in
theorem oneIs2_any (k a b : Int) (p : Nat) (w : World) (hc : w.cell? ⟨p, 0, none⟩ = some (.int .i64 a)) (hd : w.cell? ⟨p, 1, none⟩ = some (.int .i64 b)) :
    Calls Try.prog 75 #[.int .i64 k, .slice (some ⟨p, 0, none⟩) 2 2] w fun e w' => e = .returned (.bool (a == k || b == k)) ∧ w = w' := by
  obtain ⟨A, hA⟩ : ∃ A, (a == k) = A := ⟨_, rfl⟩
  obtain ⟨B, hB⟩ : ∃ B, (b == k) = B := ⟨_, rfl⟩
  have HA := Lib.hid hA
  have HB := Lib.hid hB
  cases A
  all_goals
    cases B
    all_goals
      go_enter Try.func75, Try.ntmps75
      go_wp2
      refine wp_loop_rounds 3 ?_
      repeat any_goals (rw [rounds_succ]; go_wp2)
      go_ret
      exact ⟨ret_bool (by rw [HA.out, HB.out]; rfl), rfl⟩

set_option maxHeartbeats 1000000 in
theorem oneIs3_any (k a b c : Int) (p : Nat) (w : World) (hc : w.cell? ⟨p, 0, none⟩ = some (.int .i64 a)) (hd : w.cell? ⟨p, 1, none⟩ = some (.int .i64 b)) (he : w.cell? ⟨p, 2, none⟩ = some (.int .i64 c)) :
    Calls Try.prog 75 #[.int .i64 k, .slice (some ⟨p, 0, none⟩) 3 3] w fun e w' => e = .returned (.bool (a == k || b == k || c == k)) ∧ w = w' := by
  obtain ⟨A, hA⟩ : ∃ A, (a == k) = A := ⟨_, rfl⟩
  obtain ⟨B, hB⟩ : ∃ B, (b == k) = B := ⟨_, rfl⟩
  obtain ⟨C, hC⟩ : ∃ C, (c == k) = C := ⟨_, rfl⟩
  have HA := Lib.hid hA
  have HB := Lib.hid hB
  have HC := Lib.hid hC
  cases A
  all_goals
    cases B
    all_goals
      cases C
      all_goals
        go_enter Try.func75, Try.ntmps75
        go_wp2
        refine wp_loop_rounds 4 ?_
        repeat any_goals (rw [rounds_succ]; go_wp2)
        go_ret
        exact ⟨ret_bool (by rw [HA.out, HB.out, HC.out]; rfl), rfl⟩

set_option maxHeartbeats 1000000 in
theorem punknown_any (a b : Int) (w : World) :
    Calls Try.prog 76 #[.int .i64 a, .int .i64 b] w fun e w' => e = .returned (.bool ((a == 0 || b == 0) && (a == 3 || b == 3))) ∧ Grown w w' := by
  obtain ⟨Z, hZ⟩ : ∃ Z, (a == 0 || b == 0) = Z := ⟨_, rfl⟩
  obtain ⟨I, hI⟩ : ∃ I, (a == 3 || b == 3) = I := ⟨_, rfl⟩
  have HZ := Lib.hid hZ
  have HI := Lib.hid hI
  clear hZ hI
  have HC := Lib.hid (cells2 w (.int .i64 a) (.int .i64 b) 3)
  have HG := Lib.hid (Grown.alloc (Grown.refl w) #[.int .i64 a, .int .i64 b] 3)
  cases Z
  all_goals
    go_enter Try.func76, Try.ntmps76
    go_wp2_with fail
    generalize (w.alloc _) = W4 at HC HG ⊢
    obtain ⟨y0, y1⟩ := HC.out
    refine (oneIs2_any 0 a b _ _ y0 y1).mono ?_
    rintro e w' ⟨he, rfl⟩
    rw [HZ.out] at he
    subst he
    clear y0 y1
  · go_wp2
    go_ret
    exact ⟨ret_bool (by rw [HZ.out]; rfl), HG.out⟩
  · go_wp2_with fail
    obtain ⟨y0, y1⟩ := cells2 W4 (.int .i64 a) (.int .i64 b) 3
    refine (oneIs2_any 3 a b _ _ y0 y1).mono ?_
    rintro e w' ⟨he, rfl⟩
    rw [HI.out] at he
    subst he
    clear y0 y1
    go_wp2
    go_ret
    exact ⟨ret_bool (by rw [HZ.out, HI.out]; rfl), Grown.alloc HG.out _ _⟩

set_option maxHeartbeats 400000 in
theorem punpack_any (f v : Int) (w : World) (h0 : 0 ≤ v) (h1 : v ≤ 4294967295) :
    Calls Try.prog 81 #[.int .i64 f, .int .u32 v] w fun e w' => e = .returned (.agg #[.bool (fS f v), .int .i64 (unE f v), .int .u64 (unM f v)]) ∧ Grown w w' := by
  go_enter Try.func81, Try.ntmps81
  go_wp2_with (go_at_call 66; refine (unpack_any _ _ _ h0 h1).mono ?_; rintro e w' ⟨rfl, m, rfl⟩)
  (try simp only [Exit.inBlock, Exit.then])
  refine bodyPost_ret (v := .agg #[.bool (fS f v), .int .i64 (unE f v), .int .u64 (unM f v)]) ?_ rfl ⟨rfl, ?_⟩
  · rw [results_one rfl]
    go_simp
  · repeat refine Grown.setCell ?_ (by simp <;> omega) _
    exact grown_more (Grown.alloc (Grown.refl _) _ _) _

set_option maxHeartbeats 1000000 in
theorem pproduct_is (f a b x y p q T : Int) (n m s : Bool) (w : World) (a0 : 0 ≤ a) (a1 : a ≤ 4294967295) (b0 : 0 ≤ b) (b1 : b ≤ 4294967295)
    (hn : Hid (fS f a = n)) (hm : Hid (fS f b = m)) (hx : Hid (unE f a = x)) (hy : Hid (unE f b = y)) (hp : Hid (unM f a = p)) (hq : Hid (unM f b = q)) (x0 : -400 ≤ x) (x1 : x ≤ 400) (y0 : -400 ≤ y) (y1 : y ≤ 400)
    (hT : p * q = T) (t0 : 0 ≤ T) (t1 : T < 281474976710656) (hs : Hid ((n != m) = s)) :
    Calls Try.prog 77 #[.int .i64 f, .int .u32 a, .int .u32 b] w fun e w' => e = .returned (.agg #[.bool s, .int .i64 (x + y), .int .u64 T]) ∧ Grown w w' := by
  have HP := Lib.hid (part_new w false 0 0 73)
  have HG := Lib.hid (Grown.alloc (Grown.refl w) #[.bool false, .int .i64 0, .int .u64 0] 73)
  cases n
  all_goals
    cases m
    all_goals
      have hs' := hs.out
      simp at hs'
      subst hs'
      go_enter Try.func77, Try.ntmps77
      go_wp2_with fail
      refine (punpack_any f a _ a0 a1).mono ?_
      rintro e W1 ⟨he, hW1⟩
      rw [hn.out, hx.out, hp.out] at he
      subst he
      have HW1 := Lib.hid hW1
      clear hW1
      go_wp2_with fail
      refine (punpack_any f b _ b0 b1).mono ?_
      rintro e W2 ⟨he, hW2⟩
      rw [hm.out, hy.out, hq.out] at he
      subst he
      have HX2 := Lib.hid ((HP.out.grown HW1.out).grown hW2)
      have HG2 := Lib.hid (grown_trans (grown_trans HG.out HW1.out) hW2)
      clear hW2
      obtain ⟨xb, x0, x1, x2, z0, z1, z2⟩ := HX2.out
      go_wp2
      (try simp only [Exit.inBlock, Exit.then])
      refine bodyPost_ret (v := .agg #[.bool _, .int .i64 (x + y), .int .u64 T]) ?_ rfl ⟨rfl, ?_⟩
      · rw [results_one rfl]
        go_simp
      · repeat (first | with_reducible refine Grown.setCell ?_ (by simp <;> omega) _ | with_reducible refine Grown.alloc ?_ _ _ | with_reducible refine grown_more ?_ _)
        with_reducible exact HG2.out

set_option maxRecDepth 100000 in
set_option maxHeartbeats 1000000 in
/-- A number of at most 48 bits raised to 63 of them. -/
theorem praise_any (n : Bool) (e M L T : Int) (w : World) (e0 : -400 ≤ e) (e1 : e ≤ 400) (m0 : 0 < M) (m1 : M ≤ 18446744073709551615) (hL : Hid (lenI M = L)) (l0 : 1 ≤ L) (l1 : L ≤ 48)
    (hT : IntKind.u64.wrap (M * 2 ^ (63 - L).toNat) = T) :
    Calls Try.prog 80 #[.agg #[.bool n, .int .i64 e, .int .u64 M]] w fun e' w' => e' = .returned (.agg #[.bool n, .int .i64 (e - (63 - L)), .int .u64 T]) ∧ Grown w w' := by
  go_enter Try.func80, Try.ntmps80
  go_wp2_with (go_at_call 95; refine (len_any _ _ (by omega) (by omega)).mono ?_; rintro e w' ⟨he, rfl⟩; rw [hL.out] at he; subst he)
  refine wp_region_still_tail 11 (by kernel_rfl) (by kernel_rfl) ?_
  simp only [List.take_succ_cons, List.take_zero, List.drop_succ_cons, List.drop_zero]
  change wpStill _ _ (World.drew _) (fun a' => wpList _ _ _ _ a' (World.drew _)) _ _
  repeat (first | still_step)
  try refine wpStill_nil ?_
  go_wp2
  (try simp only [Exit.inBlock, Exit.then])
  refine bodyPost_ret (v := .agg #[.bool n, .int .i64 (e - (63 - L)), .int .u64 T]) ?_ rfl ⟨rfl, ?_⟩
  · rw [results_one rfl]
    go_simp
  · exact (Grown.alloc (Grown.alloc (Grown.refl w) _ _) _ _).drew
end Go.Proofs.Ytheaeclojljecaa
