/- The walk of BitsReckon. -/
import Derived.Test.YthgnbnonebbhcaaLawTurn
import Derived.LoopN
import Derived.Handy
import Derived.Lib.Hide
namespace Go.Proofs.Ythgnbnonebbhcaa
open Go.RowKit
set_option linter.unusedVariables false

set_option maxRecDepth 100000 in
set_option maxHeartbeats 4000000 in
theorem reckon_walk (a0 a1 a2 a3 a4 : Int) (w0 : (Lit.int .u64 a0).wf = true) (w1 : (Lit.int .u64 a1).wf = true) (w2 : (Lit.int .u32 a2).wf = true) (w3 : (Lit.int .i64 a3).wf = true) (w4 : (Lit.int .u8 a4).wf = true) (w : World) :
    Calls Try.prog 4 #[.int .u64 a0, .int .u64 a1, .int .u32 a2, .int .i64 a3, .int .u8 a4] w fun e w' => e = .returned (.bool true) ∧ Grown w w' := by
  obtain ⟨b0, b1⟩ := bounds_u64 w0
  obtain ⟨b2, b3⟩ := bounds_u64 w1
  obtain ⟨b4, b5⟩ := bounds_u32 w2
  obtain ⟨b6, b7⟩ := bounds_i64 w3
  obtain ⟨b8, b9⟩ := bounds_u8 w4
  clear w0 w1 w2 w3 w4
  have x0 : 0 ≤ a0 / 2 ^ (a4 % 64).toNat := Int.ediv_nonneg b0 (Int.le_of_lt (pow2_pos _))
  have x1 : a0 / 2 ^ (a4 % 64).toNat ≤ 18446744073709551615 := Int.le_trans (Int.ediv_le_self _ b0) b1
  have v0 := Int.mul_nonneg b4 b4
  have v1 := (prod_bound a2 a2 b4 b5 b4 b5).2
  go_enter Try.func4, Try.ntmps4
  go_wp2_with (first
    | (go_at_call 9; refine (known_grown _).mono ?_; rintro e W ⟨rfl, hW⟩))
  have HW := Lib.hid hW
  clear hW
  refine wp_loop_rounds 3 ?_
  repeat any_goals (rw [rounds_succ]; go_wp2_with (first
    | (go_at_call 18; refine (rotate_any _ _ _ (by omega) (by omega) (by omega) (by omega)).mono ?_; rintro e w' ⟨rfl, m2, rfl⟩)
    | (go_at_call 19; refine (rrotate_any _ _ _ (by omega) (by omega) (by omega) (by omega)).mono ?_; rintro e w' ⟨rfl, rfl⟩)
    | (go_at_call 20; refine (product_any _ _ _ (by omega) (by omega) (by omega) (by omega)).mono ?_; rintro e w' ⟨rfl, rfl⟩)
    | (go_at_call 21; refine (rproduct_any _ _ _ (by omega) (by omega) (by omega) (by omega)).mono ?_; rintro e w' ⟨rfl, rfl⟩)))
  refine wp_loop_rounds 6 ?_
  repeat any_goals (rw [rounds_succ]; go_wp2_with (first
    | (go_at_call 22; refine (root_any _ _ (by first | omega | exact (u64w_bd _).1) (by first | omega | exact (u64w_bd _).2)).mono ?_; rintro e w' ⟨rfl, rfl⟩)
    | (go_at_call 23; refine (rroot_any _ _ (by first | omega | exact (u64w_bd _).1) (by first | omega | exact (u64w_bd _).2)).mono ?_; rintro e w' ⟨rfl, rfl⟩)))
  have hW := HW.out
  go_ret
  exact ⟨rfl, by repeat (first | exact hW | apply grown_more | apply Grown.alloc)⟩
end Go.Proofs.Ythgnbnonebbhcaa
