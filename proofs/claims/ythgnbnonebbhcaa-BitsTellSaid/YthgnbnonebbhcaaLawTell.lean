/- The walk of BitsTell. -/
import Derived.Test.YthgnbnonebbhcaaLawTurn
import Derived.LoopN
import Derived.Lib.Hide
namespace Go.Proofs.Ythgnbnonebbhcaa
open Go.RowKit
set_option linter.unusedVariables false

set_option maxRecDepth 100000 in
set_option maxHeartbeats 8000000 in
theorem tell_walk (a0 a1 a2 : Int) (w0 : (Lit.int .u64 a0).wf = true) (w1 : (Lit.int .i64 a1).wf = true) (w2 : (Lit.int .u8 a2).wf = true) (w : World) :
    Calls Try.prog 3 #[.int .u64 a0, .int .i64 a1, .int .u8 a2] w fun e w' => e = .returned (.bool true) ∧ Grown w w' := by
  obtain ⟨b0, b1⟩ := bounds_u64 w0
  obtain ⟨b2, b3⟩ := bounds_i64 w1
  obtain ⟨b4, b5⟩ := bounds_u8 w2
  clear w0 w1 w2
  have x0 : 0 ≤ a0 / 2 ^ (a2 % 64).toNat := Int.ediv_nonneg b0 (Int.le_of_lt (pow2_pos _))
  have x1 : a0 / 2 ^ (a2 % 64).toNat ≤ 18446744073709551615 := Int.le_trans (Int.ediv_le_self _ b0) b1
  go_enter Try.func3, Try.ntmps3
  go_wp2_with (first
    | (go_at_call 9; refine (known_grown _).mono ?_; rintro e W ⟨rfl, hW⟩))
  have HW := Lib.hid hW
  clear hW
  refine wp_loop_rounds 9 ?_
  repeat any_goals (rw [rounds_succ]; go_wp2_with (first
    | (go_at_call 10; refine (shift_any _ _ _ (by omega) (by omega) (by omega) (by omega)).mono ?_; rintro e w' ⟨rfl, m2, rfl⟩)
    | (go_at_call 11; refine (rshift_any _ _ _ (by omega) (by omega) (by omega) (by omega)).mono ?_; rintro e w' ⟨rfl, rfl⟩)
    | (go_at_call 12; refine (cut_any _ _ _ (by omega) (by omega)).mono ?_; rintro e w' ⟨rfl, rfl⟩)
    | (go_at_call 13; refine (rcut_any _ _ _ (by omega) (by omega)).mono ?_; rintro e w' ⟨rfl, rfl⟩)
    | (go_at_call 14; refine (signed_any _ _ _ (by omega) (by omega)).mono ?_; rintro e w' ⟨rfl, rfl⟩)
    | (go_at_call 15; refine (rsigned_any _ _ _ (by omega) (by omega) (by omega) (by omega)).mono ?_; rintro e w' ⟨rfl, m2, rfl⟩)
    | (go_at_call 16; refine (len_any _ _ (by omega) (by omega)).mono ?_; rintro e w' ⟨rfl, rfl⟩)
    | (go_at_call 17; refine (rlen_any _ _ (by omega) (by omega)).mono ?_; rintro e w' ⟨rfl, rfl⟩)))
  have hW := HW.out
  go_ret
  exact ⟨rfl, by repeat (first | exact hW | apply grown_more | apply Grown.alloc)⟩
end Go.Proofs.Ythgnbnonebbhcaa
