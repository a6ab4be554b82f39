/- The walk of BitsRoot. -/
import Derived.Test.YthgnbnonebbhcaaLawTurn
namespace Go.Proofs.Ythgnbnonebbhcaa
open Go.RowKit
set_option linter.unusedVariables false

set_option maxHeartbeats 1000000 in
theorem root_walk (a0 : Int) (a1 : Int) (w0 : (Lit.int .u64 a0).wf = true) (w1 : (Lit.int .u8 a1).wf = true) (w : World) :
    Calls Try.prog 6 #[.int .u64 a0, .int .u8 a1] w fun e w' => e = .returned (.bool true) ∧ Grown w w' := by
  obtain ⟨b0, b1⟩ := bounds_u64 w0
  obtain ⟨b2, b3⟩ := bounds_u8 w1
  clear w0 w1
  go_enter Try.func6, Try.ntmps6
  go_wp2_with (first
    | (go_at_call 9; refine (known_any _).mono ?_; rintro e w' ⟨rfl, m, rfl⟩))
  have x0 : 0 ≤ a0 / 2 ^ (a1 % 64).toNat := Int.ediv_nonneg b0 (Int.le_of_lt (pow2_pos _))
  have x1 : a0 / 2 ^ (a1 % 64).toNat ≤ 18446744073709551615 := Int.le_trans (Int.ediv_le_self _ b0) b1
  generalize a0 / 2 ^ (a1 % 64).toNat = X at x0 x1 ⊢
  obtain ⟨r0, r1, r2⟩ := root_le X x0
  obtain ⟨_, r3⟩ := root_bd X x0 x1
  have e1 := sq_wrap (rootI X) r0 r3
  have g1 : decide (rootI X * rootI X ≤ X) = true := decide_eq_true r1
  have g2 : (rootI X * rootI X == X) = (rootI X * rootI X == X) := rfl
  by_cases c : rootI X = 4294967295
  · have c1 : (rootI X != 4294967295) = false := by rw [c]; rfl
    clear c r2
    go_wp2_with (first
      | (go_at_call 22; refine (root_any _ _ (by omega) (by omega)).mono ?_; rintro e w' ⟨rfl, rfl⟩))
    go_ret
    exact ⟨rfl, grown_drewN _ _⟩
  · have c1 : (rootI X != 4294967295) = true := by rw [bne_iff_ne]; exact c
    have e2 := sq_wrap (rootI X + 1) (by omega) (by omega)
    have g3 : decide ((rootI X + 1) * (rootI X + 1) ≤ X) = false := decide_eq_false (by omega)
    clear c
    go_wp2_with (first
      | (go_at_call 22; refine (root_any _ _ (by omega) (by omega)).mono ?_; rintro e w' ⟨rfl, rfl⟩))
    go_ret
    exact ⟨rfl, grown_drewN _ _⟩
end Go.Proofs.Ythgnbnonebbhcaa
