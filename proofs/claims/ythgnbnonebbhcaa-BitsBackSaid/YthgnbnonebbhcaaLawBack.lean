/- The walk of BitsBack. -/
import Derived.Test.YthgnbnonebbhcaaLawTurn
namespace Go.Proofs.Ythgnbnonebbhcaa
open Go.RowKit
set_option linter.unusedVariables false

set_option maxHeartbeats 1000000 in
theorem back_walk (a0 : Int) (a1 : Int) (w0 : (Lit.int .u64 a0).wf = true) (w1 : (Lit.int .u8 a1).wf = true) (w : World) :
    Calls Try.prog 5 #[.int .u64 a0, .int .u8 a1] w fun e w' => e = .returned (.bool true) ∧ Grown w w' := by
  obtain ⟨b0, b1⟩ := bounds_u64 w0
  obtain ⟨b2, b3⟩ := bounds_u8 w1
  clear w0 w1
  go_enter Try.func5, Try.ntmps5
  go_wp2_with (first
    | (go_at_call 9; refine (known_any _).mono ?_; rintro e w' ⟨rfl, m, rfl⟩))
  have k0 : 0 ≤ a1 % 64 := by omega
  have k1 : a1 % 64 ≤ 63 := by omega
  generalize a1 % 64 = K at k0 k1 ⊢
  obtain ⟨s0, s1⟩ := shV_bd a0 K b0 b1
  obtain ⟨f1, f2, f3⟩ := back_shift a0 K b0 b1 k0 k1
  obtain ⟨c0, c1⟩ := cut_bd a0 K b0 b1
  have g2 : IntKind.u64.wrap (shV (shV a0 K) (-K) + cutI a0 K) = a0 := by rw [f2]; exact u64w a0 b0 b1
  have g3 := sh_right_o a0 K k0
  have g4 := back_signed a0 b0 b1
  have g5 := back_cut a0 K k0 k1
  have u0 := (u64w_bd (sgnI a0 K)).1
  have u1 := (u64w_bd (sgnI a0 K)).2
  clear f2
  go_wp2_with (first
    | (go_at_call 10; refine (shift_any _ _ _ (by omega) (by omega) (by omega) (by omega)).mono ?_; rintro e w' ⟨rfl, m2, rfl⟩)
    | (go_at_call 12; refine (cut_any _ _ _ (by omega) (by omega)).mono ?_; rintro e w' ⟨rfl, rfl⟩)
    | (go_at_call 14; refine (signed_any _ _ _ (by omega) (by omega)).mono ?_; rintro e w' ⟨rfl, rfl⟩))
  trace_state
  go_ret
  exact ⟨rfl, grown_drewN _ _⟩
end Go.Proofs.Ythgnbnonebbhcaa
