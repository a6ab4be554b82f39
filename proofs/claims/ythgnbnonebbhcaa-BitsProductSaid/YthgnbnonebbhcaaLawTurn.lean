/- The walk of BitsTurn. -/
import Derived.Test.YthgnbnonebbhcaaKnown
import Derived.OpenShut
namespace Go.Proofs.Ythgnbnonebbhcaa
open Go.RowKit
set_option linter.unusedVariables false

set_option maxHeartbeats 1000000 in
theorem turn_walk (a0 : Int) (a1 : Int) (a2 : Int) (w0 : (Lit.int .u32 a0).wf = true) (w1 : (Lit.int .u8 a1).wf = true) (w2 : (Lit.int .u8 a2).wf = true) (w : World) :
    Calls Try.prog 7 #[.int .u32 a0, .int .u8 a1, .int .u8 a2] w fun e w' => e = .returned (.bool true) ∧ Grown w w' := by
  obtain ⟨b0, b1⟩ := bounds_u32 w0
  obtain ⟨b2, b3⟩ := bounds_u8 w1
  obtain ⟨b4, b5⟩ := bounds_u8 w2
  clear w0 w1 w2
  obtain ⟨r0, r1⟩ := rotI_bd a0 a1 b0 b1
  have e1 := rotI_add a0 a1 a2 b0 b1
  have e2 : rotI (rotI a0 a1) (-a1) = a0 := by rw [rotI_add a0 a1 (-a1) b0 b1]; exact rotI_zero _ _ (by omega)
  have e3 : rotI a0 32 = a0 := rotI_zero _ _ (by omega)
  go_enter Try.func7, Try.ntmps7
  go_wp2_with (first
    | (go_at_call 9; refine (known_any _).mono ?_; rintro e w' ⟨rfl, m, rfl⟩)
    | (go_at_call 18; refine (rotate_any _ _ _ (by omega) (by omega) (by omega) (by omega)).mono ?_; rintro e w' ⟨rfl, m2, rfl⟩))
  go_ret
  exact ⟨rfl, grown_drewN _ _⟩
end Go.Proofs.Ythgnbnonebbhcaa
