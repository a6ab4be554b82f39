/- What the laws of layer 2 ask first; the format that a draw picks. -/
import Derived.Test.YtibhdlpjkciojaaFmt
import Derived.Test.YtibhdlpjkciojaaNum
namespace Go.Proofs.Ytibhdlpjkciojaa
open Go.RowKit
set_option linter.unusedVariables false

set_option maxHeartbeats 1000000 in
theorem known2_any (w : World) : Calls Try.prog 7 #[] w fun e w' => e = .returned (.bool true) ∧ Grown w w' := by
  have k1 : fS 2 1065353216 = false := by decide
  have k2 : unE 2 1065353216 = -23 := by decide
  have k3 : unM 2 1065353216 = 8388608 := by decide
  have k4 : fe 1 = 8 := by decide
  have k5 : fn 1 = 7 := by decide
  have k6 : clsI 0 31745 = 5 := by decide
  have k7 : nanI 0 = 32256 := by decide
  go_enter Try.func7, Try.ntmps7
  go_wp2_with (first
    | (go_at_call 9; refine (unpack_any _ _ _ (by omega) (by omega)).mono ?_; rintro e w' ⟨rfl, m, rfl⟩)
    | (go_at_call 15; refine (widths_any _ _).mono ?_; rintro e w' ⟨rfl, rfl⟩)
    | (go_at_call 11; refine (class_any _ _ _ (by omega) (by omega)).mono ?_; rintro e w' ⟨rfl, m, rfl⟩)
    | (go_at_call 25; refine (nan_any _ _).mono ?_; rintro e w' ⟨rfl, rfl⟩))
  go_ret
  exact ⟨rfl, grown_drewN _ _⟩

set_option maxHeartbeats 1000000 in
theorem form_any (k : Int) (w : World) (h0 : 0 ≤ k) (h1 : k ≤ 255) :
    Calls Try.prog 27 #[.int .u8 k] w fun e w' => e = .returned (.int .i64 (k % 3)) ∧ Grown w w' := by
  have hk : k % 3 = 0 ∨ k % 3 = 1 ∨ k % 3 = 2 := by omega
  rcases hk with hk | hk | hk
  all_goals
    go_enter Try.func27, Try.ntmps27
    go_wp2
    go_ret
    exact ⟨by rw [hk]; rfl, Grown.alloc (Grown.refl w) _ _⟩
end Go.Proofs.Ytibhdlpjkciojaa
