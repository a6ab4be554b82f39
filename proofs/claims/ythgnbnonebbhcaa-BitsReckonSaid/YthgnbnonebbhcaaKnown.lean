/- What the laws of layer 1 ask first: the chapter's example. -/
import Derived.Test.YthgnbnonebbhcaaBits
import Derived.Test.YthgnbnonebbhcaaRefs
namespace Go.Proofs.Ythgnbnonebbhcaa
open Go.RowKit
set_option linter.unusedVariables false

set_option maxHeartbeats 1000000 in
theorem known_any (w : World) : Calls Try.prog 9 #[] w fun e w' => e = .returned (.bool true) ∧ ∃ m, w' = w.drewN m := by
  have k1 : shV 5 1 = 2 := by decide
  have k2 : shO 5 1 = true := by decide
  have k3 : prodH 9223372036854775808 2 = 1 := by decide
  have k4 : prodL 9223372036854775808 2 = 0 := by decide
  have k5 : rootI 17 = 4 := (root_unique 17 4 (by decide) (by decide) (by decide)).symm
  have k6 : lenI 8 = 4 := by decide
  have k7 : rotI 1 (-1) = 2147483648 := by unfold rotI; rw [rotN_closed _ _ (by decide) (by decide) (by decide)]; decide
  go_enter Try.func9, Try.ntmps9
  go_wp2_with (first
    | (go_at_call 10; refine (shift_any _ _ _ (by omega) (by omega) (by omega) (by omega)).mono ?_; rintro e w' ⟨rfl, m, rfl⟩)
    | (go_at_call 20; refine (product_any _ _ _ (by omega) (by omega) (by omega) (by omega)).mono ?_; rintro e w' ⟨rfl, rfl⟩)
    | (go_at_call 22; refine (root_any _ _ (by omega) (by omega)).mono ?_; rintro e w' ⟨rfl, rfl⟩)
    | (go_at_call 16; refine (len_any _ _ (by omega) (by omega)).mono ?_; rintro e w' ⟨rfl, rfl⟩)
    | (go_at_call 18; refine (rotate_any _ _ _ (by omega) (by omega) (by omega) (by omega)).mono ?_; rintro e w' ⟨rfl, m2, rfl⟩))
  go_ret
  exact ⟨rfl, _, rfl⟩
theorem grown_drewN (w : World) (m : Nat) : Grown w (w.drewN m) := by
  induction m with
  | zero => exact Grown.refl _
  | succ m ih => exact ih.drew
theorem grown_more {w w' : World} (h : Grown w w') (m : Nat) : Grown w (w'.drewN m) := by
  induction m with
  | zero => exact h
  | succ m ih => exact ih.drew
/-- The same, the world behind it under a name of its own. -/
theorem known_grown (w : World) : Calls Try.prog 9 #[] w fun e w' => e = .returned (.bool true) ∧ Grown w w' :=
  (known_any w).mono fun _ _ ⟨he, m, hm⟩ => ⟨he, hm ▸ grown_drewN w m⟩
end Go.Proofs.Ythgnbnonebbhcaa
