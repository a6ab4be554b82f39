/- What the laws of layer 12 ask first. (Written by gen32.py.) -/
import Derived.Test.YtheaeclojljecaaFun
import Derived.KernelRfl
namespace Go.Proofs.Ytheaeclojljecaa
open Go.RowKit
set_option linter.unusedVariables false
set_option linter.unusedSimpArgs false

theorem fun_knowns : expI 0 = 1065353216 ∧ logI 1065353216 = 0 ∧ tanI 2147483648 = 2147483648 ∧ sigI 0 = 1056964608 ∧ gelI 0 = 0 := by
  refine ⟨?_, ?_, ?_, ?_, ?_⟩ <;> kernel_rfl

set_option maxHeartbeats 4000000 in
theorem known12_any (w : World) : Calls Try.prog 6 #[] w fun e w' => e = .returned (.bool true) ∧ Grown w w' := by
  obtain ⟨k1, k2, k3, k4, k5⟩ := fun_knowns
  have K1 := Lib.hid k1
  have K2 := Lib.hid k2
  have K3 := Lib.hid k3
  have K4 := Lib.hid k4
  have K5 := Lib.hid k5
  clear k1 k2 k3 k4 k5
  have HG := Lib.hid (Grown.refl w)
  go_enter Try.func6, Try.ntmps6
  go_wp2_with (first
    | (go_at_call 7; refine (fexp_any _ _ (by omega) (by omega)).mono ?_; rintro e W1 ⟨he, _, _, hW1⟩; rw [K1.out] at he; subst he; replace HG := Lib.hid (grown_trans HG.out hW1); clear hW1)
    | (go_at_call 8; refine (flog_any _ _ (by omega) (by omega)).mono ?_; rintro e W1 ⟨he, _, _, hW1⟩; rw [K2.out] at he; subst he; replace HG := Lib.hid (grown_trans HG.out hW1); clear hW1)
    | (go_at_call 9; refine (ftan_any _ _ (by omega) (by omega)).mono ?_; rintro e W1 ⟨he, _, _, hW1⟩; rw [K3.out] at he; subst he; replace HG := Lib.hid (grown_trans HG.out hW1); clear hW1)
    | (go_at_call 10; refine (fsig_any _ _ (by omega) (by omega)).mono ?_; rintro e W1 ⟨he, _, _, hW1⟩; rw [K4.out] at he; subst he; replace HG := Lib.hid (grown_trans HG.out hW1); clear hW1)
    | (go_at_call 11; refine (fgel_any _ _ (by omega) (by omega)).mono ?_; rintro e W1 ⟨he, _, _, hW1⟩; rw [K5.out] at he; subst he; replace HG := Lib.hid (grown_trans HG.out hW1); clear hW1))
  go_ret
  exact ⟨rfl, HG.out⟩
end Go.Proofs.Ytheaeclojljecaa
