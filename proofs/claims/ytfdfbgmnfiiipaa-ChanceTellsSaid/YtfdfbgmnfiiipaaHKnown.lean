/- What the laws of layer 11 ask first. -/
import Derived.Test.YtfdfbgmnfiiipaaCha
import Derived.Handy
import Derived.KernelRfl
namespace Go.Proofs.Ytfdfbgmnfiiipaa
open Go.RowKit
set_option linter.unusedVariables false
set_option linter.unusedSimpArgs false

theorem hknown_all : chaI 1 1065418751 4294967295 = 16256 ∧ chaI 1 1065418751 0 = 16257 := by
  refine ⟨?_, ?_⟩ <;> kernel_rfl

set_option maxHeartbeats 1000000 in
theorem known11_any (w : World) : Calls Try.prog 7 #[] w fun e w' => e = .returned (.bool true) ∧ Grown w w' := by
  have K1 := Lib.hid hknown_all
  have HG := Lib.hid (Grown.refl w)
  go_enter Try.func7, Try.ntmps7
  go_wp2_with (go_at_call 10; refine (hnarrow_any _ _ _ _ (by omega) (by omega) (by omega) (by omega)).mono ?_; rintro e W1 ⟨he, hW⟩; (first | rw [K1.out.1] at he | rw [K1.out.2] at he); subst he; replace HG := Lib.hid (show Grown w W1 from grown_trans HG.out hW); clear hW)
  go_ret
  exact ⟨rfl, HG.out⟩
end Go.Proofs.Ytfdfbgmnfiiipaa
