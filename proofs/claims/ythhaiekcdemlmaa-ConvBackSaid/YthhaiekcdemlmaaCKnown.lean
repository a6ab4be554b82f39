/- What the laws of layer 9 ask first; the format that a draw picks. -/
import Derived.Test.YthhaiekcdemlmaaCon
import Derived.Test.YthhaiekcdemlmaaNum
import Derived.Test.YthhaiekcdemlmaaMild
import Derived.Handy
import Derived.KernelRfl
namespace Go.Proofs.Ythhaiekcdemlmaa
open Go.RowKit
set_option linter.unusedVariables false
set_option linter.unusedSimpArgs false

theorem cknown_one : conE 2 0 0 2139095039 = .returned (.tuple #[.int .u32 31744, .agg #[.bool false, .bool false, .bool true, .bool false, .bool true]]) := by kernel_rfl

theorem cknown_two : conV 1 2 0 16256 = 1065353216 ∧ conV 2 0 0 1065353216 = 15360 := by
  refine ⟨?_, ?_⟩ <;> kernel_rfl

set_option maxHeartbeats 1000000 in
theorem known9_any (w : World) : Calls Try.prog 6 #[] w fun e w' => e = .returned (.bool true) ∧ Grown w w' := by
  have K1 := Lib.hid cknown_one
  have K2 := Lib.hid cknown_two
  go_enter Try.func6, Try.ntmps6
  go_wp2_with (first
    | (go_at_call 10; refine (cto_any _ _ _ _ _ (by omega) (by omega)).mono ?_; rintro e W1 ⟨he, hW1⟩; rw [K1.out] at he; subst he; have HG := Lib.hid hW1; clear hW1)
    | (go_at_call 12; refine (cwiden_any _ _ _ (by omega) (by omega)).mono ?_; rintro e W2 ⟨he, hW⟩; rw [K2.out.1] at he; subst he; have HF := Lib.hid (grown_new5 hW); replace HG := Lib.hid (show Grown w W2 from grown_trans (Grown.alloc HG.out _ _) hW); clear hW)
    | (go_at_call 14; refine (cnarrow_any _ _ _ (by omega) (by omega)).mono ?_; rintro e W3 ⟨he, hW⟩; rw [K2.out.2] at he; subst he; replace HF := Lib.hid (HF.out.grown hW); obtain ⟨z0, z1, z2, z3, z4, z5⟩ := HF.out; replace HG := Lib.hid (show Grown w W3 from grown_trans HG.out hW); clear hW))
  go_ret
  exact ⟨rfl, HG.out⟩

set_option maxHeartbeats 1000000 in
theorem form9_any (k : Int) (w : World) (h0 : 0 ≤ k) (h1 : k ≤ 255) :
    Calls Try.prog 7 #[.int .u8 k] w fun e w' => e = .returned (.int .i64 (k % 3)) ∧ Grown w w' := by
  have hk : k % 3 = 0 ∨ k % 3 = 1 ∨ k % 3 = 2 := by omega
  rcases hk with hk | hk | hk
  all_goals
    go_enter Try.func7, Try.ntmps7
    go_wp2
    go_ret
    exact ⟨by rw [hk]; rfl, Grown.alloc (Grown.refl w) _ _⟩
end Go.Proofs.Ythhaiekcdemlmaa
