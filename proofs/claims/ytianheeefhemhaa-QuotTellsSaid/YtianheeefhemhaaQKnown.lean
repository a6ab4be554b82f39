/- What the laws of layer 6 ask first; the format that a draw picks. (Written by gen16.py.) -/
import Derived.Test.YtianheeefhemhaaQuo
import Derived.Test.YtianheeefhemhaaQuoBack
import Derived.Test.YtianheeefhemhaaNum
import Derived.Test.YtianheeefhemhaaMild
import Derived.Handy
import Derived.KernelRfl
namespace Go.Proofs.Ytianheeefhemhaa
open Go.RowKit
set_option linter.unusedVariables false
set_option linter.unusedSimpArgs false

theorem qknown_one : sqrE 2 0 1082130432 = .returned (.tuple #[.int .u32 1073741824, .agg #[.bool false, .bool false, .bool false, .bool false, .bool false]]) :=
  int_root 2 0 2 1073741824 1082130432 (-22) (-21) 8388608 8388608
    ⟨by decide, by decide, by decide, by decide, by decide, by decide, by decide, by decide, by decide, by decide, by decide, by decide, by decide⟩
    ⟨by decide, by decide, by decide, by decide, by decide, by decide, by decide, by decide, by decide, by decide, by decide, by decide, by decide⟩

theorem qknown_two : divE 0 0 15360 0 = .returned (.tuple #[.int .u32 31744, .agg #[.bool false, .bool true, .bool false, .bool false, .bool false]]) := by kernel_rfl

set_option maxHeartbeats 1000000 in
theorem known6_any (w : World) : Calls Try.prog 7 #[] w fun e w' => e = .returned (.bool true) ∧ Grown w w' := by
  have K1 := Lib.hid qknown_one
  have K2 := Lib.hid qknown_two
  go_enter Try.func7, Try.ntmps7
  go_wp2_with (first
    | (go_at_call 13; refine (qsqrt_any _ _ _ _ (by omega) (by omega)).mono ?_; rintro e W1 ⟨he, hW1⟩; rw [K1.out] at he; subst he; have HW1 := Lib.hid hW1; clear hW1)
    | (go_at_call 11; refine (qdiv_any _ _ _ _ _ (by omega) (by omega) (by omega) (by omega)).mono ?_; rintro e W2 ⟨he, hW2⟩; rw [K2.out] at he; subst he; obtain ⟨z0, z1, z2, z3, z4, z5⟩ := grown_new5 hW2; have HW2 := Lib.hid hW2; clear hW2))
  go_ret
  exact ⟨rfl, Grown.alloc (grown_trans (Grown.alloc HW1.out _ _) HW2.out) _ _⟩

set_option maxHeartbeats 1000000 in
theorem form6_any (k : Int) (w : World) (h0 : 0 ≤ k) (h1 : k ≤ 255) :
    Calls Try.prog 8 #[.int .u8 k] w fun e w' => e = .returned (.int .i64 (k % 3)) ∧ Grown w w' := by
  have hk : k % 3 = 0 ∨ k % 3 = 1 ∨ k % 3 = 2 := by omega
  rcases hk with hk | hk | hk
  all_goals
    go_enter Try.func8, Try.ntmps8
    go_wp2
    go_ret
    exact ⟨by rw [hk]; rfl, Grown.alloc (Grown.refl w) _ _⟩
end Go.Proofs.Ytianheeefhemhaa
