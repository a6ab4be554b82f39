/- What the laws of layer 4 ask first; the format that a draw picks; a mild number. -/
import Derived.Test.YtdaikgeellpolaaSub
import Derived.Test.YtdaikgeellpolaaNum
import Derived.Handy
import Derived.KernelRfl
import Derived.Test.YtdaikgeellpolaaFive
namespace Go.Proofs.Ytdaikgeellpolaa
open Go.RowKit
set_option linter.unusedVariables false
set_option linter.unusedSimpArgs false

theorem sknown_one : addE 2 0 1065353216 1065353216 = .returned (.tuple #[.int .u32 1073741824, .agg #[.bool false, .bool false, .bool false, .bool false, .bool false]]) := by kernel_rfl
theorem sknown_two : subE 0 0 31744 31744 = .returned (.tuple #[.int .u32 32256, .agg #[.bool true, .bool false, .bool false, .bool false, .bool false]]) := by kernel_rfl

set_option maxHeartbeats 1000000 in
theorem known4_any (w : World) : Calls Try.prog 7 #[] w fun e w' => e = .returned (.bool true) ∧ Grown w w' := by
  have K1 := Lib.hid sknown_one
  have K2 := Lib.hid sknown_two
  go_enter Try.func7, Try.ntmps7
  go_wp2_with (first
    | (go_at_call 11; refine (sadd_any _ _ _ _ _ (by omega) (by omega) (by omega) (by omega)).mono ?_; rintro e W1 ⟨he, hW1⟩; rw [K1.out] at he; subst he; have HW1 := Lib.hid hW1; clear hW1)
    | (go_at_call 13; refine (ssub_any _ _ _ _ _ (by omega) (by omega) (by omega) (by omega)).mono ?_; rintro e W2 ⟨he, hW2⟩; rw [K2.out] at he; subst he; obtain ⟨z0, z1, z2, z3, z4, z5⟩ := grown_new5 hW2; have HW2 := Lib.hid hW2; clear hW2))
  go_ret
  exact ⟨rfl, Grown.alloc (grown_trans (Grown.alloc HW1.out _ _) HW2.out) _ _⟩

set_option maxHeartbeats 1000000 in
theorem form4_any (k : Int) (w : World) (h0 : 0 ≤ k) (h1 : k ≤ 255) :
    Calls Try.prog 8 #[.int .u8 k] w fun e w' => e = .returned (.int .i64 (k % 3)) ∧ Grown w w' := by
  have hk : k % 3 = 0 ∨ k % 3 = 1 ∨ k % 3 = 2 := by omega
  rcases hk with hk | hk | hk
  all_goals
    go_enter Try.func8, Try.ntmps8
    go_wp2
    go_ret
    exact ⟨by rw [hk]; rfl, Grown.alloc (Grown.refl w) _ _⟩
end Go.Proofs.Ytdaikgeellpolaa
