/- What the laws of layer 8 ask first; the format that a draw picks. -/
import Derived.Test.YtbmcohikblldjaaWho
import Derived.Test.YtbmcohikblldjaaNum
import Derived.Test.YtbmcohikblldjaaMild
import Derived.Handy
import Derived.KernelRfl
namespace Go.Proofs.Ytbmcohikblldjaa
open Go.RowKit
set_option linter.unusedVariables false
set_option linter.unusedSimpArgs false

theorem wknown_one : toE 2 0 1075838976 = .returned (.tuple #[.int .i32 2, .agg #[.bool false, .bool false, .bool false, .bool false, .bool true]]) := by kernel_rfl

theorem wknown_two : fromE 0 0 (-3) = .returned (.tuple #[.int .u32 49664, .agg #[.bool false, .bool false, .bool false, .bool false, .bool false]]) := by kernel_rfl

theorem wknown_three : scaE 2 0 1065353216 3 = .returned (.tuple #[.int .u32 1090519040, .agg #[.bool false, .bool false, .bool false, .bool false, .bool false]]) := by kernel_rfl

set_option maxHeartbeats 1000000 in
theorem known8_any (w : World) : Calls Try.prog 7 #[] w fun e w' => e = .returned (.bool true) ∧ Grown w w' := by
  have K1 := Lib.hid wknown_one
  have K2 := Lib.hid wknown_two
  have K3 := Lib.hid wknown_three
  go_enter Try.func7, Try.ntmps7
  go_wp2_with (first
    | (go_at_call 13; refine (wtoint_any _ _ _ _ (by omega) (by omega)).mono ?_; rintro e W1 ⟨he, hW1⟩; rw [K1.out] at he; subst he; have HW1 := Lib.hid hW1; clear hW1)
    | (go_at_call 9; refine (wfromint_any _ _ _ _ (by omega) (by omega)).mono ?_; rintro e W2 ⟨he, hW2⟩; rw [K2.out] at he; subst he; have HA := Lib.hid (grown_new5 hW2); have HW2 := Lib.hid hW2; clear hW2)
    | (go_at_call 17; refine (wscale_any _ _ _ _ _ (by omega) (by omega) (by omega) (by omega)).mono ?_; rintro e W3 ⟨he, hW3⟩; rw [K3.out] at he; subst he; obtain ⟨y0, y1, y2, y3, y4, y5⟩ := HA.out.grown (grown_trans (Grown.alloc (Grown.refl _) _ _) hW3); obtain ⟨z0, z1, z2, z3, z4, z5⟩ := grown_new5 hW3; have HW3 := Lib.hid hW3; clear hW3))
  go_ret
  exact ⟨rfl, Grown.alloc (grown_trans (Grown.alloc (grown_trans (Grown.alloc HW1.out _ _) HW2.out) _ _) HW3.out) _ _⟩

set_option maxHeartbeats 1000000 in
theorem form8_any (k : Int) (w : World) (h0 : 0 ≤ k) (h1 : k ≤ 255) :
    Calls Try.prog 8 #[.int .u8 k] w fun e w' => e = .returned (.int .i64 (k % 3)) ∧ Grown w w' := by
  have hk : k % 3 = 0 ∨ k % 3 = 1 ∨ k % 3 = 2 := by omega
  rcases hk with hk | hk | hk
  all_goals
    go_enter Try.func8, Try.ntmps8
    go_wp2
    go_ret
    exact ⟨by rw [hk]; rfl, Grown.alloc (Grown.refl w) _ _⟩
end Go.Proofs.Ytbmcohikblldjaa
