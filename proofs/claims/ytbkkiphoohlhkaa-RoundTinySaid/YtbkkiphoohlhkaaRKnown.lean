/- What the laws of layer 3 ask first; the format that a draw picks. -/
import Derived.Test.YtbkkiphoohlhkaaRd
import Derived.Handy
import Derived.KernelRfl
import Derived.Test.YtbkkiphoohlhkaaFive
namespace Go.Proofs.Ytbkkiphoohlhkaa
open Go.RowKit
set_option linter.unusedVariables false
set_option linter.unusedSimpArgs false

theorem known_one : PackE 0 0 false (valN (clampE 0) 2049 false) = .returned (.tuple #[.int .u32 26624, .agg #[.bool false, .bool false, .bool false, .bool false, .bool true]]) := by
  have e1 : rdV 0 0 false (valN (clampE 0) 2049 false) = 26624 := by kernel_rfl
  have e2 : rdO 0 0 false (valN (clampE 0) 2049 false) = false := by kernel_rfl
  have e3 : rdU 0 (valN (clampE 0) 2049 false) = false := by kernel_rfl
  have e4 : rdX 0 0 false (valN (clampE 0) 2049 false) = true := by kernel_rfl
  rw [← packE_is, e1, e2, e3, e4]
theorem known_two : PackE 0 2 true (valN (clampE 100) 1 false) = .returned (.tuple #[.int .u32 64511, .agg #[.bool false, .bool false, .bool true, .bool false, .bool true]]) := by
  have e1 : rdV 0 2 true (valN (clampE 100) 1 false) = 64511 := by kernel_rfl
  have e2 : rdO 0 2 true (valN (clampE 100) 1 false) = true := by kernel_rfl
  have e3 : rdU 0 (valN (clampE 100) 1 false) = false := by kernel_rfl
  have e4 : rdX 0 2 true (valN (clampE 100) 1 false) = true := by kernel_rfl
  rw [← packE_is, e1, e2, e3, e4]

set_option maxHeartbeats 1000000 in
theorem known3_any (w : World) : Calls Try.prog 8 #[] w fun e w' => e = .returned (.bool true) ∧ Grown w w' := by
  have K1 := Lib.hid known_one
  have K2 := Lib.hid known_two
  go_enter Try.func8, Try.ntmps8
  go_wp2_with (first
    | (go_at_call 10; refine (pack_any _ _ _ _ _ _ _ (by omega) (by omega) (by omega) (by omega)).mono ?_; rintro e W1 ⟨he, hW1⟩; rw [K1.out] at he; subst he; have HW1 := Lib.hid hW1; clear hW1)
    | (go_at_call 10; refine (pack_any _ _ _ _ _ _ _ (by omega) (by omega) (by omega) (by omega)).mono ?_; rintro e W2 ⟨he, hW2⟩; rw [K2.out] at he; subst he; obtain ⟨z0, z1, z2, z3, z4, z5⟩ := grown_new5 hW2; have HW2 := Lib.hid hW2; clear hW2))
  go_ret
  exact ⟨rfl, Grown.alloc (grown_trans (Grown.alloc HW1.out _ _) HW2.out) _ _⟩

set_option maxHeartbeats 1000000 in
theorem form3_any (k : Int) (w : World) (h0 : 0 ≤ k) (h1 : k ≤ 255) :
    Calls Try.prog 9 #[.int .u8 k] w fun e w' => e = .returned (.int .i64 (k % 3)) ∧ Grown w w' := by
  have hk : k % 3 = 0 ∨ k % 3 = 1 ∨ k % 3 = 2 := by omega
  rcases hk with hk | hk | hk
  all_goals
    go_enter Try.func9, Try.ntmps9
    go_wp2
    go_ret
    exact ⟨by rw [hk]; rfl, Grown.alloc (Grown.refl w) _ _⟩

end Go.Proofs.Ytbkkiphoohlhkaa
