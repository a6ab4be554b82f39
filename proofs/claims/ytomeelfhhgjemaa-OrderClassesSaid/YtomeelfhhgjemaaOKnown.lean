/- What the laws of layer 7 ask first; the format that a draw picks. -/
import Derived.Test.YtomeelfhhgjemaaOrd
import Derived.Test.YtomeelfhhgjemaaNum
import Derived.Handy
import Derived.KernelRfl
namespace Go.Proofs.Ytomeelfhhgjemaa
open Go.RowKit
set_option linter.unusedVariables false
set_option linter.unusedSimpArgs false

theorem oknown_all : cmpC 2 0 2147483648 = 0 ∧ cmpO 2 0 2147483648 = true ∧ cmpO 0 32256 0 = false ∧ keyI 2 2147483648 = -1 ∧ lesB 0 48128 15360 = true ∧ minO 2 0 2147483648 = 2147483648 := by decide

set_option maxHeartbeats 1000000 in
theorem known7_any (w : World) : Calls Try.prog 6 #[] w fun e w' => e = .returned (.bool true) ∧ Grown w w' := by
  obtain ⟨k1, k2, k3, k4, k5, k6⟩ := oknown_all
  go_enter Try.func6, Try.ntmps6
  have HG := Lib.hid (Grown.refl w)
  go_wp2_with (first
    | (go_at_call 9; refine (ocompare_any _ _ _ _ (by omega) (by omega) (by omega) (by omega)).mono ?_; rintro e W1 ⟨he, hW1⟩; (try simp only [k1, k2, k3, k4, k5, k6] at he); subst he; replace HG := Lib.hid (grown_trans HG.out hW1); clear hW1)
    | (go_at_call 11; refine (oless_any _ _ _ _ (by omega) (by omega) (by omega) (by omega)).mono ?_; rintro e W1 ⟨he, hW1⟩; (try simp only [k1, k2, k3, k4, k5, k6] at he); subst he; replace HG := Lib.hid (grown_trans HG.out hW1); clear hW1)
    | (go_at_call 13; refine (omin_any _ _ _ _ (by omega) (by omega) (by omega) (by omega)).mono ?_; rintro e W1 ⟨he, hW1⟩; (try simp only [k1, k2, k3, k4, k5, k6] at he); subst he; replace HG := Lib.hid (grown_trans HG.out hW1); clear hW1)
    | (go_at_call 17; refine (okey_any _ _ _ (by omega) (by omega)).mono ?_; rintro e W1 ⟨he, hW1⟩; (try simp only [k1, k2, k3, k4, k5, k6] at he); subst he; replace HG := Lib.hid (grown_trans HG.out hW1); clear hW1))
  go_ret
  exact ⟨rfl, HG.out⟩

set_option maxHeartbeats 1000000 in
theorem form7_any (k : Int) (w : World) (h0 : 0 ≤ k) (h1 : k ≤ 255) :
    Calls Try.prog 7 #[.int .u8 k] w fun e w' => e = .returned (.int .i64 (k % 3)) ∧ Grown w w' := by
  have hk : k % 3 = 0 ∨ k % 3 = 1 ∨ k % 3 = 2 := by omega
  rcases hk with hk | hk | hk
  all_goals
    go_enter Try.func7, Try.ntmps7
    go_wp2
    go_ret
    exact ⟨by rw [hk]; rfl, Grown.alloc (Grown.refl w) _ _⟩
end Go.Proofs.Ytomeelfhhgjemaa
