/- The walk of FuncsSigns. (Written by gen35.py.) -/
import Derived.Test.YtheaeclojljecaaFuKnown
import Derived.Test.YtheaeclojljecaaFunLand
namespace Go.Proofs.Ytheaeclojljecaa
open Go.RowKit
set_option linter.unusedVariables false
set_option linter.unusedSimpArgs false

theorem or_top (t : Int) (t0 : 0 ≤ t) (t1 : t < 2147483648) : bits .or .u32 t 2147483648 = t + 2147483648 := by
  have h := or_zer 2 t true t0 (by rw [show sgb 2 = 2147483648 by rfl]; exact t1)
  exact h

theorem and_all (a : Int) (a0 : 0 ≤ a) (a1 : a ≤ 4294967295) : bits .and .u32 a 4294967295 = a := low_is 2 a a0 (by rw [show msk 2 = 4294967295 by rfl]; exact a1)

set_option maxRecDepth 100000 in
set_option maxHeartbeats 16000000 in
theorem fusigns_walk (a0 : Int) (w0 : (Lit.int .u32 a0).wf = true) (w : World) :
    Calls Try.prog 4 #[.int .u32 a0] w fun e w' => e = .returned (.bool true) ∧ Grown w w' := by
  obtain ⟨b0, b1⟩ := bounds_u32 w0
  clear w0
  have HG := Lib.hid (Grown.refl w)
  obtain ⟨x, hx⟩ : ∃ x, a0 % 2147483648 = x := ⟨_, rfl⟩
  have hand : bits .andNot .u32 a0 2147483648 = x := by rw [abs_land a0 b0 b1]; exact hx
  have hall := and_all a0 b0 b1
  have hxb : 0 ≤ x ∧ x < 2147483648 := by omega
  obtain ⟨x0, x2⟩ := hxb
  by_cases c : 2139095040 < x
  · clear hx
    go_enter Try.func4, Try.ntmps4
    go_wp2_with (first
      | (go_at_call 6; refine (known12_any _).mono ?_; rintro e W1 ⟨rfl, hW1⟩; replace HG := Lib.hid (show Grown w W1 from grown_trans (by repeat (first | with_reducible exact HG.out | with_reducible refine Grown.setCell ?_ (by simp <;> omega) _ | with_reducible refine Grown.alloc ?_ _ _ | with_reducible refine grown_more ?_ _ | with_reducible refine Grown.drew ?_)) hW1); clear hW1))
    go_ret
    exact ⟨rfl, by repeat (first | with_reducible exact HG.out | with_reducible refine Grown.setCell ?_ (by simp <;> omega) _ | with_reducible refine Grown.alloc ?_ _ _ | with_reducible refine grown_more ?_ _ | with_reducible refine Grown.drew ?_)⟩
  · have x1 : x ≤ 2139095040 := by omega
    obtain ⟨t, e, g, h1, h2, t0, t1, h3, e0, e1, h4, g0, g1, h5⟩ := signs_all x a0 x0 x1 b0 b1 hx
    obtain ⟨C, hC⟩ : ∃ C, clsI 2 t = C := ⟨_, rfl⟩
    rw [hC] at h5
    have hor := or_top x x0 x2
    have hot := or_top t t0 (by omega)
    have HT := Lib.hid (show Ending.returned (.int .u32 (tanI x)) = .returned (.int .u32 t) by rw [h1])
    have HU := Lib.hid (show Ending.returned (.int .u32 (tanI (x + 2147483648))) = .returned (.int .u32 (t + 2147483648)) by rw [h2])
    have HE := Lib.hid (show Ending.returned (.int .u32 (expI (x + 2147483648))) = .returned (.int .u32 e) by rw [h3])
    have HS := Lib.hid (show Ending.returned (.int .u32 (sigI a0)) = .returned (.int .u32 g) by rw [h4])
    have HC := Lib.hid (show Ending.returned (.int .i64 (clsI 2 t)) = .returned (.int .i64 C) by rw [hC])
    clear hx h1 h2 h3 h4 hC
    go_enter Try.func4, Try.ntmps4
    go_wp2_with (first
      | (go_at_call 6; refine (known12_any _).mono ?_; rintro e W1 ⟨rfl, hW1⟩; replace HG := Lib.hid (show Grown w W1 from grown_trans (by repeat (first | with_reducible exact HG.out | with_reducible refine Grown.setCell ?_ (by simp <;> omega) _ | with_reducible refine Grown.alloc ?_ _ _ | with_reducible refine grown_more ?_ _ | with_reducible refine Grown.drew ?_)) hW1); clear hW1)
      | (go_at_call 9; refine (ftan_any _ _ (by omega) (by omega)).mono ?_; rintro e W1 ⟨he, _, _, hW1⟩; (first | rw [HT.out] at he | rw [HU.out] at he); subst he; replace HG := Lib.hid (show Grown w W1 from grown_trans (by repeat (first | with_reducible exact HG.out | with_reducible refine Grown.setCell ?_ (by simp <;> omega) _ | with_reducible refine Grown.alloc ?_ _ _ | with_reducible refine grown_more ?_ _ | with_reducible refine Grown.drew ?_)) hW1); clear hW1)
      | (go_at_call 7; refine (fexp_any _ _ (by omega) (by omega)).mono ?_; rintro e W1 ⟨he, _, _, hW1⟩; (first | rw [HE.out] at he); subst he; replace HG := Lib.hid (show Grown w W1 from grown_trans (by repeat (first | with_reducible exact HG.out | with_reducible refine Grown.setCell ?_ (by simp <;> omega) _ | with_reducible refine Grown.alloc ?_ _ _ | with_reducible refine grown_more ?_ _ | with_reducible refine Grown.drew ?_)) hW1); clear hW1)
      | (go_at_call 10; refine (fsig_any _ _ (by omega) (by omega)).mono ?_; rintro e W1 ⟨he, _, _, hW1⟩; (first | rw [HS.out] at he); subst he; replace HG := Lib.hid (show Grown w W1 from grown_trans (by repeat (first | with_reducible exact HG.out | with_reducible refine Grown.setCell ?_ (by simp <;> omega) _ | with_reducible refine Grown.alloc ?_ _ _ | with_reducible refine grown_more ?_ _ | with_reducible refine Grown.drew ?_)) hW1); clear hW1)
      | (go_at_call 14; refine (rclass_any _ _ _ (by omega) (by omega)).mono ?_; rintro e W1 ⟨he, dm, rfl⟩; rw [HC.out] at he; subst he))
    go_ret
    exact ⟨rfl, by repeat (first | with_reducible exact HG.out | with_reducible refine Grown.setCell ?_ (by simp <;> omega) _ | with_reducible refine Grown.alloc ?_ _ _ | with_reducible refine grown_more ?_ _ | with_reducible refine Grown.drew ?_)⟩
end Go.Proofs.Ytheaeclojljecaa
