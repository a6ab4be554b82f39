/- The walk of WholeScales. (Written by gen24.py.) -/
import Derived.Test.YtbmcohikblldjaaWKnown
import Derived.Test.YtbmcohikblldjaaWhoSides
namespace Go.Proofs.Ytbmcohikblldjaa
open Go.RowKit
set_option linter.unusedVariables false
set_option linter.unusedSimpArgs false

set_option maxRecDepth 100000 in
set_option maxHeartbeats 8000000 in
theorem wscales_walk (a0 a1 a2 a3 : Int) (w0 : (Lit.int .u8 a0).wf = true) (w1 : (Lit.int .u32 a1).wf = true) (w2 : (Lit.int .u8 a2).wf = true) (w3 : (Lit.int .u8 a3).wf = true) (w : World) :
    Calls Try.prog 5 #[.int .u8 a0, .int .u32 a1, .int .u8 a2, .int .u8 a3] w fun e w' => e = .returned (.bool true) ∧ Grown w w' := by
  obtain ⟨b0, b1⟩ := bounds_u8 w0
  obtain ⟨b2, b3⟩ := bounds_u32 w1
  obtain ⟨b4, b5⟩ := bounds_u8 w2
  obtain ⟨b6, b7⟩ := bounds_u8 w3
  clear w0 w1 w2 w3
  have HG := Lib.hid (Grown.refl w)
  obtain ⟨F, hF⟩ : ∃ F, a0 % 3 = F := ⟨_, rfl⟩
  have HF := Lib.hid hF
  clear hF
  obtain ⟨i, hi⟩ : ∃ i, a2 % 5 = i := ⟨_, rfl⟩
  obtain ⟨j, hj⟩ : ∃ j, a3 % 5 = j := ⟨_, rfl⟩
  have i0 : 0 ≤ i := by omega
  have i1 : i ≤ 4 := by omega
  have j0 : 0 ≤ j := by omega
  have j1 : j ≤ 4 := by omega
  obtain ⟨x0, x1⟩ := mil_bd F a1 b2
  have hall := scales_all F a1 i j b2 i0 i1 j0 j1
  obtain ⟨X, hX⟩ : ∃ X, milI F a1 = X := ⟨_, rfl⟩
  rw [hX] at hall x0 x1
  have HX := Lib.hid hX
  clear hX
  by_cases c : X = 0
  · subst c
    have hz := sca_nou F 0
    have K1 := Lib.hid (hz i)
    have K2 := Lib.hid (hz j)
    have K3 := Lib.hid (hz (i + j))
    have K4 := Lib.hid (hz 4000)
    have K5 := Lib.hid (hz (-4000))
    clear hz hall
    go_enter Try.func5, Try.ntmps5
    go_wp2_with (first
      | (go_at_call 7; refine (known8_any _).mono ?_; rintro e W1 ⟨rfl, hW1⟩; replace HG := Lib.hid (grown_trans HG.out hW1); clear hW1)
      | (go_at_call 8; refine (form8_any _ _ b0 b1).mono ?_; rintro e W2 ⟨he, hW2⟩; rw [HF.out] at he; subst he; replace HG := Lib.hid (grown_trans HG.out hW2); clear hW2)
      | (go_at_call 12; refine (mild_is _ _ _ (by omega) (by omega)).mono ?_; rintro e w' ⟨he, dm, rfl⟩; rw [HX.out] at he; subst he))
    go_wp2_with fail
    refine (wscale_any F 0 0 i _ (by omega) (by omega) (by omega) (by omega)).mono ?_
    rintro e V1 ⟨he, hW⟩
    rw [K1.out] at he
    (try unfold inxE at he)
    subst he
    replace HG := Lib.hid (show Grown w V1 from grown_trans (by repeat (first | with_reducible exact HG.out | with_reducible refine Grown.setCell ?_ (by simp <;> omega) _ | with_reducible refine Grown.alloc ?_ _ _ | with_reducible refine grown_more ?_ _)) hW)
    clear hW
    go_wp2_with fail
    refine (wscale_any F 0 0 j _ (by omega) (by omega) (by omega) (by omega)).mono ?_
    rintro e V2 ⟨he, hW⟩
    rw [K2.out] at he
    (try unfold inxE at he)
    subst he
    have HY := Lib.hid (show Grown V1 V2 from grown_trans (by repeat (first | with_reducible exact Grown.refl _ | with_reducible refine Grown.setCell ?_ (by simp <;> omega) _ | with_reducible refine Grown.alloc ?_ _ _ | with_reducible refine grown_more ?_ _)) hW)
    have HB1 := Lib.hid (grown_new5 hW)
    clear HY
    replace HG := Lib.hid (show Grown w V2 from grown_trans (by repeat (first | with_reducible exact HG.out | with_reducible refine Grown.setCell ?_ (by simp <;> omega) _ | with_reducible refine Grown.alloc ?_ _ _ | with_reducible refine grown_more ?_ _)) hW)
    clear hW
    go_wp2_with fail
    refine (wscale_any F 0 0 (i + j) _ (by omega) (by omega) (by omega) (by omega)).mono ?_
    rintro e V3 ⟨he, hW⟩
    rw [K3.out] at he
    (try unfold inxE at he)
    subst he
    have HY := Lib.hid (show Grown V2 V3 from grown_trans (by repeat (first | with_reducible exact Grown.refl _ | with_reducible refine Grown.setCell ?_ (by simp <;> omega) _ | with_reducible refine Grown.alloc ?_ _ _ | with_reducible refine grown_more ?_ _)) hW)
    replace HB1 := Lib.hid (HB1.out.grown HY.out)
    have HB2 := Lib.hid (grown_new5 hW)
    clear HY
    replace HG := Lib.hid (show Grown w V3 from grown_trans (by repeat (first | with_reducible exact HG.out | with_reducible refine Grown.setCell ?_ (by simp <;> omega) _ | with_reducible refine Grown.alloc ?_ _ _ | with_reducible refine grown_more ?_ _)) hW)
    clear hW
    go_wp2_with fail
    refine (wscale_any F 0 0 4000 _ (by omega) (by omega) (by omega) (by omega)).mono ?_
    rintro e V4 ⟨he, hW⟩
    rw [K4.out] at he
    (try unfold inxE at he)
    subst he
    have HY := Lib.hid (show Grown V3 V4 from grown_trans (by repeat (first | with_reducible exact Grown.refl _ | with_reducible refine Grown.setCell ?_ (by simp <;> omega) _ | with_reducible refine Grown.alloc ?_ _ _ | with_reducible refine grown_more ?_ _)) hW)
    replace HB1 := Lib.hid (HB1.out.grown HY.out)
    replace HB2 := Lib.hid (HB2.out.grown HY.out)
    have HB3 := Lib.hid (grown_new5 hW)
    clear HY
    replace HG := Lib.hid (show Grown w V4 from grown_trans (by repeat (first | with_reducible exact HG.out | with_reducible refine Grown.setCell ?_ (by simp <;> omega) _ | with_reducible refine Grown.alloc ?_ _ _ | with_reducible refine grown_more ?_ _)) hW)
    clear hW
    go_wp2_with fail
    refine (wscale_any F 0 0 (-4000) _ (by omega) (by omega) (by omega) (by omega)).mono ?_
    rintro e V5 ⟨he, hW⟩
    rw [K5.out] at he
    (try unfold inxE at he)
    subst he
    have HY := Lib.hid (show Grown V4 V5 from grown_trans (by repeat (first | with_reducible exact Grown.refl _ | with_reducible refine Grown.setCell ?_ (by simp <;> omega) _ | with_reducible refine Grown.alloc ?_ _ _ | with_reducible refine grown_more ?_ _)) hW)
    replace HB1 := Lib.hid (HB1.out.grown HY.out)
    replace HB2 := Lib.hid (HB2.out.grown HY.out)
    replace HB3 := Lib.hid (HB3.out.grown HY.out)
    have HB4 := Lib.hid (grown_new5 hW)
    clear HY
    replace HG := Lib.hid (show Grown w V5 from grown_trans (by repeat (first | with_reducible exact HG.out | with_reducible refine Grown.setCell ?_ (by simp <;> omega) _ | with_reducible refine Grown.alloc ?_ _ _ | with_reducible refine grown_more ?_ _)) hW)
    clear hW
    obtain ⟨z10, z11, z12, z13, z14, z15⟩ := HB1.out
    obtain ⟨z20, z21, z22, z23, z24, z25⟩ := HB2.out
    obtain ⟨z30, z31, z32, z33, z34, z35⟩ := HB3.out
    obtain ⟨z40, z41, z42, z43, z44, z45⟩ := HB4.out
    go_wp2
    go_ret
    exact ⟨rfl, by repeat (first | with_reducible exact HG.out | with_reducible refine Grown.setCell ?_ (by simp <;> omega) _ | with_reducible refine Grown.alloc ?_ _ _ | with_reducible refine grown_more ?_ _)⟩
  · obtain ⟨p, q, p0, p1, k1, k2, k3, k4, k5⟩ := hall c
    have hc : (X == 0) = false := by simpa using c
    have hsg := w_and_sign F X x0 x1
    have hor := w_or_inf F (fS F X)
    obtain ⟨s, hs⟩ : ∃ s, fS F X = s := ⟨_, rfl⟩
    rw [hs] at k4 k5 hsg hor
    obtain ⟨S, hS⟩ : ∃ S, zerI F s = S := ⟨_, rfl⟩
    obtain ⟨B, hB⟩ : ∃ B, infI F s = B := ⟨_, rfl⟩
    rw [hS] at k5 hsg hor
    rw [hB] at k4 hor
    have K1 := Lib.hid k1
    have K2 := Lib.hid k2
    have K3 := Lib.hid k3
    have K4 := Lib.hid k4
    have K5 := Lib.hid k5
    have HZ := Lib.hid (rfl : (0 : Int) = 0)
    clear k1 k2 k3 k4 k5 hall c hs hS hB
    go_enter Try.func5, Try.ntmps5
    go_wp2_with (first
      | (go_at_call 7; refine (known8_any _).mono ?_; rintro e W1 ⟨rfl, hW1⟩; replace HG := Lib.hid (grown_trans HG.out hW1); clear hW1)
      | (go_at_call 8; refine (form8_any _ _ b0 b1).mono ?_; rintro e W2 ⟨he, hW2⟩; rw [HF.out] at he; subst he; replace HG := Lib.hid (grown_trans HG.out hW2); clear hW2)
      | (go_at_call 12; refine (mild_is _ _ _ (by omega) (by omega)).mono ?_; rintro e w' ⟨he, dm, rfl⟩; rw [HX.out] at he; subst he))
    go_wp2_with fail
    refine (wscale_any F 0 X i _ x0 x1 (by omega) (by omega)).mono ?_
    rintro e V1 ⟨he, hW⟩
    rw [K1.out] at he
    (try unfold inxE at he)
    subst he
    replace HG := Lib.hid (show Grown w V1 from grown_trans (by repeat (first | with_reducible exact HG.out | with_reducible refine Grown.setCell ?_ (by simp <;> omega) _ | with_reducible refine Grown.alloc ?_ _ _ | with_reducible refine grown_more ?_ _)) hW)
    clear hW
    go_wp2_with fail
    refine (wscale_any F 0 p j _ p0 p1 (by omega) (by omega)).mono ?_
    rintro e V2 ⟨he, hW⟩
    rw [K2.out] at he
    (try unfold inxE at he)
    subst he
    have HY := Lib.hid (show Grown V1 V2 from grown_trans (by repeat (first | with_reducible exact Grown.refl _ | with_reducible refine Grown.setCell ?_ (by simp <;> omega) _ | with_reducible refine Grown.alloc ?_ _ _ | with_reducible refine grown_more ?_ _)) hW)
    have HB1 := Lib.hid (grown_new5 hW)
    clear HY
    replace HG := Lib.hid (show Grown w V2 from grown_trans (by repeat (first | with_reducible exact HG.out | with_reducible refine Grown.setCell ?_ (by simp <;> omega) _ | with_reducible refine Grown.alloc ?_ _ _ | with_reducible refine grown_more ?_ _)) hW)
    clear hW
    go_wp2_with fail
    refine (wscale_any F 0 X (i + j) _ x0 x1 (by omega) (by omega)).mono ?_
    rintro e V3 ⟨he, hW⟩
    rw [K3.out] at he
    (try unfold inxE at he)
    subst he
    have HY := Lib.hid (show Grown V2 V3 from grown_trans (by repeat (first | with_reducible exact Grown.refl _ | with_reducible refine Grown.setCell ?_ (by simp <;> omega) _ | with_reducible refine Grown.alloc ?_ _ _ | with_reducible refine grown_more ?_ _)) hW)
    replace HB1 := Lib.hid (HB1.out.grown HY.out)
    have HB2 := Lib.hid (grown_new5 hW)
    clear HY
    replace HG := Lib.hid (show Grown w V3 from grown_trans (by repeat (first | with_reducible exact HG.out | with_reducible refine Grown.setCell ?_ (by simp <;> omega) _ | with_reducible refine Grown.alloc ?_ _ _ | with_reducible refine grown_more ?_ _)) hW)
    clear hW
    go_wp2_with fail
    refine (wscale_any F 0 X 4000 _ x0 x1 (by omega) (by omega)).mono ?_
    rintro e V4 ⟨he, hW⟩
    rw [K4.out] at he
    (try unfold inxE at he)
    subst he
    have HY := Lib.hid (show Grown V3 V4 from grown_trans (by repeat (first | with_reducible exact Grown.refl _ | with_reducible refine Grown.setCell ?_ (by simp <;> omega) _ | with_reducible refine Grown.alloc ?_ _ _ | with_reducible refine grown_more ?_ _)) hW)
    replace HB1 := Lib.hid (HB1.out.grown HY.out)
    replace HB2 := Lib.hid (HB2.out.grown HY.out)
    have HB3 := Lib.hid (grown_new5 hW)
    clear HY
    replace HG := Lib.hid (show Grown w V4 from grown_trans (by repeat (first | with_reducible exact HG.out | with_reducible refine Grown.setCell ?_ (by simp <;> omega) _ | with_reducible refine Grown.alloc ?_ _ _ | with_reducible refine grown_more ?_ _)) hW)
    clear hW
    go_wp2_with fail
    refine (wscale_any F 0 X (-4000) _ x0 x1 (by omega) (by omega)).mono ?_
    rintro e V5 ⟨he, hW⟩
    rw [K5.out] at he
    (try unfold inxE at he)
    subst he
    have HY := Lib.hid (show Grown V4 V5 from grown_trans (by repeat (first | with_reducible exact Grown.refl _ | with_reducible refine Grown.setCell ?_ (by simp <;> omega) _ | with_reducible refine Grown.alloc ?_ _ _ | with_reducible refine grown_more ?_ _)) hW)
    replace HB1 := Lib.hid (HB1.out.grown HY.out)
    replace HB2 := Lib.hid (HB2.out.grown HY.out)
    replace HB3 := Lib.hid (HB3.out.grown HY.out)
    have HB4 := Lib.hid (grown_new5 hW)
    clear HY
    replace HG := Lib.hid (show Grown w V5 from grown_trans (by repeat (first | with_reducible exact HG.out | with_reducible refine Grown.setCell ?_ (by simp <;> omega) _ | with_reducible refine Grown.alloc ?_ _ _ | with_reducible refine grown_more ?_ _)) hW)
    clear hW
    obtain ⟨z10, z11, z12, z13, z14, z15⟩ := HB1.out
    obtain ⟨z20, z21, z22, z23, z24, z25⟩ := HB2.out
    obtain ⟨z30, z31, z32, z33, z34, z35⟩ := HB3.out
    obtain ⟨z40, z41, z42, z43, z44, z45⟩ := HB4.out
    go_wp2_with (first
      | (go_at_call 20; refine (rzero_any _ _ _).mono ?_; rintro e w' ⟨he, rfl⟩; (try rw [HZ.out] at he); subst he)
      | (go_at_call 21; refine (rinf_any _ _ _).mono ?_; rintro e w' ⟨rfl, dm2, rfl⟩))
    go_ret
    exact ⟨rfl, by repeat (first | with_reducible exact HG.out | with_reducible refine Grown.setCell ?_ (by simp <;> omega) _ | with_reducible refine Grown.alloc ?_ _ _ | with_reducible refine grown_more ?_ _)⟩
end Go.Proofs.Ytbmcohikblldjaa
