/- The walk of ConvBack. -/
import Derived.Test.YthhaiekcdemlmaaCKnown
import Derived.Test.YthhaiekcdemlmaaNumM
import Derived.Test.YthhaiekcdemlmaaROrd
namespace Go.Proofs.Ythhaiekcdemlmaa
open Go.RowKit
set_option linter.unusedVariables false
set_option linter.unusedSimpArgs false

set_option maxRecDepth 100000 in
set_option maxHeartbeats 4000000 in
theorem cback_walk (a0 a1 a2 : Int) (w0 : (Lit.int .u8 a0).wf = true) (w1 : (Lit.int .u32 a1).wf = true) (w2 : (Lit.int .u32 a2).wf = true) (w : World) :
    Calls Try.prog 4 #[.int .u8 a0, .int .u32 a1, .int .u32 a2] w fun e w' => e = .returned (.bool true) ∧ Grown w w' := by
  obtain ⟨b0, b1⟩ := bounds_u8 w0
  obtain ⟨b2, b3⟩ := bounds_u32 w1
  obtain ⟨b4, b5⟩ := bounds_u32 w2
  clear w0 w1 w2
  obtain ⟨F, hF⟩ : ∃ F, a0 % 3 = F := ⟨_, rfl⟩
  have HF := Lib.hid hF
  have f0 : 0 ≤ F ∧ F ≤ 2 := by omega
  obtain ⟨f0, f1⟩ := f0
  clear hF
  have hm := mask_word F a1 b2 b3
  obtain ⟨x, hx⟩ : ∃ x, bits .and .u32 a1 (msk F) = x := ⟨_, rfl⟩
  rw [hx] at hm
  obtain ⟨x0, x1⟩ := hm
  have xt : x ≤ 4294967295 := by have := msk_top F; omega
  have HG := Lib.hid (Grown.refl w)
  have h3 := cls_three F x
  obtain ⟨C, hC⟩ : ∃ C, clsI F x = C := ⟨_, rfl⟩
  rw [hC] at h3
  have HC := Lib.hid hC
  have HB := Lib.hid (wide_back F 0 0 x x0 x1)
  have HWx := Lib.hid (con_bd F 2 0 x)
  have HCmp := Lib.hid (fun y (y0 : 0 ≤ y) (y1 : y ≤ msk F) => wide_cmp F 0 x y x0 x1 y0 y1)
  have HWy := Lib.hid (fun y => con_bd F 2 0 y)
  have HT := Lib.hid (msk_top F)
  have HT2 := Lib.hid (msk_top 2)
  clear hC
  go_enter Try.func4, Try.ntmps4
  go_wp2_with (first
    | (go_at_call 6; refine (known9_any _).mono ?_; rintro e W1 ⟨rfl, hW⟩; replace HG := Lib.hid (show Grown w W1 from grown_trans HG.out hW); clear hW)
    | (go_at_call 7; refine (form9_any _ _ b0 b1).mono ?_; rintro e W2 ⟨he, hW⟩; rw [HF.out] at he; subst he; replace HG := Lib.hid (show Grown w W2 from grown_trans HG.out hW); clear hW)
    | (go_at_call 16; refine (rmask_any _ _).mono ?_; rintro e w' ⟨rfl, rfl⟩)
    | (go_at_call 8; refine (num_msk _ _ _ b4 b5).mono ?_; rintro e W3 ⟨⟨y, he, y0, y1⟩, hW⟩; subst he; replace HG := Lib.hid (show Grown w W3 from grown_trans HG.out hW); clear hW))
  obtain ⟨X, hX⟩ : ∃ X, conV F 2 0 x = X := ⟨_, rfl⟩
  obtain ⟨Y, hY⟩ : ∃ Y, conV F 2 0 y = Y := ⟨_, rfl⟩
  have hc := HCmp.out y y0 y1
  have hw := HWx.out
  have hv := HWy.out y
  have hb := HB.out
  rw [hX] at hc hw hb
  rw [hY] at hc hv
  obtain ⟨P, hP⟩ : ∃ P, cmpC 2 X Y = P := ⟨_, rfl⟩
  obtain ⟨O, hO⟩ : ∃ O, cmpO 2 X Y = O := ⟨_, rfl⟩
  rw [hP, hO] at hc
  obtain ⟨X0, X1⟩ := hw
  obtain ⟨Y0, Y1⟩ := hv
  have X2 : X ≤ 4294967295 := Int.le_trans X1 HT2.out
  have Y2 : Y ≤ 4294967295 := Int.le_trans Y1 HT2.out
  have y2 : y ≤ 4294967295 := Int.le_trans y1 HT.out
  have HX := Lib.hid hX
  have HY := Lib.hid hY
  have HP := Lib.hid hP
  have HO := Lib.hid hO
  have HQ := Lib.hid hc
  have HB2 := Lib.hid hb
  clear hX hY hP hO hc hb X1 Y1 x1 y1 HB HWx HWy HCmp HT HT2
  rcases h3 with ⟨rfl, n1, _⟩ | ⟨rfl, n1, _⟩ | ⟨c4, c5, n1, _⟩
  all_goals
    replace HB2 := Lib.hid (show conV 2 F 0 X = _ from HB2.out.trans (by rw [n1]))
    clear n1
    go_wp2_with (first
      | (go_at_call 12; refine (cwiden_any _ _ _ (by omega) (by omega)).mono ?_; rintro e W4 ⟨he, hW⟩; (first | rw [HX.out] at he | rw [HY.out] at he); subst he; replace HG := Lib.hid (show Grown w W4 from grown_trans HG.out hW); clear hW)
      | (go_at_call 17; refine (rclass_any _ _ _ (by omega) (by omega)).mono ?_; rintro e w' ⟨he, dm, rfl⟩; rw [HC.out] at he; subst he)
      | (go_at_call 18; refine (rnan_any _ _).mono ?_; rintro e w' ⟨rfl, dm, rfl⟩)
      | (go_at_call 19; refine (rcompare_any _ _ _ _ (by omega) (by omega) (by omega) (by omega)).mono ?_; rintro e W5 ⟨he, hW⟩; (first | rw [HP.out, HO.out] at he | rw [HQ.out.1, HQ.out.2] at he); subst he; replace HG := Lib.hid (show Grown w W5 from grown_trans (by repeat (first | with_reducible exact HG.out | with_reducible refine grown_more ?_ _)) hW); clear hW)
      | (go_at_call 14; refine (cnarrow_any _ _ _ (by omega) (by omega)).mono ?_; rintro e W6 ⟨he, hW⟩; rw [HB2.out] at he; subst he; replace HG := Lib.hid (show Grown w W6 from grown_trans (by repeat (first | with_reducible exact HG.out | with_reducible refine grown_more ?_ _)) hW); clear hW))
    go_ret
    exact ⟨rfl, HG.out⟩
end Go.Proofs.Ythhaiekcdemlmaa
