/- The walk of ProdOnes. (Written by gen12.py.) -/
import Derived.Test.YtkaoppmighinbaaPKnown
import Derived.Test.YtkaoppmighinbaaNumM
namespace Go.Proofs.Ytkaoppmighinbaa
open Go.RowKit
set_option linter.unusedVariables false
set_option linter.unusedSimpArgs false

set_option maxRecDepth 100000 in
set_option maxHeartbeats 8000000 in
theorem pones_walk (a0 a1 a2 a3 : Int) (w0 : (Lit.int .u8 a0).wf = true) (w1 : (Lit.int .u8 a1).wf = true) (w2 : (Lit.int .u32 a2).wf = true) (w3 : (Lit.int .u32 a3).wf = true) (w : World) :
    Calls Try.prog 6 #[.int .u8 a0, .int .u8 a1, .int .u32 a2, .int .u32 a3] w fun e w' => e = .returned (.bool true) ∧ Grown w w' := by
  obtain ⟨b0, b1⟩ := bounds_u8 w0
  obtain ⟨b2, b3⟩ := bounds_u8 w1
  obtain ⟨b4, b5⟩ := bounds_u32 w2
  obtain ⟨b6, b7⟩ := bounds_u32 w3
  clear w0 w1 w2 w3
  have HG0 := Lib.hid (Grown.refl w)
  obtain ⟨F, hF⟩ : ∃ F, a0 % 3 = F := ⟨_, rfl⟩
  have HF := Lib.hid hF
  clear hF
  go_enter Try.func6, Try.ntmps6
  go_wp2_with fail
  refine (known5_any _).mono ?_
  rintro e W1 ⟨he, hW⟩
  subst he
  have HX1 := Lib.hid (show Grown w W1 from grown_trans (by repeat (first | with_reducible exact Grown.refl _ | with_reducible refine Grown.setCell ?_ (by simp <;> omega) _ | with_reducible refine Grown.alloc ?_ _ _ | with_reducible refine grown_more ?_ _)) hW)
  clear hW
  have HG1 := Lib.hid (grown_trans HG0.out HX1.out)
  go_wp2_with fail
  refine (form5_any _ _ b0 b1).mono ?_
  rintro e W2 ⟨he, hW⟩
  rw [HF.out] at he
  subst he
  have HX2 := Lib.hid (show Grown W1 W2 from grown_trans (by repeat (first | with_reducible exact Grown.refl _ | with_reducible refine Grown.setCell ?_ (by simp <;> omega) _ | with_reducible refine Grown.alloc ?_ _ _ | with_reducible refine grown_more ?_ _)) hW)
  clear hW
  have HG2 := Lib.hid (grown_trans HG1.out HX2.out)
  go_wp2_with fail
  refine (num_msk F a2 _ b4 b5).mono ?_
  rintro e W3 ⟨⟨X, he, x0, x1⟩, hW⟩
  subst he
  have HX3 := Lib.hid (show Grown W2 W3 from grown_trans (by repeat (first | with_reducible exact Grown.refl _ | with_reducible refine Grown.setCell ?_ (by simp <;> omega) _ | with_reducible refine Grown.alloc ?_ _ _ | with_reducible refine grown_more ?_ _)) hW)
  clear hW
  have HG3 := Lib.hid (grown_trans HG2.out HX3.out)
  go_wp2_with fail
  refine (num_msk F a3 _ b6 b7).mono ?_
  rintro e W4 ⟨⟨Y, he, y0, y1⟩, hW⟩
  subst he
  have HX4 := Lib.hid (show Grown W3 W4 from grown_trans (by repeat (first | with_reducible exact Grown.refl _ | with_reducible refine Grown.setCell ?_ (by simp <;> omega) _ | with_reducible refine Grown.alloc ?_ _ _ | with_reducible refine grown_more ?_ _)) hW)
  clear hW
  have HG4 := Lib.hid (grown_trans HG3.out HX4.out)
  go_wp2_with fail
  refine (rone_any F (a1 % 5) _).mono ?_
  rintro e W5 ⟨he, hW⟩
  subst he
  have HX5 := Lib.hid (show Grown W4 W5 from grown_trans (by repeat (first | with_reducible exact Grown.refl _ | with_reducible refine Grown.setCell ?_ (by simp <;> omega) _ | with_reducible refine Grown.alloc ?_ _ _ | with_reducible refine grown_more ?_ _)) hW)
  clear hW
  have HG5 := Lib.hid (grown_trans HG4.out HX5.out)
  have hml := msk_le F
  have x2 : X ≤ 4294967295 := by omega
  have y2 : Y ≤ 4294967295 := by omega
  obtain ⟨_, _, _, o0, _, o1, _⟩ := one_parts F
  obtain ⟨u1, u2, u3⟩ := mul_one F (a1 % 5) X x0 x1
  obtain ⟨v1, v2, v3⟩ := mul_nought F (a1 % 5) X
  obtain ⟨v, g1, g2, g3, g4, g5, hR, r0, r1⟩ := mul_shape F (a1 % 5) X Y
  have HR := Lib.hid hR
  have HR2 := Lib.hid ((mul_turn F (a1 % 5) X Y).trans hR)
  have hsn := and_sign F X x0 x2
  clear hR hml r0 r1
  obtain ⟨C, hC⟩ : ∃ C, clsI F X = C := ⟨_, rfl⟩
  rw [hC] at u1 u2 u3 v1 v2 v3
  have HC := Lib.hid hC
  have U1 := Lib.hid u1
  have U2 := Lib.hid u2
  have U3 := Lib.hid u3
  have V1 := Lib.hid v1
  have V2 := Lib.hid v2
  have V3 := Lib.hid v3
  clear hC u1 u2 u3 v1 v2 v3
  by_cases c4 : 4 ≤ C
  · obtain ⟨i1, hm1⟩ := U1.out c4
    obtain ⟨i2, hm2⟩ := V1.out c4
    have HM1 := Lib.hid hm1
    have HM2 := Lib.hid hm2
    clear hm1 hm2
    go_wp2_with fail
    refine (pmul_any F (a1 % 5) X (oneI F) _ x0 x2 o0 o1).mono ?_
    rintro e W6 ⟨he, hW⟩
    rw [HM1.out] at he
    unfold excE at he
    subst he
    have HB5 := Lib.hid ((five_new (c0 := .bool false) (c1 := .bool false) (c2 := .bool false) (c3 := .bool false) (c4 := .bool false) (t := 29) (w := W5)).grown (grown_trans (by repeat (first | with_reducible exact Grown.refl _ | with_reducible refine Grown.setCell ?_ (by simp <;> omega) _ | with_reducible refine Grown.alloc ?_ _ _ | with_reducible refine grown_more ?_ _)) hW))
    have HX6 := Lib.hid (show Grown W5 W6 from grown_trans (by repeat (first | with_reducible exact Grown.refl _ | with_reducible refine Grown.setCell ?_ (by simp <;> omega) _ | with_reducible refine Grown.alloc ?_ _ _ | with_reducible refine grown_more ?_ _)) hW)
    clear hW
    have HG6 := Lib.hid (grown_trans HG5.out HX6.out)
    go_wp2_with fail
    refine (pmul_any F (a1 % 5) X Y _ x0 x2 y0 y2).mono ?_
    rintro e W7 ⟨he, hW⟩
    rw [HR.out] at he
    subst he
    have HB6 := Lib.hid ((five_new (c0 := .bool i1) (c1 := .bool false) (c2 := .bool false) (c3 := .bool false) (c4 := .bool false) (t := 29) (w := W6)).grown (grown_trans (by repeat (first | with_reducible exact Grown.refl _ | with_reducible refine Grown.setCell ?_ (by simp <;> omega) _ | with_reducible refine Grown.alloc ?_ _ _ | with_reducible refine grown_more ?_ _)) hW))
    have HX7 := Lib.hid (show Grown W6 W7 from grown_trans (by repeat (first | with_reducible exact Grown.refl _ | with_reducible refine Grown.setCell ?_ (by simp <;> omega) _ | with_reducible refine Grown.alloc ?_ _ _ | with_reducible refine grown_more ?_ _)) hW)
    clear hW
    have HG7 := Lib.hid (grown_trans HG6.out HX7.out)
    go_wp2_with fail
    refine (pmul_any F (a1 % 5) Y X _ y0 y2 x0 x2).mono ?_
    rintro e W8 ⟨he, hW⟩
    rw [HR2.out] at he
    subst he
    have HB7 := Lib.hid ((five_new (c0 := .bool g1) (c1 := .bool g2) (c2 := .bool g3) (c3 := .bool g4) (c4 := .bool g5) (t := 29) (w := W7)).grown (grown_trans (by repeat (first | with_reducible exact Grown.refl _ | with_reducible refine Grown.setCell ?_ (by simp <;> omega) _ | with_reducible refine Grown.alloc ?_ _ _ | with_reducible refine grown_more ?_ _)) hW))
    have HX8 := Lib.hid (show Grown W7 W8 from grown_trans (by repeat (first | with_reducible exact Grown.refl _ | with_reducible refine Grown.setCell ?_ (by simp <;> omega) _ | with_reducible refine Grown.alloc ?_ _ _ | with_reducible refine grown_more ?_ _)) hW)
    clear hW
    replace HB6 := Lib.hid (HB6.out.grown HX8.out)
    have HG8 := Lib.hid (grown_trans HG7.out HX8.out)
    go_wp2_with fail
    refine (pmul_any F (a1 % 5) X 0 _ x0 x2 (by decide) (by decide)).mono ?_
    rintro e W9 ⟨he, hW⟩
    rw [HM2.out] at he
    unfold excE at he
    subst he
    have HB8 := Lib.hid ((five_new (c0 := .bool g1) (c1 := .bool g2) (c2 := .bool g3) (c3 := .bool g4) (c4 := .bool g5) (t := 29) (w := W8)).grown (grown_trans (by repeat (first | with_reducible exact Grown.refl _ | with_reducible refine Grown.setCell ?_ (by simp <;> omega) _ | with_reducible refine Grown.alloc ?_ _ _ | with_reducible refine grown_more ?_ _)) hW))
    have HX9 := Lib.hid (show Grown W8 W9 from grown_trans (by repeat (first | with_reducible exact Grown.refl _ | with_reducible refine Grown.setCell ?_ (by simp <;> omega) _ | with_reducible refine Grown.alloc ?_ _ _ | with_reducible refine grown_more ?_ _)) hW)
    clear hW
    replace HB6 := Lib.hid (HB6.out.grown HX9.out)
    replace HB7 := Lib.hid (HB7.out.grown HX9.out)
    have HG9 := Lib.hid (grown_trans HG8.out HX9.out)
    obtain ⟨p0, p1, p2, p3, p4, p5⟩ := HB6.out
    obtain ⟨q0, q1, q2, q3, q4, q5⟩ := HB7.out
    obtain ⟨r0, r1, r2, r3, r4, r5⟩ := HB8.out
    go_wp2_with (first
      | (go_at_call 20; refine (rclass_any _ _ _ x0 x2).mono ?_; rintro e w' ⟨he, m, rfl⟩; rw [HC.out] at he; subst he)
      | (go_at_call 21; refine (rnan_any _ _).mono ?_; rintro e w' ⟨rfl, m, rfl⟩))
    go_ret
    exact ⟨rfl, by repeat (first | with_reducible exact HG9.out | with_reducible refine Grown.setCell ?_ (by simp <;> omega) _ | with_reducible refine Grown.alloc ?_ _ _ | with_reducible refine grown_more ?_ _)⟩
  · by_cases c3 : C = 3
    · have HM1 := Lib.hid (U2.out c3)
      have HM2 := Lib.hid (V2.out c3)
      have c3b : (C == 3) = true := by simpa using c3
      have c4b : decide (4 ≤ C) = false := decide_eq_false c4
      clear c3 c4
      have c4 : C < 4 := by simpa using c4b
      go_wp2_with fail
      refine (pmul_any F (a1 % 5) X (oneI F) _ x0 x2 o0 o1).mono ?_
      rintro e W6 ⟨he, hW⟩
      rw [HM1.out] at he
      unfold excE at he
      subst he
      have HB5 := Lib.hid ((five_new (c0 := .bool false) (c1 := .bool false) (c2 := .bool false) (c3 := .bool false) (c4 := .bool false) (t := 29) (w := W5)).grown (grown_trans (by repeat (first | with_reducible exact Grown.refl _ | with_reducible refine Grown.setCell ?_ (by simp <;> omega) _ | with_reducible refine Grown.alloc ?_ _ _ | with_reducible refine grown_more ?_ _)) hW))
      have HX6 := Lib.hid (show Grown W5 W6 from grown_trans (by repeat (first | with_reducible exact Grown.refl _ | with_reducible refine Grown.setCell ?_ (by simp <;> omega) _ | with_reducible refine Grown.alloc ?_ _ _ | with_reducible refine grown_more ?_ _)) hW)
      clear hW
      have HG6 := Lib.hid (grown_trans HG5.out HX6.out)
      go_wp2_with fail
      refine (pmul_any F (a1 % 5) X Y _ x0 x2 y0 y2).mono ?_
      rintro e W7 ⟨he, hW⟩
      rw [HR.out] at he
      subst he
      have HB6 := Lib.hid ((five_new (c0 := .bool false) (c1 := .bool false) (c2 := .bool false) (c3 := .bool false) (c4 := .bool false) (t := 29) (w := W6)).grown (grown_trans (by repeat (first | with_reducible exact Grown.refl _ | with_reducible refine Grown.setCell ?_ (by simp <;> omega) _ | with_reducible refine Grown.alloc ?_ _ _ | with_reducible refine grown_more ?_ _)) hW))
      have HX7 := Lib.hid (show Grown W6 W7 from grown_trans (by repeat (first | with_reducible exact Grown.refl _ | with_reducible refine Grown.setCell ?_ (by simp <;> omega) _ | with_reducible refine Grown.alloc ?_ _ _ | with_reducible refine grown_more ?_ _)) hW)
      clear hW
      have HG7 := Lib.hid (grown_trans HG6.out HX7.out)
      go_wp2_with fail
      refine (pmul_any F (a1 % 5) Y X _ y0 y2 x0 x2).mono ?_
      rintro e W8 ⟨he, hW⟩
      rw [HR2.out] at he
      subst he
      have HB7 := Lib.hid ((five_new (c0 := .bool g1) (c1 := .bool g2) (c2 := .bool g3) (c3 := .bool g4) (c4 := .bool g5) (t := 29) (w := W7)).grown (grown_trans (by repeat (first | with_reducible exact Grown.refl _ | with_reducible refine Grown.setCell ?_ (by simp <;> omega) _ | with_reducible refine Grown.alloc ?_ _ _ | with_reducible refine grown_more ?_ _)) hW))
      have HX8 := Lib.hid (show Grown W7 W8 from grown_trans (by repeat (first | with_reducible exact Grown.refl _ | with_reducible refine Grown.setCell ?_ (by simp <;> omega) _ | with_reducible refine Grown.alloc ?_ _ _ | with_reducible refine grown_more ?_ _)) hW)
      clear hW
      replace HB6 := Lib.hid (HB6.out.grown HX8.out)
      have HG8 := Lib.hid (grown_trans HG7.out HX8.out)
      go_wp2_with fail
      refine (pmul_any F (a1 % 5) X 0 _ x0 x2 (by decide) (by decide)).mono ?_
      rintro e W9 ⟨he, hW⟩
      rw [HM2.out] at he
      unfold excE at he
      subst he
      have HB8 := Lib.hid ((five_new (c0 := .bool g1) (c1 := .bool g2) (c2 := .bool g3) (c3 := .bool g4) (c4 := .bool g5) (t := 29) (w := W8)).grown (grown_trans (by repeat (first | with_reducible exact Grown.refl _ | with_reducible refine Grown.setCell ?_ (by simp <;> omega) _ | with_reducible refine Grown.alloc ?_ _ _ | with_reducible refine grown_more ?_ _)) hW))
      have HX9 := Lib.hid (show Grown W8 W9 from grown_trans (by repeat (first | with_reducible exact Grown.refl _ | with_reducible refine Grown.setCell ?_ (by simp <;> omega) _ | with_reducible refine Grown.alloc ?_ _ _ | with_reducible refine grown_more ?_ _)) hW)
      clear hW
      replace HB6 := Lib.hid (HB6.out.grown HX9.out)
      replace HB7 := Lib.hid (HB7.out.grown HX9.out)
      have HG9 := Lib.hid (grown_trans HG8.out HX9.out)
      obtain ⟨p0, p1, p2, p3, p4, p5⟩ := HB6.out
      obtain ⟨q0, q1, q2, q3, q4, q5⟩ := HB7.out
      obtain ⟨r0, r1, r2, r3, r4, r5⟩ := HB8.out
      go_wp2_with (first
        | (go_at_call 20; refine (rclass_any _ _ _ x0 x2).mono ?_; rintro e w' ⟨he, m, rfl⟩; rw [HC.out] at he; subst he)
        | (go_at_call 21; refine (rnan_any _ _).mono ?_; rintro e w' ⟨rfl, m, rfl⟩))
      go_ret
      exact ⟨rfl, by repeat (first | with_reducible exact HG9.out | with_reducible refine Grown.setCell ?_ (by simp <;> omega) _ | with_reducible refine Grown.alloc ?_ _ _ | with_reducible refine grown_more ?_ _)⟩
    · have HM1 := Lib.hid (U3.out (by omega))
      have HM2 := Lib.hid (V3.out (by omega))
      have c3b : (C == 3) = false := by simpa using c3
      have c2 : C < 4 := by omega
      clear c3 c4
      go_wp2_with fail
      refine (pmul_any F (a1 % 5) X (oneI F) _ x0 x2 o0 o1).mono ?_
      rintro e W6 ⟨he, hW⟩
      rw [HM1.out] at he
      unfold excE at he
      subst he
      have HB5 := Lib.hid ((five_new (c0 := .bool false) (c1 := .bool false) (c2 := .bool false) (c3 := .bool false) (c4 := .bool false) (t := 29) (w := W5)).grown (grown_trans (by repeat (first | with_reducible exact Grown.refl _ | with_reducible refine Grown.setCell ?_ (by simp <;> omega) _ | with_reducible refine Grown.alloc ?_ _ _ | with_reducible refine grown_more ?_ _)) hW))
      have HX6 := Lib.hid (show Grown W5 W6 from grown_trans (by repeat (first | with_reducible exact Grown.refl _ | with_reducible refine Grown.setCell ?_ (by simp <;> omega) _ | with_reducible refine Grown.alloc ?_ _ _ | with_reducible refine grown_more ?_ _)) hW)
      clear hW
      have HG6 := Lib.hid (grown_trans HG5.out HX6.out)
      go_wp2_with fail
      refine (pmul_any F (a1 % 5) X Y _ x0 x2 y0 y2).mono ?_
      rintro e W7 ⟨he, hW⟩
      rw [HR.out] at he
      subst he
      have HB6 := Lib.hid ((five_new (c0 := .bool false) (c1 := .bool false) (c2 := .bool false) (c3 := .bool false) (c4 := .bool false) (t := 29) (w := W6)).grown (grown_trans (by repeat (first | with_reducible exact Grown.refl _ | with_reducible refine Grown.setCell ?_ (by simp <;> omega) _ | with_reducible refine Grown.alloc ?_ _ _ | with_reducible refine grown_more ?_ _)) hW))
      have HX7 := Lib.hid (show Grown W6 W7 from grown_trans (by repeat (first | with_reducible exact Grown.refl _ | with_reducible refine Grown.setCell ?_ (by simp <;> omega) _ | with_reducible refine Grown.alloc ?_ _ _ | with_reducible refine grown_more ?_ _)) hW)
      clear hW
      have HG7 := Lib.hid (grown_trans HG6.out HX7.out)
      go_wp2_with fail
      refine (pmul_any F (a1 % 5) Y X _ y0 y2 x0 x2).mono ?_
      rintro e W8 ⟨he, hW⟩
      rw [HR2.out] at he
      subst he
      have HB7 := Lib.hid ((five_new (c0 := .bool g1) (c1 := .bool g2) (c2 := .bool g3) (c3 := .bool g4) (c4 := .bool g5) (t := 29) (w := W7)).grown (grown_trans (by repeat (first | with_reducible exact Grown.refl _ | with_reducible refine Grown.setCell ?_ (by simp <;> omega) _ | with_reducible refine Grown.alloc ?_ _ _ | with_reducible refine grown_more ?_ _)) hW))
      have HX8 := Lib.hid (show Grown W7 W8 from grown_trans (by repeat (first | with_reducible exact Grown.refl _ | with_reducible refine Grown.setCell ?_ (by simp <;> omega) _ | with_reducible refine Grown.alloc ?_ _ _ | with_reducible refine grown_more ?_ _)) hW)
      clear hW
      replace HB6 := Lib.hid (HB6.out.grown HX8.out)
      have HG8 := Lib.hid (grown_trans HG7.out HX8.out)
      go_wp2_with fail
      refine (pmul_any F (a1 % 5) X 0 _ x0 x2 (by decide) (by decide)).mono ?_
      rintro e W9 ⟨he, hW⟩
      rw [HM2.out] at he
      unfold excE at he
      subst he
      have HB8 := Lib.hid ((five_new (c0 := .bool g1) (c1 := .bool g2) (c2 := .bool g3) (c3 := .bool g4) (c4 := .bool g5) (t := 29) (w := W8)).grown (grown_trans (by repeat (first | with_reducible exact Grown.refl _ | with_reducible refine Grown.setCell ?_ (by simp <;> omega) _ | with_reducible refine Grown.alloc ?_ _ _ | with_reducible refine grown_more ?_ _)) hW))
      have HX9 := Lib.hid (show Grown W8 W9 from grown_trans (by repeat (first | with_reducible exact Grown.refl _ | with_reducible refine Grown.setCell ?_ (by simp <;> omega) _ | with_reducible refine Grown.alloc ?_ _ _ | with_reducible refine grown_more ?_ _)) hW)
      clear hW
      replace HB6 := Lib.hid (HB6.out.grown HX9.out)
      replace HB7 := Lib.hid (HB7.out.grown HX9.out)
      have HG9 := Lib.hid (grown_trans HG8.out HX9.out)
      obtain ⟨p0, p1, p2, p3, p4, p5⟩ := HB6.out
      obtain ⟨q0, q1, q2, q3, q4, q5⟩ := HB7.out
      obtain ⟨r0, r1, r2, r3, r4, r5⟩ := HB8.out
      go_wp2_with (first
        | (go_at_call 20; refine (rclass_any _ _ _ x0 x2).mono ?_; rintro e w' ⟨he, m, rfl⟩; rw [HC.out] at he; subst he)
        | (go_at_call 18; refine (rzero_any _ _ _).mono ?_; rintro e w' ⟨rfl, rfl⟩))
      go_ret
      exact ⟨rfl, by repeat (first | with_reducible exact HG9.out | with_reducible refine Grown.setCell ?_ (by simp <;> omega) _ | with_reducible refine Grown.alloc ?_ _ _ | with_reducible refine grown_more ?_ _)⟩
end Go.Proofs.Ytkaoppmighinbaa
