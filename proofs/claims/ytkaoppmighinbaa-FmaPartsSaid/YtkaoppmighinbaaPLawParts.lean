/- The walk of FmaParts. (Written by gen12.py.) -/
import Derived.Test.YtkaoppmighinbaaPKnown
import Derived.Test.YtkaoppmighinbaaSub
namespace Go.Proofs.Ytkaoppmighinbaa
open Go.RowKit
set_option linter.unusedVariables false
set_option linter.unusedSimpArgs false

set_option maxRecDepth 100000 in
set_option maxHeartbeats 8000000 in
theorem pparts_walk (a0 a1 a2 a3 : Int) (w0 : (Lit.int .u8 a0).wf = true) (w1 : (Lit.int .u8 a1).wf = true) (w2 : (Lit.int .u32 a2).wf = true) (w3 : (Lit.int .u32 a3).wf = true) (w : World) :
    Calls Try.prog 5 #[.int .u8 a0, .int .u8 a1, .int .u32 a2, .int .u32 a3] w fun e w' => e = .returned (.bool true) ∧ Grown w w' := by
  obtain ⟨b0, b1⟩ := bounds_u8 w0
  obtain ⟨b2, b3⟩ := bounds_u8 w1
  obtain ⟨b4, b5⟩ := bounds_u32 w2
  obtain ⟨b6, b7⟩ := bounds_u32 w3
  clear w0 w1 w2 w3
  have HG0 := Lib.hid (Grown.refl w)
  obtain ⟨F, hF⟩ : ∃ F, a0 % 3 = F := ⟨_, rfl⟩
  have HF := Lib.hid hF
  clear hF
  go_enter Try.func5, Try.ntmps5
  go_wp2_with fail
  refine (known5_any _).mono ?_
  rintro e W1 ⟨he, hW⟩
  subst he
  have HX1 := Lib.hid (show Grown w W1 from grown_trans (by repeat (first | with_reducible exact Grown.refl _ | with_reducible refine Grown.setCell ?_ (by simp <;> omega) _ | with_reducible refine Grown.alloc ?_ _ _ | with_reducible refine grown_more ?_ _)) hW)
  clear hW
  have HG1 := Lib.hid (grown_trans HG0.out HX1.out)
  go_wp2_with fail
  refine (form5_any _ _ b0 b1).mono ?_
  rintro e W2 ⟨he, hW⟩
  rw [HF.out] at he
  subst he
  have HX2 := Lib.hid (show Grown W1 W2 from grown_trans (by repeat (first | with_reducible exact Grown.refl _ | with_reducible refine Grown.setCell ?_ (by simp <;> omega) _ | with_reducible refine Grown.alloc ?_ _ _ | with_reducible refine grown_more ?_ _)) hW)
  clear hW
  have HG2 := Lib.hid (grown_trans HG1.out HX2.out)
  go_wp2_with fail
  refine (num_any F a2 _ b4 b5).mono ?_
  rintro e W3 ⟨⟨X, he, x0, x1⟩, hW⟩
  subst he
  have HX3 := Lib.hid (show Grown W2 W3 from grown_trans (by repeat (first | with_reducible exact Grown.refl _ | with_reducible refine Grown.setCell ?_ (by simp <;> omega) _ | with_reducible refine Grown.alloc ?_ _ _ | with_reducible refine grown_more ?_ _)) hW)
  clear hW
  have HG3 := Lib.hid (grown_trans HG2.out HX3.out)
  go_wp2_with fail
  refine (num_any F a3 _ b6 b7).mono ?_
  rintro e W4 ⟨⟨Y, he, y0, y1⟩, hW⟩
  subst he
  have HX4 := Lib.hid (show Grown W3 W4 from grown_trans (by repeat (first | with_reducible exact Grown.refl _ | with_reducible refine Grown.setCell ?_ (by simp <;> omega) _ | with_reducible refine Grown.alloc ?_ _ _ | with_reducible refine grown_more ?_ _)) hW)
  clear hW
  have HG4 := Lib.hid (grown_trans HG3.out HX4.out)
  go_wp2_with fail
  refine (rone_any F (a1 % 5) _).mono ?_
  rintro e W5 ⟨he, hW⟩
  subst he
  have HX5 := Lib.hid (show Grown W4 W5 from grown_trans (by repeat (first | with_reducible exact Grown.refl _ | with_reducible refine Grown.setCell ?_ (by simp <;> omega) _ | with_reducible refine Grown.alloc ?_ _ _ | with_reducible refine grown_more ?_ _)) hW)
  clear hW
  have HG5 := Lib.hid (grown_trans HG4.out HX5.out)
  obtain ⟨_, _, _, o0, _, o1, _⟩ := one_parts F
  obtain ⟨v, g1, g2, g3, g4, g5, hR, _, _⟩ := mul_shape F (a1 % 5) X Y
  obtain ⟨u, k1, k2, k3, k4, k5, hS⟩ := add_shape F (a1 % 5) X Y
  have HR := Lib.hid hR
  have HR2 := Lib.hid ((fma_nought F (a1 % 5) X Y).trans hR)
  have HS := Lib.hid hS
  have HS2 := Lib.hid ((fma_one F (a1 % 5) X Y).trans hS)
  clear hR hS
  obtain ⟨_, _, _, z0, z1⟩ := zer_parts F (sgP F X Y)
  have hsg := sign_asked F X Y x0 x1 y0 y1
  obtain ⟨s, hs⟩ : ∃ s, sgP F X Y = s := ⟨_, rfl⟩
  rw [hs] at hsg z0 z1 HR2
  have hsg2 : (bits .and .u32 (bits .xor .u32 X Y) (zerI F true) == 0) = !s := by rw [← hsg]; simp [bne]
  clear hs
  go_wp2_with fail
  refine (pmul_any F (a1 % 5) X Y _ x0 x1 y0 y1).mono ?_
  rintro e W6 ⟨he, hW⟩
  rw [HR.out] at he
  subst he
  have HB5 := Lib.hid ((five_new (c0 := .bool false) (c1 := .bool false) (c2 := .bool false) (c3 := .bool false) (c4 := .bool false) (t := 29) (w := W5)).grown (grown_trans (by repeat (first | with_reducible exact Grown.refl _ | with_reducible refine Grown.setCell ?_ (by simp <;> omega) _ | with_reducible refine Grown.alloc ?_ _ _ | with_reducible refine grown_more ?_ _)) hW))
  have HX6 := Lib.hid (show Grown W5 W6 from grown_trans (by repeat (first | with_reducible exact Grown.refl _ | with_reducible refine Grown.setCell ?_ (by simp <;> omega) _ | with_reducible refine Grown.alloc ?_ _ _ | with_reducible refine grown_more ?_ _)) hW)
  clear hW
  have HG6 := Lib.hid (grown_trans HG5.out HX6.out)
  go_wp2_with (go_at_call 18; refine (rzero_any _ _ _).mono ?_; rintro e w' ⟨rfl, rfl⟩)
  refine (pfma_any F (a1 % 5) X Y (zerI F s) _ x0 x1 y0 y1 z0 z1).mono ?_
  rintro e W7 ⟨he, hW⟩
  rw [HR2.out] at he
  subst he
  have HB6 := Lib.hid ((five_new (c0 := .bool g1) (c1 := .bool g2) (c2 := .bool g3) (c3 := .bool g4) (c4 := .bool g5) (t := 29) (w := W6)).grown (grown_trans (by repeat (first | with_reducible exact Grown.refl _ | with_reducible refine Grown.setCell ?_ (by simp <;> omega) _ | with_reducible refine Grown.alloc ?_ _ _ | with_reducible refine grown_more ?_ _)) hW))
  have HX7 := Lib.hid (show Grown W6 W7 from grown_trans (by repeat (first | with_reducible exact Grown.refl _ | with_reducible refine Grown.setCell ?_ (by simp <;> omega) _ | with_reducible refine Grown.alloc ?_ _ _ | with_reducible refine grown_more ?_ _)) hW)
  clear hW
  have HG7 := Lib.hid (grown_trans HG6.out HX7.out)
  go_wp2_with fail
  refine (radd_any F (a1 % 5) X Y _ x0 x1 y0 y1).mono ?_
  rintro e W8 ⟨he, hW⟩
  rw [HS.out] at he
  subst he
  have HB7 := Lib.hid ((five_new (c0 := .bool g1) (c1 := .bool g2) (c2 := .bool g3) (c3 := .bool g4) (c4 := .bool g5) (t := 29) (w := W7)).grown (grown_trans (by repeat (first | with_reducible exact Grown.refl _ | with_reducible refine Grown.setCell ?_ (by simp <;> omega) _ | with_reducible refine Grown.alloc ?_ _ _ | with_reducible refine grown_more ?_ _)) hW))
  have HX8 := Lib.hid (show Grown W7 W8 from grown_trans (by repeat (first | with_reducible exact Grown.refl _ | with_reducible refine Grown.setCell ?_ (by simp <;> omega) _ | with_reducible refine Grown.alloc ?_ _ _ | with_reducible refine grown_more ?_ _)) hW)
  clear hW
  replace HB6 := Lib.hid (HB6.out.grown HX8.out)
  have HG8 := Lib.hid (grown_trans HG7.out HX8.out)
  go_wp2_with fail
  refine (pfma_any F (a1 % 5) (oneI F) X Y _ o0 o1 x0 x1 y0 y1).mono ?_
  rintro e W9 ⟨he, hW⟩
  rw [HS2.out] at he
  subst he
  have HB8 := Lib.hid ((five_new (c0 := .bool k1) (c1 := .bool k2) (c2 := .bool k3) (c3 := .bool k4) (c4 := .bool k5) (t := 29) (w := W8)).grown (grown_trans (by repeat (first | with_reducible exact Grown.refl _ | with_reducible refine Grown.setCell ?_ (by simp <;> omega) _ | with_reducible refine Grown.alloc ?_ _ _ | with_reducible refine grown_more ?_ _)) hW))
  have HX9 := Lib.hid (show Grown W8 W9 from grown_trans (by repeat (first | with_reducible exact Grown.refl _ | with_reducible refine Grown.setCell ?_ (by simp <;> omega) _ | with_reducible refine Grown.alloc ?_ _ _ | with_reducible refine grown_more ?_ _)) hW)
  clear hW
  replace HB6 := Lib.hid (HB6.out.grown HX9.out)
  replace HB7 := Lib.hid (HB7.out.grown HX9.out)
  have HG9 := Lib.hid (grown_trans HG8.out HX9.out)
  obtain ⟨p0, p1, p2, p3, p4, p5⟩ := HB6.out
  obtain ⟨q0, q1, q2, q3, q4, q5⟩ := HB7.out
  obtain ⟨r0, r1, r2, r3, r4, r5⟩ := HB8.out
  go_wp2
  go_ret
  exact ⟨rfl, by repeat (first | with_reducible exact HG9.out | with_reducible refine Grown.setCell ?_ (by simp <;> omega) _ | with_reducible refine Grown.alloc ?_ _ _ | with_reducible refine grown_more ?_ _)⟩
end Go.Proofs.Ytkaoppmighinbaa
