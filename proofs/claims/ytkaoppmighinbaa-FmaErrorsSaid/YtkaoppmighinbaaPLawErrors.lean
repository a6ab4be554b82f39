/- The walk of FmaErrors. (Written by gen12.py.) -/
import Derived.Test.YtkaoppmighinbaaPKnown
import Derived.Test.YtkaoppmighinbaaPErr2
import Derived.Test.YtkaoppmighinbaaSub
namespace Go.Proofs.Ytkaoppmighinbaa
open Go.RowKit
set_option linter.unusedVariables false
set_option linter.unusedSimpArgs false

set_option maxRecDepth 100000 in
set_option maxHeartbeats 8000000 in
theorem perrors_walk (a0 a1 : Int) (w0 : (Lit.int .u32 a0).wf = true) (w1 : (Lit.int .u32 a1).wf = true) (w : World) :
    Calls Try.prog 7 #[.int .u32 a0, .int .u32 a1] w fun e w' => e = .returned (.bool true) ∧ Grown w w' := by
  obtain ⟨b0, b1⟩ := bounds_u32 w0
  obtain ⟨b2, b3⟩ := bounds_u32 w1
  clear w0 w1
  have HG0 := Lib.hid (Grown.refl w)
  obtain ⟨m0, m1⟩ := mil_bd 2 a0 b0
  obtain ⟨n0, n1⟩ := mil_bd 2 a1 b2
  obtain ⟨p, u, i, r, h1, p0, p1, h2, r0, r1, h3⟩ := errors_all a0 a1 b0 b2
  obtain ⟨q0, q1⟩ := min_bd 2 p p0 p1
  obtain ⟨X, hX⟩ : ∃ X, milI 2 a0 = X := ⟨_, rfl⟩
  obtain ⟨Y, hY⟩ : ∃ Y, milI 2 a1 = Y := ⟨_, rfl⟩
  rw [hX] at m0 m1 h1 h2
  rw [hY] at n0 n1 h1 h2
  have HX := Lib.hid hX
  have HY := Lib.hid hY
  have H1 := Lib.hid h1
  have H2 := Lib.hid h2
  have H3 := Lib.hid h3
  clear hX hY h1 h2 h3
  go_enter Try.func7, Try.ntmps7
  go_wp2_with fail
  refine (known5_any _).mono ?_
  rintro e W1 ⟨he, hW⟩
  subst he
  have HX1 := Lib.hid (show Grown w W1 from grown_trans (by repeat (first | with_reducible exact Grown.refl _ | with_reducible refine Grown.setCell ?_ (by simp <;> omega) _ | with_reducible refine Grown.alloc ?_ _ _ | with_reducible refine grown_more ?_ _)) hW)
  clear hW
  have HG1 := Lib.hid (grown_trans HG0.out HX1.out)
  go_wp2_with (go_at_call 11; refine (mild_is _ _ _ (by omega) (by omega)).mono ?_; rintro e w' ⟨he, m, rfl⟩; (first | rw [HX.out] at he | rw [HY.out] at he); subst he)
  refine (pmul_any 2 0 X Y _ m0 m1 n0 n1).mono ?_
  rintro e W2 ⟨he, hW⟩
  rw [H1.out] at he
  subst he
  have HX2 := Lib.hid (show Grown W1 W2 from grown_trans (by repeat (first | with_reducible exact Grown.refl _ | with_reducible refine Grown.setCell ?_ (by simp <;> omega) _ | with_reducible refine Grown.alloc ?_ _ _ | with_reducible refine grown_more ?_ _)) hW)
  clear hW
  have HG2 := Lib.hid (grown_trans HG1.out HX2.out)
  go_wp2_with fail
  refine (rminus_any 2 p _ p0 p1).mono ?_
  rintro e W3 ⟨he, hW⟩
  subst he
  have HB2 := Lib.hid ((five_new (c0 := .bool false) (c1 := .bool false) (c2 := .bool false) (c3 := .bool u) (c4 := .bool i) (t := 29) (w := W2)).grown (grown_trans (by repeat (first | with_reducible exact Grown.refl _ | with_reducible refine Grown.setCell ?_ (by simp <;> omega) _ | with_reducible refine Grown.alloc ?_ _ _ | with_reducible refine grown_more ?_ _)) hW))
  have HX3 := Lib.hid (show Grown W2 W3 from grown_trans (by repeat (first | with_reducible exact Grown.refl _ | with_reducible refine Grown.setCell ?_ (by simp <;> omega) _ | with_reducible refine Grown.alloc ?_ _ _ | with_reducible refine grown_more ?_ _)) hW)
  clear hW
  have HG3 := Lib.hid (grown_trans HG2.out HX3.out)
  go_wp2_with fail
  refine (pfma_any 2 0 X Y (minI 2 p) _ m0 m1 n0 n1 q0 q1).mono ?_
  rintro e W4 ⟨he, hW⟩
  rw [H2.out] at he
  unfold excE at he
  subst he
  have HX4 := Lib.hid (show Grown W3 W4 from grown_trans (by repeat (first | with_reducible exact Grown.refl _ | with_reducible refine Grown.setCell ?_ (by simp <;> omega) _ | with_reducible refine Grown.alloc ?_ _ _ | with_reducible refine grown_more ?_ _)) hW)
  clear hW
  replace HB2 := Lib.hid (HB2.out.grown HX4.out)
  have HG4 := Lib.hid (grown_trans HG3.out HX4.out)
  obtain ⟨t0, t1, t2, t3, t4, t5⟩ := HB2.out
  cases i
  all_goals
    have h3 := H3.out
    first | rw [Bool.not_false] at h3 | rw [Bool.not_true] at h3
    go_wp2_with fail
    go_quiet ((go_at_call 20; exact quiet_drew (rclass_any _ _ _ r0 r1)))
    go_wp2
    go_ret
    exact ⟨rfl, by repeat (first | with_reducible exact HG4.out | with_reducible refine Grown.setCell ?_ (by simp <;> omega) _ | with_reducible refine Grown.alloc ?_ _ _ | with_reducible refine grown_more ?_ _)⟩
end Go.Proofs.Ytkaoppmighinbaa
