/- The walk of QuotSides. (Written by gen17.py.) -/
import Derived.Test.YtianheeefhemhaaQKnown
import Derived.Test.YtianheeefhemhaaQuoMild
import Derived.Test.YtianheeefhemhaaRMul
import Derived.Test.YtianheeefhemhaaRKey
namespace Go.Proofs.Ytianheeefhemhaa
open Go.RowKit
set_option linter.unusedVariables false
set_option linter.unusedSimpArgs false

set_option maxRecDepth 100000 in
set_option maxHeartbeats 8000000 in
theorem qsides_walk (a0 a1 : Int) (w0 : (Lit.int .u8 a0).wf = true) (w1 : (Lit.int .u32 a1).wf = true) (w : World) :
    Calls Try.prog 6 #[.int .u8 a0, .int .u32 a1] w fun e w' => e = .returned (.bool true) ∧ Grown w w' := by
  obtain ⟨b0, b1⟩ := bounds_u8 w0
  obtain ⟨b2, b3⟩ := bounds_u32 w1
  clear w0 w1
  have HG0 := Lib.hid (Grown.refl w)
  obtain ⟨F, hF⟩ : ∃ F, a0 % 3 = F := ⟨_, rfl⟩
  have HF := Lib.hid hF
  clear hF
  obtain ⟨n0, n1⟩ := mil_bd F a1 b2
  have hand := mil_and F a1 b2
  obtain ⟨hsd, x0, x1⟩ := sides_mild F a1 b2
  obtain ⟨X, hX⟩ : ∃ X, milP F a1 = X := ⟨_, rfl⟩
  obtain ⟨Y, hY⟩ : ∃ Y, milI F a1 = Y := ⟨_, rfl⟩
  rw [hX] at hand hsd x0 x1
  rw [hY] at hand n0 n1
  obtain ⟨lo, hi, p, q, u1, u2, i, p1, p2, p3, p4, p5, q1, q2, q3, q4, q5, s1, s2, ⟨lo0, lo1⟩, ⟨hi0, hi1⟩, s3, s4, ⟨pp0, pp1⟩, ⟨qq0, qq1⟩, s5, s6, s7, s8⟩ := hsd
  obtain ⟨KX, hKX⟩ : ∃ K, keyI F X = K := ⟨_, rfl⟩
  obtain ⟨KP, hKP⟩ : ∃ K, keyI F p = K := ⟨_, rfl⟩
  obtain ⟨KQ, hKQ⟩ : ∃ K, keyI F q = K := ⟨_, rfl⟩
  rw [hKX, hKP] at s5
  rw [hKX, hKQ] at s6
  have HY := Lib.hid hY
  have S1 := Lib.hid s1
  have S2 := Lib.hid s2
  have S3 := Lib.hid s3
  have S4 := Lib.hid s4
  have S7 := Lib.hid s7
  have S8 := Lib.hid s8
  have HKX := Lib.hid hKX
  have HKP := Lib.hid hKP
  have HKQ := Lib.hid hKQ
  clear hX hY s1 s2 s3 s4 s7 s8 hKX hKP hKQ
  go_enter Try.func6, Try.ntmps6
  go_wp2_with fail
  refine (known6_any _).mono ?_
  rintro e W1 ⟨he, hW⟩
  subst he
  have HX1 := Lib.hid (show Grown w W1 from grown_trans (by repeat (first | with_reducible exact Grown.refl _ | with_reducible refine Grown.setCell ?_ (by simp <;> omega) _ | with_reducible refine Grown.alloc ?_ _ _ | with_reducible refine grown_more ?_ _)) hW)
  clear hW
  have HG1 := Lib.hid (grown_trans HG0.out HX1.out)
  go_wp2_with fail
  refine (form6_any _ _ b0 b1).mono ?_
  rintro e W2 ⟨he, hW⟩
  rw [HF.out] at he
  subst he
  have HX2 := Lib.hid (show Grown W1 W2 from grown_trans (by repeat (first | with_reducible exact Grown.refl _ | with_reducible refine Grown.setCell ?_ (by simp <;> omega) _ | with_reducible refine Grown.alloc ?_ _ _ | with_reducible refine grown_more ?_ _)) hW)
  clear hW
  have HG2 := Lib.hid (grown_trans HG1.out HX2.out)
  go_wp2_with (first
    | (go_at_call 10; refine (mild_is _ _ _ (by omega) (by omega)).mono ?_; rintro e w' ⟨he, m, rfl⟩; rw [HY.out] at he; subst he)
    | (go_at_call 18; refine (rzero_any _ _ _).mono ?_; rintro e w' ⟨rfl, rfl⟩))
  refine (qsqrt_any F 1 X _ x0 x1).mono ?_
  rintro e W3 ⟨he, hW⟩
  rw [S1.out] at he
  subst he
  have HX3 := Lib.hid (show Grown W2 W3 from grown_trans (by repeat (first | with_reducible exact Grown.refl _ | with_reducible refine Grown.setCell ?_ (by simp <;> omega) _ | with_reducible refine Grown.alloc ?_ _ _ | with_reducible refine grown_more ?_ _)) hW)
  clear hW
  have HG3 := Lib.hid (grown_trans HG2.out HX3.out)
  go_wp2_with fail
  refine (qsqrt_any F 2 X _ x0 x1).mono ?_
  rintro e W4 ⟨he, hW⟩
  rw [S2.out] at he
  subst he
  have HB3 := Lib.hid ((five_new (c0 := .bool false) (c1 := .bool false) (c2 := .bool false) (c3 := .bool u1) (c4 := .bool i) (t := 29) (w := W3)).grown (grown_trans (by repeat (first | with_reducible exact Grown.refl _ | with_reducible refine Grown.setCell ?_ (by simp <;> omega) _ | with_reducible refine Grown.alloc ?_ _ _ | with_reducible refine grown_more ?_ _)) hW))
  have HX4 := Lib.hid (show Grown W3 W4 from grown_trans (by repeat (first | with_reducible exact Grown.refl _ | with_reducible refine Grown.setCell ?_ (by simp <;> omega) _ | with_reducible refine Grown.alloc ?_ _ _ | with_reducible refine grown_more ?_ _)) hW)
  clear hW
  have HG4 := Lib.hid (grown_trans HG3.out HX4.out)
  go_wp2_with fail
  refine (rmul_any F 1 lo lo _ lo0 lo1 lo0 lo1).mono ?_
  rintro e W5 ⟨he, hW⟩
  rw [S3.out] at he
  subst he
  have HB4 := Lib.hid ((five_new (c0 := .bool false) (c1 := .bool false) (c2 := .bool false) (c3 := .bool u2) (c4 := .bool i) (t := 29) (w := W4)).grown (grown_trans (by repeat (first | with_reducible exact Grown.refl _ | with_reducible refine Grown.setCell ?_ (by simp <;> omega) _ | with_reducible refine Grown.alloc ?_ _ _ | with_reducible refine grown_more ?_ _)) hW))
  have HX5 := Lib.hid (show Grown W4 W5 from grown_trans (by repeat (first | with_reducible exact Grown.refl _ | with_reducible refine Grown.setCell ?_ (by simp <;> omega) _ | with_reducible refine Grown.alloc ?_ _ _ | with_reducible refine grown_more ?_ _)) hW)
  clear hW
  replace HB3 := Lib.hid (HB3.out.grown HX5.out)
  have HG5 := Lib.hid (grown_trans HG4.out HX5.out)
  go_wp2_with fail
  refine (rmul_any F 2 hi hi _ hi0 hi1 hi0 hi1).mono ?_
  rintro e W6 ⟨he, hW⟩
  rw [S4.out] at he
  subst he
  have HB5 := Lib.hid ((five_new (c0 := .bool p1) (c1 := .bool p2) (c2 := .bool p3) (c3 := .bool p4) (c4 := .bool p5) (t := 29) (w := W5)).grown (grown_trans (by repeat (first | with_reducible exact Grown.refl _ | with_reducible refine Grown.setCell ?_ (by simp <;> omega) _ | with_reducible refine Grown.alloc ?_ _ _ | with_reducible refine grown_more ?_ _)) hW))
  have HX6 := Lib.hid (show Grown W5 W6 from grown_trans (by repeat (first | with_reducible exact Grown.refl _ | with_reducible refine Grown.setCell ?_ (by simp <;> omega) _ | with_reducible refine Grown.alloc ?_ _ _ | with_reducible refine grown_more ?_ _)) hW)
  clear hW
  replace HB3 := Lib.hid (HB3.out.grown HX6.out)
  replace HB4 := Lib.hid (HB4.out.grown HX6.out)
  have HG6 := Lib.hid (grown_trans HG5.out HX6.out)
  obtain ⟨t0, t1, t2, t3, t4, t5⟩ := HB3.out
  have d1 : decide (KP ≤ KX) = true := decide_eq_true s5
  have d2 : decide (KX ≤ KQ) = true := decide_eq_true s6
  rcases S8.out with h8 | h8
  · have s7 := S7.out
    subst h8
    have hi2 : (lo != lo) = false := by simp
    rw [hi2] at s7
    subst s7
    go_wp2_with (go_at_call 21; refine (rkey_any _ _ _ (by omega) (by omega)).mono ?_; rintro e w' ⟨he, m, rfl⟩; (first | rw [HKP.out] at he | rw [HKQ.out] at he | rw [HKX.out] at he); subst he)
    go_ret
    exact ⟨rfl, by repeat (first | with_reducible exact HG6.out | with_reducible refine Grown.setCell ?_ (by simp <;> omega) _ | with_reducible refine Grown.alloc ?_ _ _ | with_reducible refine grown_more ?_ _)⟩
  · have s7 := S7.out
    subst h8
    have hi2 : (lo != lo + 1) = true := by rw [bne_iff_ne]; omega
    rw [hi2] at s7
    subst s7
    go_wp2_with (go_at_call 21; refine (rkey_any _ _ _ (by omega) (by omega)).mono ?_; rintro e w' ⟨he, m, rfl⟩; (first | rw [HKP.out] at he | rw [HKQ.out] at he | rw [HKX.out] at he); subst he)
    go_ret
    exact ⟨rfl, by repeat (first | with_reducible exact HG6.out | with_reducible refine Grown.setCell ?_ (by simp <;> omega) _ | with_reducible refine Grown.alloc ?_ _ _ | with_reducible refine grown_more ?_ _)⟩
end Go.Proofs.Ytianheeefhemhaa
