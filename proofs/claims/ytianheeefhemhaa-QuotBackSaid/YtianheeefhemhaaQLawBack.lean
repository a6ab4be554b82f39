/- The walk of QuotBack. (Written by gen19.py.) -/
import Derived.Test.YtianheeefhemhaaQKnown
import Derived.Test.YtianheeefhemhaaQuoBackAll
import Derived.Test.YtianheeefhemhaaRMul
namespace Go.Proofs.Ytianheeefhemhaa
open Go.RowKit
set_option linter.unusedVariables false
set_option linter.unusedSimpArgs false

set_option maxHeartbeats 1000000 in
theorem sq_any (f X S : Int) (w : World) (x0 : 0 ≤ X) (x1 : X ≤ 4294967295) (h : mulE f 0 X X = excE S false) :
    Calls Try.prog 17 #[.int .i64 f, .int .u32 X] w fun e w' => e = .returned (.int .u32 S) ∧ Grown w w' := by
  have H := Lib.hid h
  clear h
  go_enter Try.func17, Try.ntmps17
  go_wp2_with fail
  refine (rmul_any f 0 X X _ x0 x1 x0 x1).mono ?_
  rintro e W1 ⟨he, hW⟩
  rw [H.out] at he
  unfold excE at he
  subst he
  have HW := Lib.hid hW
  clear hW
  go_wp2
  go_ret
  exact ⟨rfl, by repeat (first | with_reducible exact HW.out | with_reducible refine Grown.alloc ?_ _ _ | with_reducible refine grown_more ?_ _)⟩

theorem tm_bd (a : Int) : -14 ≤ a.tmod 15 ∧ a.tmod 15 ≤ 14 := by
  have h := Int.tmod_lt_of_pos a (show (0 : Int) < 15 by decide)
  have g := Int.lt_tmod_of_pos a (show (0 : Int) < 15 by decide)
  omega

theorem and_not_zer (f : Int) (u : Bool) : bits .andNot .u32 (zerI f u) (zerI f true) = 0 := by
  unfold zerI
  rcases sgb_pow f with h | h <;> rw [h] <;> cases u <;> decide

set_option maxRecDepth 100000 in
set_option maxHeartbeats 8000000 in
theorem qback_walk (a0 a1 a2 a3 : Int) (w0 : (Lit.int .u8 a0).wf = true) (w1 : (Lit.int .u8 a1).wf = true) (w2 : (Lit.int .i16 a2).wf = true) (w3 : (Lit.int .i16 a3).wf = true) (w : World) :
    Calls Try.prog 4 #[.int .u8 a0, .int .u8 a1, .int .i16 a2, .int .i16 a3] w fun e w' => e = .returned (.bool true) ∧ Grown w w' := by
  obtain ⟨b0, b1⟩ := bounds_u8 w0
  obtain ⟨b2, b3⟩ := bounds_u8 w1
  obtain ⟨b4, b5⟩ := bounds_i16 w2
  obtain ⟨b6, b7⟩ := bounds_i16 w3
  clear w0 w1 w2 w3
  have HG0 := Lib.hid (Grown.refl w)
  obtain ⟨F, hF⟩ : ∃ F, a0 % 3 = F := ⟨_, rfl⟩
  have HF := Lib.hid hF
  clear hF
  obtain ⟨ta0, ta1⟩ := tm_bd a2
  obtain ⟨tb0, tb1⟩ := tm_bd a3
  obtain ⟨A, hA⟩ : ∃ A, a2.tmod 15 = A := ⟨_, rfl⟩
  obtain ⟨B, hB⟩ : ∃ B, a3.tmod 15 = B := ⟨_, rfl⟩
  rw [hA] at ta0 ta1
  rw [hB] at tb0 tb1
  obtain ⟨X, Y, P, S, R, hK⟩ := back_all F A B ta0 ta1 tb0 tb1
  have x0 := hK.x0
  have x1 := hK.x1
  have y0 := hK.y0
  have y1 := hK.y1
  have p0 := hK.p0
  have p1 := hK.p1
  have s0 := hK.s0
  have s1 := hK.s1
  have habs := hK.abs
  have HK := Lib.hid hK
  clear hK
  go_enter Try.func4, Try.ntmps4
  go_wp2_with fail
  refine (known6_any _).mono ?_
  rintro e W1 ⟨he, hW⟩
  subst he
  have HX1 := Lib.hid (show Grown w W1 from grown_trans (by repeat (first | with_reducible exact Grown.refl _ | with_reducible refine Grown.setCell ?_ (by simp <;> omega) _ | with_reducible refine Grown.alloc ?_ _ _ | with_reducible refine grown_more ?_ _)) hW)
  clear hW
  have HG1 := Lib.hid (grown_trans HG0.out HX1.out)
  go_wp2_with fail
  refine (form6_any _ _ b0 b1).mono ?_
  rintro e W2 ⟨he, hW⟩
  rw [HF.out] at he
  subst he
  have HX2 := Lib.hid (show Grown W1 W2 from grown_trans (by repeat (first | with_reducible exact Grown.refl _ | with_reducible refine Grown.setCell ?_ (by simp <;> omega) _ | with_reducible refine Grown.alloc ?_ _ _ | with_reducible refine grown_more ?_ _)) hW)
  clear hW
  have HG2 := Lib.hid (grown_trans HG1.out HX2.out)
  go_wp2_with fail
  refine (rfrom_any F (a1 % 5) A X _ ta0 ta1 (fun g => HK.out.fx.neg g _) (fun g => HK.out.fx.pos g _)).mono ?_
  rintro e W3 ⟨he, hW⟩
  subst he
  have HX3 := Lib.hid (show Grown W2 W3 from grown_trans (by repeat (first | with_reducible exact Grown.refl _ | with_reducible refine Grown.setCell ?_ (by simp <;> omega) _ | with_reducible refine Grown.alloc ?_ _ _ | with_reducible refine grown_more ?_ _)) hW)
  clear hW
  have HG3 := Lib.hid (grown_trans HG2.out HX3.out)
  go_wp2_with fail
  refine (rfrom_any F (a1 % 5) B Y _ tb0 tb1 (fun g => HK.out.fy.neg g _) (fun g => HK.out.fy.pos g _)).mono ?_
  rintro e W4 ⟨he, hW⟩
  subst he
  have HB3 := Lib.hid ((five_new (c0 := .bool false) (c1 := .bool false) (c2 := .bool false) (c3 := .bool false) (c4 := .bool false) (t := 29) (w := W3)).grown (grown_trans (by repeat (first | with_reducible exact Grown.refl _ | with_reducible refine Grown.setCell ?_ (by simp <;> omega) _ | with_reducible refine Grown.alloc ?_ _ _ | with_reducible refine grown_more ?_ _)) hW))
  have HX4 := Lib.hid (show Grown W3 W4 from grown_trans (by repeat (first | with_reducible exact Grown.refl _ | with_reducible refine Grown.setCell ?_ (by simp <;> omega) _ | with_reducible refine Grown.alloc ?_ _ _ | with_reducible refine grown_more ?_ _)) hW)
  clear hW
  have HG4 := Lib.hid (grown_trans HG3.out HX4.out)
  go_wp2_with fail
  refine (rmul_any F (a1 % 5) X Y _ x0 x1 y0 y1).mono ?_
  rintro e W5 ⟨he, hW⟩
  rw [HK.out.mul] at he
  unfold excE at he
  subst he
  have HB4 := Lib.hid ((five_new (c0 := .bool false) (c1 := .bool false) (c2 := .bool false) (c3 := .bool false) (c4 := .bool false) (t := 29) (w := W4)).grown (grown_trans (by repeat (first | with_reducible exact Grown.refl _ | with_reducible refine Grown.setCell ?_ (by simp <;> omega) _ | with_reducible refine Grown.alloc ?_ _ _ | with_reducible refine grown_more ?_ _)) hW))
  have HX5 := Lib.hid (show Grown W4 W5 from grown_trans (by repeat (first | with_reducible exact Grown.refl _ | with_reducible refine Grown.setCell ?_ (by simp <;> omega) _ | with_reducible refine Grown.alloc ?_ _ _ | with_reducible refine grown_more ?_ _)) hW)
  clear hW
  replace HB3 := Lib.hid (HB3.out.grown HX5.out)
  have HG5 := Lib.hid (grown_trans HG4.out HX5.out)
  go_wp2_with fail
  refine (sq_any F X S _ x0 x1 HK.out.sq).mono ?_
  rintro e W6 ⟨he, hW⟩
  subst he
  have HB5 := Lib.hid ((five_new (c0 := .bool false) (c1 := .bool false) (c2 := .bool false) (c3 := .bool false) (c4 := .bool false) (t := 29) (w := W5)).grown (grown_trans (by repeat (first | with_reducible exact Grown.refl _ | with_reducible refine Grown.setCell ?_ (by simp <;> omega) _ | with_reducible refine Grown.alloc ?_ _ _ | with_reducible refine grown_more ?_ _)) hW))
  have HX6 := Lib.hid (show Grown W5 W6 from grown_trans (by repeat (first | with_reducible exact Grown.refl _ | with_reducible refine Grown.setCell ?_ (by simp <;> omega) _ | with_reducible refine Grown.alloc ?_ _ _ | with_reducible refine grown_more ?_ _)) hW)
  clear hW
  replace HB3 := Lib.hid (HB3.out.grown HX6.out)
  replace HB4 := Lib.hid (HB4.out.grown HX6.out)
  have HG6 := Lib.hid (grown_trans HG5.out HX6.out)
  go_wp2_with fail
  refine (qsqrt_any F (a1 % 5) S _ s0 s1).mono ?_
  rintro e W7 ⟨he, hW⟩
  rw [HK.out.root] at he
  unfold excE at he
  subst he
  have HX7 := Lib.hid (show Grown W6 W7 from grown_trans (by repeat (first | with_reducible exact Grown.refl _ | with_reducible refine Grown.setCell ?_ (by simp <;> omega) _ | with_reducible refine Grown.alloc ?_ _ _ | with_reducible refine grown_more ?_ _)) hW)
  clear hW
  replace HB3 := Lib.hid (HB3.out.grown HX7.out)
  replace HB4 := Lib.hid (HB4.out.grown HX7.out)
  replace HB5 := Lib.hid (HB5.out.grown HX7.out)
  have HG7 := Lib.hid (grown_trans HG6.out HX7.out)
  by_cases hb : B = 0
  · have hbb : (B == 0) = true := by simpa using hb
    have HD := Lib.hid (HK.out.bz hb (a1 % 5))
    clear hb
    obtain ⟨ab, hab⟩ : ∃ ab, (A == 0) = ab := ⟨_, rfl⟩
    cases ab
    all_goals
      go_wp2_with (go_at_call 18; refine (rzero_any _ _ _).mono ?_; rintro e w' ⟨rfl, rfl⟩)
      refine (qdiv_any F (a1 % 5) P Y _ p0 p1 y0 y1).mono ?_
      rintro e W8 ⟨he, hW⟩
      rw [HD.out] at he
      unfold excE at he
      subst he
      have HB7 := Lib.hid ((five_new (c0 := .bool false) (c1 := .bool false) (c2 := .bool false) (c3 := .bool false) (c4 := .bool false) (t := 29) (w := W7)).grown (grown_trans (by repeat (first | with_reducible exact Grown.refl _ | with_reducible refine Grown.setCell ?_ (by simp <;> omega) _ | with_reducible refine Grown.alloc ?_ _ _ | with_reducible refine grown_more ?_ _)) hW))
      have HX8 := Lib.hid (show Grown W7 W8 from grown_trans (by repeat (first | with_reducible exact Grown.refl _ | with_reducible refine Grown.setCell ?_ (by simp <;> omega) _ | with_reducible refine Grown.alloc ?_ _ _ | with_reducible refine grown_more ?_ _)) hW)
      clear hW
      have HG8 := Lib.hid (grown_trans HG7.out HX8.out)
      go_wp2
      go_ret
      exact ⟨rfl, by repeat (first | with_reducible exact HG8.out | with_reducible refine Grown.setCell ?_ (by simp <;> omega) _ | with_reducible refine Grown.alloc ?_ _ _ | with_reducible refine grown_more ?_ _)⟩
  · have hbb : (B == 0) = false := by simpa using hb
    by_cases ha : A = 0
    · have hab : (A == 0) = true := by simpa using ha
      obtain ⟨u, hu⟩ := HK.out.az hb ha
      have HD := Lib.hid (hu (a1 % 5))
      have hz := and_not_zer F u
      clear hb ha hu
      go_wp2_with (go_at_call 18; refine (rzero_any _ _ _).mono ?_; rintro e w' ⟨rfl, rfl⟩)
      refine (qdiv_any F (a1 % 5) P Y _ p0 p1 y0 y1).mono ?_
      rintro e W8 ⟨he, hW⟩
      rw [HD.out] at he
      unfold excE at he
      subst he
      have HB7 := Lib.hid ((five_new (c0 := .bool false) (c1 := .bool false) (c2 := .bool false) (c3 := .bool false) (c4 := .bool false) (t := 29) (w := W7)).grown (grown_trans (by repeat (first | with_reducible exact Grown.refl _ | with_reducible refine Grown.setCell ?_ (by simp <;> omega) _ | with_reducible refine Grown.alloc ?_ _ _ | with_reducible refine grown_more ?_ _)) hW))
      have HX8 := Lib.hid (show Grown W7 W8 from grown_trans (by repeat (first | with_reducible exact Grown.refl _ | with_reducible refine Grown.setCell ?_ (by simp <;> omega) _ | with_reducible refine Grown.alloc ?_ _ _ | with_reducible refine grown_more ?_ _)) hW)
      clear hW
      have HG8 := Lib.hid (grown_trans HG7.out HX8.out)
      go_wp2_with (go_at_call 18; refine (rzero_any _ _ _).mono ?_; rintro e w' ⟨rfl, rfl⟩)
      go_ret
      exact ⟨rfl, by repeat (first | with_reducible exact HG8.out | with_reducible refine Grown.setCell ?_ (by simp <;> omega) _ | with_reducible refine Grown.alloc ?_ _ _ | with_reducible refine grown_more ?_ _)⟩
    · have hab : (A == 0) = false := by simpa using ha
      have HD := Lib.hid (HK.out.nz hb ha (a1 % 5))
      clear hb ha
      go_wp2_with (go_at_call 18; refine (rzero_any _ _ _).mono ?_; rintro e w' ⟨rfl, rfl⟩)
      refine (qdiv_any F (a1 % 5) P Y _ p0 p1 y0 y1).mono ?_
      rintro e W8 ⟨he, hW⟩
      rw [HD.out] at he
      unfold excE at he
      subst he
      have HB7 := Lib.hid ((five_new (c0 := .bool false) (c1 := .bool false) (c2 := .bool false) (c3 := .bool false) (c4 := .bool false) (t := 29) (w := W7)).grown (grown_trans (by repeat (first | with_reducible exact Grown.refl _ | with_reducible refine Grown.setCell ?_ (by simp <;> omega) _ | with_reducible refine Grown.alloc ?_ _ _ | with_reducible refine grown_more ?_ _)) hW))
      have HX8 := Lib.hid (show Grown W7 W8 from grown_trans (by repeat (first | with_reducible exact Grown.refl _ | with_reducible refine Grown.setCell ?_ (by simp <;> omega) _ | with_reducible refine Grown.alloc ?_ _ _ | with_reducible refine grown_more ?_ _)) hW)
      clear hW
      have HG8 := Lib.hid (grown_trans HG7.out HX8.out)
      go_wp2
      go_ret
      exact ⟨rfl, by repeat (first | with_reducible exact HG8.out | with_reducible refine Grown.setCell ?_ (by simp <;> omega) _ | with_reducible refine Grown.alloc ?_ _ _ | with_reducible refine grown_more ?_ _)⟩
end Go.Proofs.Ytianheeefhemhaa
