/- The walk of QuotOnes. (Written by gen18.py.) -/
import Derived.Test.YtianheeefhemhaaQKnown
import Derived.Test.YtianheeefhemhaaROne
import Derived.Test.YtianheeefhemhaaPErr2
namespace Go.Proofs.Ytianheeefhemhaa
open Go.RowKit
set_option linter.unusedVariables false
set_option linter.unusedSimpArgs false

theorem xor_zers (f : Int) (s t : Bool) : bits .xor .u32 (zerI f s) (zerI f t) = zerI f (s != t) := by
  unfold zerI
  rcases sgb_pow f with h | h <;> rw [h] <;> cases s <;> cases t <;> decide

theorem or_inf (f : Int) (s : Bool) : bits .or .u32 (zerI f s) (infI f false) = infI f s := by
  rcases fmt_cases f with ⟨rfl, hf⟩ | ⟨rfl, hf⟩ | ⟨⟨c0, c1⟩, hf⟩ <;> obtain ⟨e1, e2, e3, e4, e5, e6, e7, e8, e9⟩ := hf
  all_goals
    unfold infI zerI
    rw [e3, e4, e5]
    cases s <;> decide

/-- What a mild number is: within the format, a number, nought just where its bits are. -/
theorem mil_all (f k : Int) (h0 : 0 ≤ k) : 0 ≤ milI f k ∧ milI f k ≤ msk f ∧ nanB f (milI f k) = false ∧ infB f (milI f k) = false ∧ nouB f (milI f k) = (milI f k == 0) := by
  obtain ⟨b0, b1⟩ := mil_bd f k h0
  obtain ⟨m1, m2, m3⟩ := mil_fin f k h0
  by_cases h : milI f k = 0
  · obtain ⟨x1, x2, x3, x4, x5⟩ := zer_parts f false
    rw [show zerI f false = 0 from rfl] at x1 x2
    have hc : clsI f 0 = 0 := by unfold clsI; rw [if_pos x1, if_pos x2]
    refine ⟨b0, ?_, m1, m2, ?_⟩
    · rw [h]; unfold msk; (repeat' split) <;> decide
    · rw [h]; unfold nouB; rw [hc]
  · obtain ⟨g1, g2, g3, g4, g5⟩ := mil_norm f k h0 h
    have c := cls_cases f (milI f k)
    refine ⟨b0, g2, m1, m2, ?_⟩
    have hz : nouB f (milI f k) = false := by unfold nouB; rw [beq_eq_false_iff_ne]; omega
    rw [hz]; symm; simpa using h

set_option maxRecDepth 100000 in
set_option maxHeartbeats 8000000 in
theorem qones_walk (a0 a1 a2 : Int) (a3 : Bool) (w0 : (Lit.int .u8 a0).wf = true) (w1 : (Lit.int .u8 a1).wf = true) (w2 : (Lit.int .u32 a2).wf = true) (w : World) :
    Calls Try.prog 5 #[.int .u8 a0, .int .u8 a1, .int .u32 a2, .bool a3] w fun e w' => e = .returned (.bool true) ∧ Grown w w' := by
  obtain ⟨b0, b1⟩ := bounds_u8 w0
  obtain ⟨b2, b3⟩ := bounds_u8 w1
  obtain ⟨b4, b5⟩ := bounds_u32 w2
  clear w0 w1 w2
  have HG0 := Lib.hid (Grown.refl w)
  obtain ⟨F, hF⟩ : ∃ F, a0 % 3 = F := ⟨_, rfl⟩
  have HF := Lib.hid hF
  clear hF
  obtain ⟨_, _, _, o0, _, o1, _⟩ := one_parts F
  obtain ⟨n0, nm, n2, n3, n4⟩ := mil_all F a2 b4
  obtain ⟨X, hX⟩ : ∃ X, milI F a2 = X := ⟨_, rfl⟩
  rw [hX] at n0 nm n2 n3 n4
  have n1 : X ≤ 4294967295 := by have := msk_le F; omega
  have HX := Lib.hid hX
  have D1 := Lib.hid (div_one F (a1 % 5) X n0 nm n2 n3)
  have D3 := Lib.hid (div_zer F (a1 % 5) X a3 n2 n3)
  have D4 := Lib.hid (div_inf F (a1 % 5) X a3 n2 n3)
  have D2 := Lib.hid (div_self_is F (a1 % 5) X n2 n3)
  have N4 := Lib.hid n4
  obtain ⟨_, _, _, z0, z1⟩ := zer_parts F a3
  obtain ⟨_, _, i0, i1⟩ := inf_parts F a3
  obtain ⟨_, _, j0, j1⟩ := inf_parts F (fS F X != a3)
  have hs1 := and_sign F X n0 n1
  have hs2 := xor_zers F (fS F X) a3
  have hs3 := or_inf F (fS F X != a3)
  clear hX n2 n3 n4
  go_enter Try.func5, Try.ntmps5
  go_wp2_with fail
  refine (known6_any _).mono ?_
  rintro e W1 ⟨he, hW⟩
  subst he
  have HX1 := Lib.hid (show Grown w W1 from grown_trans (by repeat (first | with_reducible exact Grown.refl _ | with_reducible refine Grown.setCell ?_ (by simp <;> omega) _ | with_reducible refine Grown.alloc ?_ _ _ | with_reducible refine grown_more ?_ _)) hW)
  clear hW
  have HG1 := Lib.hid (grown_trans HG0.out HX1.out)
  go_wp2_with fail
  refine (form6_any _ _ b0 b1).mono ?_
  rintro e W2 ⟨he, hW⟩
  rw [HF.out] at he
  subst he
  have HX2 := Lib.hid (show Grown W1 W2 from grown_trans (by repeat (first | with_reducible exact Grown.refl _ | with_reducible refine Grown.setCell ?_ (by simp <;> omega) _ | with_reducible refine Grown.alloc ?_ _ _ | with_reducible refine grown_more ?_ _)) hW)
  clear hW
  have HG2 := Lib.hid (grown_trans HG1.out HX2.out)
  go_wp2_with (first
    | (go_at_call 10; refine (mild_is _ _ _ (by omega) (by omega)).mono ?_; rintro e w' ⟨he, m, rfl⟩; rw [HX.out] at he; subst he))
  refine (rone_any F (a1 % 5) _).mono ?_
  rintro e W3 ⟨he, hW⟩
  subst he
  have HX3 := Lib.hid (show Grown W2 W3 from grown_trans (by repeat (first | with_reducible exact Grown.refl _ | with_reducible refine Grown.setCell ?_ (by simp <;> omega) _ | with_reducible refine Grown.alloc ?_ _ _ | with_reducible refine grown_more ?_ _)) hW)
  clear hW
  have HG3 := Lib.hid (grown_trans HG2.out HX3.out)
  go_wp2_with (first
    | (go_at_call 18; refine (rzero_any _ _ _).mono ?_; rintro e w' ⟨rfl, rfl⟩)
    | (go_at_call 19; refine (rinf_any _ _ _).mono ?_; rintro e w' ⟨rfl, m, rfl⟩)
    | (go_at_call 20; refine (rnan_any _ _).mono ?_; rintro e w' ⟨rfl, m, rfl⟩))
  refine (qdiv_any F (a1 % 5) X (oneI F) _ n0 n1 o0 o1).mono ?_
  rintro e W4 ⟨he, hW⟩
  rw [D1.out] at he
  unfold excE at he
  subst he
  have HB3 := Lib.hid ((five_new (c0 := .bool false) (c1 := .bool false) (c2 := .bool false) (c3 := .bool false) (c4 := .bool false) (t := 29) (w := W3)).grown (grown_trans (by repeat (first | with_reducible exact Grown.refl _ | with_reducible refine Grown.setCell ?_ (by simp <;> omega) _ | with_reducible refine Grown.alloc ?_ _ _ | with_reducible refine grown_more ?_ _)) hW))
  have HX4 := Lib.hid (show Grown W3 W4 from grown_trans (by repeat (first | with_reducible exact Grown.refl _ | with_reducible refine Grown.setCell ?_ (by simp <;> omega) _ | with_reducible refine Grown.alloc ?_ _ _ | with_reducible refine grown_more ?_ _)) hW)
  clear hW
  have HG4 := Lib.hid (grown_trans HG3.out HX4.out)
  by_cases hz : X = 0
  · subst hz
    have E3 := Lib.hid (D3.out.trans (if_pos (by rw [N4.out]; rfl)))
    go_wp2_with fail
    refine (qdiv_any F (a1 % 5) 0 (zerI F a3) _ (by decide) (by decide) z0 z1).mono ?_
    rintro e W5 ⟨he, hW⟩
    rw [E3.out] at he
    unfold excE at he
    subst he
    have HB4 := Lib.hid ((five_new (c0 := .bool false) (c1 := .bool false) (c2 := .bool false) (c3 := .bool false) (c4 := .bool false) (t := 29) (w := W4)).grown (grown_trans (by repeat (first | with_reducible exact Grown.refl _ | with_reducible refine Grown.setCell ?_ (by simp <;> omega) _ | with_reducible refine Grown.alloc ?_ _ _ | with_reducible refine grown_more ?_ _)) hW))
    have HX5 := Lib.hid (show Grown W4 W5 from grown_trans (by repeat (first | with_reducible exact Grown.refl _ | with_reducible refine Grown.setCell ?_ (by simp <;> omega) _ | with_reducible refine Grown.alloc ?_ _ _ | with_reducible refine grown_more ?_ _)) hW)
    clear hW
    have HG5 := Lib.hid (grown_trans HG4.out HX5.out)
    go_wp2_with (first
      | (go_at_call 18; refine (rzero_any _ _ _).mono ?_; rintro e w' ⟨rfl, rfl⟩)
      | (go_at_call 19; refine (rinf_any _ _ _).mono ?_; rintro e w' ⟨rfl, m, rfl⟩)
      | (go_at_call 20; refine (rnan_any _ _).mono ?_; rintro e w' ⟨rfl, m, rfl⟩))
    go_ret
    exact ⟨rfl, by repeat (first | with_reducible exact HG5.out | with_reducible refine Grown.setCell ?_ (by simp <;> omega) _ | with_reducible refine Grown.alloc ?_ _ _ | with_reducible refine grown_more ?_ _)⟩
  · have hzb : (X == 0) = false := by simpa using hz
    have E3 := Lib.hid (D3.out.trans (if_neg (by rw [N4.out, hzb]; decide)))
    have E2 := Lib.hid (D2.out (by rw [N4.out, hzb]))
    clear hz
    go_wp2_with fail
    refine (qdiv_any F (a1 % 5) X X _ n0 n1 n0 n1).mono ?_
    rintro e W5 ⟨he, hW⟩
    rw [E2.out] at he
    unfold excE at he
    subst he
    have HB4 := Lib.hid ((five_new (c0 := .bool false) (c1 := .bool false) (c2 := .bool false) (c3 := .bool false) (c4 := .bool false) (t := 29) (w := W4)).grown (grown_trans (by repeat (first | with_reducible exact Grown.refl _ | with_reducible refine Grown.setCell ?_ (by simp <;> omega) _ | with_reducible refine Grown.alloc ?_ _ _ | with_reducible refine grown_more ?_ _)) hW))
    have HX5 := Lib.hid (show Grown W4 W5 from grown_trans (by repeat (first | with_reducible exact Grown.refl _ | with_reducible refine Grown.setCell ?_ (by simp <;> omega) _ | with_reducible refine Grown.alloc ?_ _ _ | with_reducible refine grown_more ?_ _)) hW)
    clear hW
    have HG5 := Lib.hid (grown_trans HG4.out HX5.out)
    go_wp2_with fail
    refine (qdiv_any F (a1 % 5) X (zerI F a3) _ n0 n1 z0 z1).mono ?_
    rintro e W6 ⟨he, hW⟩
    rw [E3.out] at he
    unfold divZ at he
    subst he
    have HB5 := Lib.hid ((five_new (c0 := .bool false) (c1 := .bool false) (c2 := .bool false) (c3 := .bool false) (c4 := .bool false) (t := 29) (w := W5)).grown (grown_trans (by repeat (first | with_reducible exact Grown.refl _ | with_reducible refine Grown.setCell ?_ (by simp <;> omega) _ | with_reducible refine Grown.alloc ?_ _ _ | with_reducible refine grown_more ?_ _)) hW))
    have HX6 := Lib.hid (show Grown W5 W6 from grown_trans (by repeat (first | with_reducible exact Grown.refl _ | with_reducible refine Grown.setCell ?_ (by simp <;> omega) _ | with_reducible refine Grown.alloc ?_ _ _ | with_reducible refine grown_more ?_ _)) hW)
    clear hW
    replace HB4 := Lib.hid (HB4.out.grown HX6.out)
    have HG6 := Lib.hid (grown_trans HG5.out HX6.out)
    go_wp2_with fail
    refine (qdiv_any F (a1 % 5) X (infI F a3) _ n0 n1 i0 i1).mono ?_
    rintro e W7 ⟨he, hW⟩
    rw [D4.out] at he
    unfold excE at he
    subst he
    have HB6 := Lib.hid ((five_new (c0 := .bool false) (c1 := .bool true) (c2 := .bool false) (c3 := .bool false) (c4 := .bool false) (t := 29) (w := W6)).grown (grown_trans (by repeat (first | with_reducible exact Grown.refl _ | with_reducible refine Grown.setCell ?_ (by simp <;> omega) _ | with_reducible refine Grown.alloc ?_ _ _ | with_reducible refine grown_more ?_ _)) hW))
    have HX7 := Lib.hid (show Grown W6 W7 from grown_trans (by repeat (first | with_reducible exact Grown.refl _ | with_reducible refine Grown.setCell ?_ (by simp <;> omega) _ | with_reducible refine Grown.alloc ?_ _ _ | with_reducible refine grown_more ?_ _)) hW)
    clear hW
    replace HB4 := Lib.hid (HB4.out.grown HX7.out)
    replace HB5 := Lib.hid (HB5.out.grown HX7.out)
    have HG7 := Lib.hid (grown_trans HG6.out HX7.out)
    obtain ⟨p0, p1, p2, p3, p4, p5⟩ := HB4.out
    obtain ⟨q0, q1, q2, q3, q4, q5⟩ := HB5.out
    obtain ⟨r0, r1, r2, r3, r4, r5⟩ := HB6.out
    go_wp2_with (first
      | (go_at_call 18; refine (rzero_any _ _ _).mono ?_; rintro e w' ⟨rfl, rfl⟩)
      | (go_at_call 19; refine (rinf_any _ _ _).mono ?_; rintro e w' ⟨rfl, m, rfl⟩)
      | (go_at_call 20; refine (rnan_any _ _).mono ?_; rintro e w' ⟨rfl, m, rfl⟩))
    go_ret
    exact ⟨rfl, by repeat (first | with_reducible exact HG7.out | with_reducible refine Grown.setCell ?_ (by simp <;> omega) _ | with_reducible refine Grown.alloc ?_ _ _ | with_reducible refine grown_more ?_ _)⟩
end Go.Proofs.Ytianheeefhemhaa
