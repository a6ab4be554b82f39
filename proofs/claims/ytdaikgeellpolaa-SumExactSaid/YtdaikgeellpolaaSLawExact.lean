/- The walk of SumExact. -/
import Derived.Test.YtdaikgeellpolaaSKnown
import Derived.Test.YtdaikgeellpolaaSterb
import Derived.Test.YtdaikgeellpolaaScale
import Derived.Test.YtdaikgeellpolaaNought
namespace Go.Proofs.Ytdaikgeellpolaa
open Go.RowKit
set_option linter.unusedVariables false
set_option linter.unusedSimpArgs false

/-- A mild number without its sign. -/
def milP (f k : Int) : Int := if k % 7 = 0 then 0 else milA f k
theorem mil_and (f k : Int) (h0 : 0 ≤ k) : bits .andNot .u32 (milI f k) (zerI f true) = milP f k := by
  obtain ⟨n0, n1⟩ := mil_bd f k h0
  have hn := no_sign f (milI f k) n0 n1
  have key : bits .and .u32 (milI f k) (msk f) = milI f k ∧ milI f k % sgb f = milP f k := by
    unfold milP milI milA at *
    rcases fmt_cases f with ⟨rfl, hf⟩ | ⟨rfl, hf⟩ | ⟨⟨c0, c1⟩, hf⟩ <;> obtain ⟨e1, e2, e3, e4, e5, e6, e7, e8, e9⟩ := hf
    all_goals
      rw [e9, e3, e5] at n0 n1
      rw [e8, e9, e3, e5]
      by_cases c7 : k % 7 = 0
      · simp only [if_pos c7]; exact ⟨by decide, by decide⟩
      · simp only [if_neg c7] at n0 n1 ⊢
        rcases Int.emod_two_eq k with c2 | c2
        · rw [if_neg (by omega)] at n0 n1 ⊢
          refine ⟨?_, by omega⟩
          first
            | (rw [and32 _ 16 (p := 65536) (by omega) (by omega) (by decide) (by decide) (by decide)]; omega)
            | (rw [and32 _ 32 (p := 4294967296) (by omega) (by omega) (by decide) (by decide) (by decide)]; omega)
        · rw [if_pos c2] at n0 n1 ⊢
          refine ⟨?_, by omega⟩
          first
            | (rw [and32 _ 16 (p := 65536) (by omega) (by omega) (by decide) (by decide) (by decide)]; omega)
            | (rw [and32 _ 32 (p := 4294967296) (by omega) (by omega) (by decide) (by decide) (by decide)]; omega)
  rw [key.1, key.2] at hn
  exact hn
theorem milP_norm (f k : Int) (h0 : 0 ≤ k) : milP f k = 0 ∨ ∃ X F : Int, milP f k = X * hid f + F ∧ 0 ≤ F ∧ F < hid f ∧ bia f - 2 ≤ X ∧ X ≤ bia f + 1 := by
  unfold milP
  by_cases c7 : k % 7 = 0
  · exact .inl (if_pos c7)
  · rw [if_neg c7]
    refine .inr ⟨milA f k / hid f, milA f k % hid f, ?_, ?_⟩
    · rw [Int.mul_comm]; exact (Int.mul_ediv_add_emod _ _).symm
    · unfold milA
      rcases fmt_cases f with ⟨rfl, hf⟩ | ⟨rfl, hf⟩ | ⟨⟨c0, c1⟩, hf⟩ <;> obtain ⟨e1, e2, e3, e4, e5, e6, e7, e8, e9⟩ := hf
      all_goals
        rw [e9, e3]
        refine ⟨by omega, by omega, by omega, by omega⟩
/-- What the order asks of a number that is not below nought. -/
structure Good (f p : Int) : Prop where
  lo : 0 ≤ p
  hi : p ≤ 4294967295
  nan : nanB f p = false
  key : keyI f p = p
  nou : nouB f p = (p == 0)
theorem zero_parts (f : Int) : fX f 0 = 0 ∧ fF f 0 = 0 ∧ fS f 0 = false ∧ finI f 0 = true ∧ unM f 0 = 0 := by
  obtain ⟨x1, x2, x3, x4, x5⟩ := zer_parts f false
  rw [show zerI f false = 0 from rfl] at x1 x2 x3
  have ht := topx_pos f
  refine ⟨x1, x2, x3, by unfold finI; rw [x1]; exact decide_eq_true ht, by unfold unM; rw [x1, x2, if_neg (by omega), if_pos rfl]⟩
theorem good_zero (f : Int) : Good f 0 := by
  obtain ⟨x1, x2, x3, x4, x5⟩ := zero_parts f
  have hc : clsI f 0 = 0 := by unfold clsI; rw [if_pos x1, if_pos x2]
  exact ⟨by decide, by decide, by unfold nanB; rw [hc]; rfl, by simp [keyI, x3], by unfold nouB; rw [hc]⟩
theorem good_norm (f p X F : Int) (hp : p = X * hid f + F) (f0 : 0 ≤ F) (f1 : F < hid f) (X0 : 0 < X) (X1 : X < topx f) : Good f p := by
  obtain ⟨p1, p2, p3, p4, p5, p6, p7⟩ := parts_make f false X F p (by omega) X1 f0 f1 (by rw [show zerI f false = 0 from rfl]; omega)
  obtain ⟨r1, r2, r3, r4, r5⟩ := norm_parts f p X F p1 p2 X0 X1
  have hz : p ≠ 0 := by
    intro h
    rw [h] at p1
    have := (zero_parts f).1
    omega
  exact ⟨p4, p6, r1, key_pos f p p3 p4 p5, by rw [r3]; symm; simpa using hz⟩
/-- A number of one exponent less, of one more. -/
theorem pack_beside (f y Y G d : Int) (hy : y = Y * hid f + G) (g0 : 0 ≤ G) (g1 : G < hid f) (Y0 : 1 < Y) (Y1 : Y + 1 < topx f) (hd : d = -1 ∨ d = 1) :
    PackE f 0 (fS f y) (valN (clampE (unE f y + d)) (unM f y) false) = excE (y + d * hid f) false := by
  obtain ⟨p1, p2, p3, p4, p5, p6, p7⟩ := parts_make f false Y G y (by omega) (by omega) g0 g1 (by rw [show zerI f false = 0 from rfl]; omega)
  obtain ⟨r1, r2, r3, r4, r5⟩ := norm_parts f y Y G p1 p2 (by omega) (by omega)
  obtain ⟨q1, q2, q3, q4, q5, q6, q7⟩ := parts_make f false (Y + d) G (y + d * hid f) (by omega) (by omega) g0 g1 (by rw [show zerI f false = 0 from rfl, hy, Int.add_mul]; omega)
  obtain ⟨s1, s2, s3, s4, s5⟩ := norm_parts f _ (Y + d) G q1 q2 (by omega) (by omega)
  have hl := lst_bd f
  have ht : topx f ≤ 255 := by unfold topx; (repeat' split) <;> decide
  have hp := num_pack f 0 (y + d * hid f) q4 q5 q7
  rw [q3] at hp
  rw [p3]
  have e : valN (clampE (unE f y + d)) (unM f y) false = numN f (y + d * hid f) := by
    unfold valN numN
    rw [clamp_in _ (by omega) (by omega), s4, s5, r4, r5]
    rw [show lst f + Y - 1 + d + 10100 = lst f + (Y + d) - 1 + 10100 by omega]; simp
  rw [e, hp]; rfl
theorem pack_zero_beside (f d : Int) : PackE f 0 (fS f 0) (valN (clampE (unE f 0 + d)) (unM f 0) false) = excE 0 false := by
  obtain ⟨x1, x2, x3, x4, x5⟩ := zero_parts f
  rw [x3, x5, show valN (clampE (unE f 0 + d)) 0 false = 0 by unfold valN; simp]
  exact pack_zero_is f 0 false
theorem sub_zero_is (f : Int) : subE f 0 0 0 = excE 0 false := by
  obtain ⟨x1, x2, x3, x4, x5⟩ := zero_parts f
  obtain ⟨u1, u2, u3, u4, u5⟩ := xor_parts f 0 (by decide) (by decide)
  obtain ⟨m1, m2, m3, m4⟩ := nou_parts f 0 x1 x2
  obtain ⟨n1, n2, n3, n4⟩ := nou_parts f (xorI f 0) (u1.trans x1) (u2.trans x2)
  unfold subE
  rw [add_fin f 0 0 _ m1 n1 m3 n3, m4, n4, u3, x3, fin_even f 0 _ _ _ (by decide)]; rfl
/-- All that the law leans on. -/
theorem exact_all (f j k : Int) (hj : 0 ≤ j) (hk : 0 ≤ k) :
    ∃ H T : Int, Good f (milP f j) ∧ Good f (milP f k) ∧ Good f H ∧ Good f T ∧ nanB f (milP f k) = false ∧ finI f (milP f k) = true
      ∧ PackE f 0 (fS f (milP f k)) (valN (clampE (unE f (milP f k) + -1)) (unM f (milP f k)) false) = excE H false
      ∧ PackE f 0 (fS f (milP f k)) (valN (clampE (unE f (milP f k) + 1)) (unM f (milP f k)) false) = excE T false
      ∧ (¬ milP f j < H → ¬ T < milP f j → ∃ z : Int, 0 ≤ z ∧ z ≤ 4294967295 ∧ subE f 0 (milP f j) (milP f k) = excE z false ∧ addE f 0 z (milP f k) = excE (milP f j) false) := by
  obtain ⟨l1, l2, l3⟩ := lim_fmt f
  have hh := hid_pos f
  rcases milP_norm f k hk with hy | ⟨Y, G, hy, g0, g1, Y0, Y1⟩
  · rw [hy]
    obtain ⟨x1, x2, x3, x4, x5⟩ := zero_parts f
    refine ⟨0, 0, ?_, good_zero f, good_zero f, good_zero f, (good_zero f).nan, x4, pack_zero_beside f _, pack_zero_beside f _, ?_⟩
    · rcases milP_norm f j hj with hx | ⟨X, F, hx, f0, f1, X0, X1⟩
      · rw [hx]; exact good_zero f
      · exact good_norm f _ X F hx f0 f1 (by omega) (by omega)
    · intro h1 h2
      rcases milP_norm f j hj with hx | ⟨X, F, hx, f0, f1, X0, X1⟩
      · rw [hx]
        refine ⟨0, by decide, by decide, sub_zero_is f, ?_⟩
        have := add_noughts f 0 false false
        rw [if_pos rfl] at this
        exact this
      · have g := good_norm f _ X F hx f0 f1 (by omega) (by omega)
        have p : 0 < X * hid f := Int.mul_pos (by omega) hh
        omega
  · obtain ⟨p1, p2, p3, p4, p5, p6, p7⟩ := parts_make f false Y G (milP f k) (by omega) (by omega) g0 g1 (by rw [show zerI f false = 0 from rfl]; omega)
    obtain ⟨r1, r2, r3, r4, r5⟩ := norm_parts f (milP f k) Y G p1 p2 (by omega) (by omega)
    refine ⟨milP f k + -1 * hid f, milP f k + 1 * hid f, ?_, good_norm f _ Y G hy g0 g1 (by omega) (by omega), good_norm f _ (Y + -1) G (by rw [hy, Int.add_mul]; omega) g0 g1 (by omega) (by omega), good_norm f _ (Y + 1) G (by rw [hy, Int.add_mul]; omega) g0 g1 (by omega) (by omega), r1, p7, pack_beside f _ Y G (-1) hy g0 g1 (by omega) (by omega) (.inl rfl), pack_beside f _ Y G 1 hy g0 g1 (by omega) (by omega) (.inr rfl), ?_⟩
    · rcases milP_norm f j hj with hx | ⟨X, F, hx, f0, f1, X0, X1⟩
      · rw [hx]; exact good_zero f
      · exact good_norm f _ X F hx f0 f1 (by omega) (by omega)
    · intro h1 h2
      rcases milP_norm f j hj with hx | ⟨X, F, hx, f0, f1, X0, X1⟩
      · exfalso
        apply h1
        have q : 1 * hid f ≤ (Y - 1) * hid f := Int.mul_le_mul_of_nonneg_right (by omega) (by omega)
        rw [Int.sub_mul] at q
        omega
      · exact sterb f _ _ X F Y G hx hy f0 f1 g0 g1 X0 X1 Y0 Y1 (by omega) (by omega)

set_option maxRecDepth 100000 in
set_option maxHeartbeats 4000000 in
theorem sexact_walk (a0 a1 a2 : Int) (w0 : (Lit.int .u8 a0).wf = true) (w1 : (Lit.int .u32 a1).wf = true) (w2 : (Lit.int .u32 a2).wf = true) (w : World) :
    Calls Try.prog 5 #[.int .u8 a0, .int .u32 a1, .int .u32 a2] w fun e w' => e = .returned (.bool true) ∧ Grown w w' := by
  obtain ⟨b0, b1⟩ := bounds_u8 w0
  obtain ⟨b2, b3⟩ := bounds_u32 w1
  obtain ⟨b4, b5⟩ := bounds_u32 w2
  clear w0 w1 w2
  have HG := Lib.hid (Grown.refl w)
  obtain ⟨F, hF⟩ : ∃ F, a0 % 3 = F := ⟨_, rfl⟩
  have HF := Lib.hid hF
  clear hF
  obtain ⟨H, T, gX, gY, gH, gT, nY, fY, pH, pT, hz⟩ := exact_all F a1 a2 b2 b4
  have hx := mil_and F a1 b2
  have hy := mil_and F a2 b4
  obtain ⟨X, hX⟩ : ∃ X, milP F a1 = X := ⟨_, rfl⟩
  obtain ⟨Y, hY⟩ : ∃ Y, milP F a2 = Y := ⟨_, rfl⟩
  rw [hX] at gX hz hx
  rw [hY] at gY nY fY pH pT hz hy
  clear hX hY
  obtain ⟨X0, X1, X2, X3, X4⟩ := gX
  obtain ⟨Y0, Y1, Y2, Y3, Y4⟩ := gY
  obtain ⟨H0, H1, H2, H3, H4⟩ := gH
  obtain ⟨T0, T1, T2, T3, T4⟩ := gT
  have HL1 := Lib.hid (fun w1 => rless_pos F X H w1 X0 X1 H0 H1 (by rw [X2, H2]; rfl) X3 H3 X4 H4)
  have HL2 := Lib.hid (fun w1 => rless_pos F T X w1 T0 T1 X0 X1 (by rw [T2, X2]; rfl) T3 X3 T4 X4)
  have HS1 := Lib.hid (fun w1 => rscale_one F 0 Y (-1) H w1 Y0 Y1 (.inl rfl) nY fY pH)
  have HS2 := Lib.hid (fun w1 => rscale_one F 0 Y 1 T w1 Y0 Y1 (.inr rfl) nY fY pT)
  have HZ := Lib.hid hz
  have HK := Lib.hid X3
  clear nY fY pH pT hz X2 X3 X4 Y2 Y3 Y4 H2 H3 H4 T2 T3 T4
  obtain ⟨v, g1, g2, g3, g4, g5, hR⟩ : ∃ (v : Int) (g1 g2 g3 g4 g5 : Bool), subE F 0 X Y = .returned (.tuple #[.int .u32 v, .agg #[.bool g1, .bool g2, .bool g3, .bool g4, .bool g5]]) ∧ (¬ X < H → ¬ T < X → 0 ≤ v ∧ v ≤ 4294967295 ∧ g1 = false ∧ g2 = false ∧ g3 = false ∧ g4 = false ∧ g5 = false ∧ addE F 0 v Y = excE X false) := by
    by_cases c : ¬ X < H ∧ ¬ T < X
    · obtain ⟨z, z0, z1, z2, z3⟩ := HZ.out c.1 c.2
      exact ⟨z, false, false, false, false, false, z2, fun _ _ => ⟨z0, z1, rfl, rfl, rfl, rfl, rfl, z3⟩⟩
    · obtain ⟨v, g1, g2, g3, g4, g5, hR⟩ := add_shape F 0 X (xorI F Y)
      exact ⟨v, g1, g2, g3, g4, g5, hR, fun p q => absurd ⟨p, q⟩ c⟩
  have HR := Lib.hid hR.1
  have HV := Lib.hid hR.2
  clear hR
  go_enter Try.func5, Try.ntmps5
  go_wp2_with (first
    | (go_at_call 7; refine (known4_any _).mono ?_; rintro e W1 ⟨rfl, hW1⟩; replace HG := Lib.hid (grown_trans HG.out hW1); clear hW1)
    | (go_at_call 8; refine (form4_any _ _ b0 b1).mono ?_; rintro e W2 ⟨he, hW2⟩; rw [HF.out] at he; subst he; replace HG := Lib.hid (grown_trans HG.out hW2); clear hW2)
    | (go_at_call 10; refine (mild_is _ _ _ (by omega) (by omega)).mono ?_; rintro e w' ⟨rfl, mm, rfl⟩)
    | (go_at_call 17; refine (rzero_any _ _ _).mono ?_; rintro e w' ⟨rfl, rfl⟩))
  clear hx hy
  refine (HS1.out _).mono ?_
  rintro e W3 ⟨he, hW3⟩
  unfold excE at he
  subst he
  replace HG := Lib.hid (grown_trans HG.out (grown_trans (grown_drewN _ _) hW3))
  clear hW3
  go_wp2_with fail
  refine (HS2.out _).mono ?_
  rintro e W4 ⟨he, hW4⟩
  unfold excE at he
  subst he
  replace HG := Lib.hid (grown_trans (Grown.alloc HG.out _ _) hW4)
  clear hW4
  go_wp2_with fail
  refine (ssub_any F 0 X Y _ X0 X1 Y0 Y1).mono ?_
  rintro e W5 ⟨he, hW5⟩
  rw [HR.out] at he
  subst he
  replace HG := Lib.hid (grown_trans (Grown.alloc HG.out _ _) hW5)
  clear hW5
  by_cases c1 : X < H
  · have d1 : decide (X < H) = true := decide_eq_true c1
    clear c1
    go_wp2_with fail
    refine (HL1.out _).mono ?_
    rintro e W6 ⟨rfl, hW6⟩
    replace HG := Lib.hid (grown_trans (Grown.alloc HG.out _ _) hW6)
    clear hW6
    go_wp2
    go_ret
    exact ⟨rfl, HG.out⟩
  · have d1 : decide (X < H) = false := decide_eq_false c1
    have C1 := Lib.hid c1
    clear c1
    go_wp2_with fail
    refine (HL1.out _).mono ?_
    rintro e W6 ⟨rfl, hW6⟩
    have HW6 := Lib.hid hW6
    replace HG := Lib.hid (grown_trans (Grown.alloc HG.out _ _) hW6)
    clear hW6
    by_cases c2 : T < X
    · have d2 : decide (T < X) = true := decide_eq_true c2
      clear c2
      go_wp2_with fail
      refine (HL2.out _).mono ?_
      rintro e W7 ⟨rfl, hW7⟩
      replace HG := Lib.hid (grown_trans HG.out hW7)
      clear hW7
      go_wp2
      go_ret
      exact ⟨rfl, HG.out⟩
    · have d2 : decide (T < X) = false := decide_eq_false (by omega)
      obtain ⟨v0, v1, rfl, rfl, rfl, rfl, rfl, hadd⟩ := HV.out C1.out (by first | exact c2 | exact Int.not_lt.1 c2 | exact Int.not_lt.2 c2)
      have HA := Lib.hid hadd
      clear hadd c2
      go_wp2_with fail
      refine (HL2.out _).mono ?_
      rintro e W7 ⟨rfl, hW7⟩
      have HW7 := Lib.hid hW7
      replace HG := Lib.hid (grown_trans HG.out hW7)
      clear hW7
      go_wp2_with fail
      refine (sadd_any F 0 v Y _ v0 v1 Y0 Y1).mono ?_
      rintro e W8 ⟨he, hW8⟩
      rw [HA.out] at he
      unfold excE at he
      subst he
      have HW8 := Lib.hid hW8
      replace HG := Lib.hid (grown_trans HG.out hW8)
      clear hW8
      obtain ⟨p, p0, p1, p2, p3, p4⟩ := ((grown_new5 HW6.out).grown HW7.out).grown HW8.out
      go_wp2_with (go_at_call 20; refine (rkey_any _ _ _ X0 X1).mono ?_; rintro e w' ⟨he, m, rfl⟩; rw [HK.out] at he; subst he)
      go_ret
      exact ⟨rfl, grown_more (Grown.alloc HG.out _ _) _⟩
end Go.Proofs.Ytdaikgeellpolaa
