/- The walk of SumTurns. -/
import Derived.Test.YtdaikgeellpolaaSKnown
import Derived.Test.YtdaikgeellpolaaMild
namespace Go.Proofs.Ytdaikgeellpolaa
open Go.RowKit
set_option linter.unusedVariables false
set_option linter.unusedSimpArgs false

/-- Two may be exchanged. -/
theorem add_turn (f mode a b : Int) : addE f mode b a = addE f mode a b := by
  unfold addE
  by_cases h : (nanB f a || nanB f b) = true
  · rw [if_pos h, if_pos (by rw [Bool.or_comm]; exact h), Bool.or_comm]
  · rw [if_neg h, if_neg (by rw [Bool.or_comm]; exact h)]
    by_cases g : (infB f a && infB f b && (fS f a != fS f b)) = true
    · rw [if_pos g, if_pos (by cases h1 : infB f a <;> cases h2 : infB f b <;> cases h3 : fS f a <;> cases h4 : fS f b <;> simp_all)]
    · rw [if_neg g, if_neg (by cases h1 : infB f a <;> cases h2 : infB f b <;> cases h3 : fS f a <;> cases h4 : fS f b <;> simp_all)]
      by_cases ha : infB f a = true
      · by_cases hb : infB f b = true
        · have this : fS f b = fS f a := by cases h3 : fS f a <;> cases h4 : fS f b <;> simp_all
          simp only [ha, hb, if_true, this]
        · rw [if_pos ha, if_neg hb, if_pos ha]
      · by_cases hb : infB f b = true
        · simp only [if_neg ha, if_pos hb]
        · rw [if_neg ha, if_neg hb, if_neg hb, if_neg ha, fin_swap]
/-- A number less itself. -/
theorem sub_self_is (f mode a : Int) (h0 : 0 ≤ a) (h1 : a ≤ 4294967295) : (finI f a = true → subE f mode a a = excE (zerI f (mode == 3)) false) ∧ (finI f a = false → ∃ i, subE f mode a a = excE (nanI f) i) := by
  obtain ⟨x1, x2, x3, x4, x5⟩ := xor_parts f a h0 h1
  have hc : clsI f (xorI f a) = clsI f a := by unfold clsI; rw [x1, x2]
  have hn : nanB f (xorI f a) = nanB f a := by unfold nanB; rw [hc]
  have hi : infB f (xorI f a) = infB f a := by unfold infB; rw [hc]
  have hE : unE f (xorI f a) = unE f a := by unfold unE; rw [x1]
  have hM : unM f (xorI f a) = unM f a := by unfold unM; rw [x1, x2]
  have c := cls_cases f a
  unfold subE addE
  rw [hn, hi, x3, hE, hM]
  constructor
  · intro hf
    have h2 : clsI f a ≤ 2 := by
      rcases three_ways f a with ⟨x, y, z⟩ | ⟨x, y, z, t⟩ | ⟨x, y, z, t, u⟩
      · rw [hf] at y; exact absurd y (by decide)
      · have := topx_pos f; omega
      · omega
    have n0 : nanB f a = false := by unfold nanB; simp; omega
    have i0 : infB f a = false := by unfold infB; simp; omega
    rw [n0, i0, if_neg (by decide), if_neg (by simp), if_neg (by decide), if_neg (by decide)]
    exact fin_even f mode (fS f a) (!fS f a) _ (by cases fS f a <;> decide)
  · intro hf
    have h2 : 3 ≤ clsI f a := by
      rcases three_ways f a with ⟨x, y, z⟩ | ⟨x, y, z, t⟩ | ⟨x, y, z, t, u⟩
      · exact z
      · rw [hf] at y; exact absurd y (by decide)
      · rw [hf] at z; exact absurd z (by decide)
    by_cases n0 : nanB f a = true
    · rw [n0, if_pos (by decide)]; exact ⟨_, rfl⟩
    · have n1 : nanB f a = false := (Bool.not_eq_true _).mp n0
      have i0 : infB f a = true := by unfold nanB at n1; unfold infB; simp at n1 ⊢; omega
      rw [n1, i0, if_neg (by decide), if_pos (by cases fS f a <;> decide)]; exact ⟨_, rfl⟩

set_option maxRecDepth 100000 in
set_option maxHeartbeats 4000000 in
theorem sturns_walk (a0 a1 a2 a3 : Int) (w0 : (Lit.int .u8 a0).wf = true) (w1 : (Lit.int .u8 a1).wf = true) (w2 : (Lit.int .u32 a2).wf = true) (w3 : (Lit.int .u32 a3).wf = true) (w : World) :
    Calls Try.prog 4 #[.int .u8 a0, .int .u8 a1, .int .u32 a2, .int .u32 a3] w fun e w' => e = .returned (.bool true) ∧ Grown w w' := by
  obtain ⟨b0, b1⟩ := bounds_u8 w0
  obtain ⟨b2, b3⟩ := bounds_u8 w1
  obtain ⟨b4, b5⟩ := bounds_u32 w2
  obtain ⟨b6, b7⟩ := bounds_u32 w3
  clear w0 w1 w2 w3
  have HG := Lib.hid (Grown.refl w)
  obtain ⟨F, hF⟩ : ∃ F, a0 % 3 = F := ⟨_, rfl⟩
  have HF := Lib.hid hF
  clear hF
  go_enter Try.func4, Try.ntmps4
  go_wp2_with (first
    | (go_at_call 7; refine (known4_any _).mono ?_; rintro e W1 ⟨rfl, hW1⟩; replace HG := Lib.hid (grown_trans HG.out hW1); clear hW1)
    | (go_at_call 8; refine (form4_any _ _ b0 b1).mono ?_; rintro e W2 ⟨he, hW2⟩; rw [HF.out] at he; subst he; replace HG := Lib.hid (grown_trans HG.out hW2); clear hW2))
  refine (num_any F a2 _ b4 b5).mono ?_
  rintro e W3 ⟨⟨X, rfl, x0, x1⟩, hW3⟩
  replace HG := Lib.hid (grown_trans HG.out hW3)
  clear hW3
  go_wp2_with fail
  refine (num_any F a3 _ b6 b7).mono ?_
  rintro e W4 ⟨⟨Y, rfl, y0, y1⟩, hW4⟩
  replace HG := Lib.hid (grown_trans HG.out hW4)
  clear hW4
  obtain ⟨v, g1, g2, g3, g4, g5, hR⟩ := add_shape F (a1 % 5) X Y
  have HR := Lib.hid hR
  have HR2 := Lib.hid ((add_turn F (a1 % 5) X Y).trans hR)
  clear hR
  obtain ⟨s1, s2⟩ := sub_self_is F (a1 % 5) X x0 x1
  have S1 := Lib.hid s1
  have S2 := Lib.hid s2
  clear s1 s2
  go_wp2_with fail
  refine (sadd_any F (a1 % 5) X Y _ x0 x1 y0 y1).mono ?_
  rintro e W5 ⟨he, hW5⟩
  rw [HR.out] at he
  subst he
  have HW5 := Lib.hid hW5
  clear hW5
  go_wp2_with fail
  refine (sadd_any F (a1 % 5) Y X _ y0 y1 x0 x1).mono ?_
  rintro e W6 ⟨he, hW6⟩
  rw [HR2.out] at he
  subst he
  have HW6 := Lib.hid hW6
  have HX6 := Lib.hid (grown_trans (Grown.alloc (Grown.refl W5) _ _) hW6)
  clear hW6
  by_cases hf : finI F X = true
  · have HS := Lib.hid (S1.out hf)
    go_wp2_with fail
    refine (ssub_any F (a1 % 5) X X _ x0 x1 x0 x1).mono ?_
    rintro e W7 ⟨he, hW7⟩
    rw [HS.out] at he
    unfold excE at he
    subst he
    have HX7 := Lib.hid (grown_trans (Grown.alloc (Grown.refl W6) _ _) hW7)
    obtain ⟨p, p0, p1, p2, p3, p4⟩ := (grown_new5 HW6.out).grown HX7.out
    obtain ⟨r, r0, r1, r2, r3, r4⟩ := grown_new5 hW7
    clear hW7
    have HA := Lib.hid (grown_trans HG.out (grown_trans HW5.out (grown_trans HX6.out HX7.out)))
    go_wp2_with (first
      | (go_at_call 15; refine (rfinite_any _ _ _ x0 x1).mono ?_; rintro e w' ⟨he, m, rfl⟩; rw [hf] at he; subst he)
      | (go_at_call 17; refine (rzero_any _ _ _).mono ?_; rintro e w' ⟨rfl, rfl⟩))
    go_ret
    exact ⟨rfl, grown_more (Grown.alloc HA.out _ _) _⟩
  · have hf' : finI F X = false := (Bool.not_eq_true _).mp hf
    clear hf
    obtain ⟨ii, hs⟩ := S2.out hf'
    have HS := Lib.hid hs
    clear hs
    go_wp2_with fail
    refine (ssub_any F (a1 % 5) X X _ x0 x1 x0 x1).mono ?_
    rintro e W7 ⟨he, hW7⟩
    rw [HS.out] at he
    unfold excE at he
    subst he
    have HX7 := Lib.hid (grown_trans (Grown.alloc (Grown.refl W6) _ _) hW7)
    obtain ⟨p, p0, p1, p2, p3, p4⟩ := (grown_new5 HW6.out).grown HX7.out
    obtain ⟨r, r0, r1, r2, r3, r4⟩ := grown_new5 hW7
    clear hW7
    have HA := Lib.hid (grown_trans HG.out (grown_trans HW5.out (grown_trans HX6.out HX7.out)))
    go_wp2_with (first
      | (go_at_call 15; refine (rfinite_any _ _ _ x0 x1).mono ?_; rintro e w' ⟨he, m, rfl⟩; rw [hf'] at he; subst he)
      | (go_at_call 16; refine (rnan_any _ _).mono ?_; rintro e w' ⟨rfl, m, rfl⟩))
    go_ret
    exact ⟨rfl, grown_more (Grown.alloc HA.out _ _) _⟩
end Go.Proofs.Ytdaikgeellpolaa
