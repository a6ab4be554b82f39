/- The walk of SumNoughts. -/
import Derived.Test.YtdaikgeellpolaaSKnown
import Derived.Test.YtdaikgeellpolaaMild
namespace Go.Proofs.Ytdaikgeellpolaa
open Go.RowKit
set_option linter.unusedVariables false
set_option linter.unusedSimpArgs false

theorem zer_parts (f : Int) (s : Bool) : fX f (zerI f s) = 0 ∧ fF f (zerI f s) = 0 ∧ fS f (zerI f s) = s ∧ 0 ≤ zerI f s ∧ zerI f s ≤ 4294967295 := by
  rcases fmt_cases f with ⟨rfl, hf⟩ | ⟨rfl, hf⟩ | ⟨⟨c0, c1⟩, hf⟩ <;> obtain ⟨e1, e2, e3, e4, e5, e6, e7, e8, e9⟩ := hf
  all_goals
    unfold fX fF fS zerI
    rw [e3, e4, e5]
    cases s <;> decide
theorem nou_parts (f b : Int) (hX : fX f b = 0) (hF : fF f b = 0) : nanB f b = false ∧ sigB f b = false ∧ infB f b = false ∧ amtE (unE f b) (unM f b) = 0 := by
  have hc : clsI f b = 0 := by unfold clsI; rw [if_pos hX, if_pos hF]
  have ht := topx_pos f
  refine ⟨by unfold nanB; rw [hc]; rfl, by unfold sigB; rw [hc]; rfl, by unfold infB; rw [hc]; rfl, ?_⟩
  rw [amt_zero _ _ (unM_bd f b).1]
  unfold unM
  rw [if_neg (by omega), if_pos hX]; exact hF
/-- Two noughts. -/
theorem add_noughts (f mode : Int) (s t : Bool) : addE f mode (zerI f s) (zerI f t) = excE (if s = t then zerI f s else zerI f (mode == 3)) false := by
  obtain ⟨x1, x2, x3, x4, x5⟩ := zer_parts f s
  obtain ⟨y1, y2, y3, y4, y5⟩ := zer_parts f t
  obtain ⟨n1, n2, n3, n4⟩ := nou_parts f _ x1 x2
  obtain ⟨m1, m2, m3, m4⟩ := nou_parts f _ y1 y2
  unfold addE
  rw [n1, n3, n4, x3, m1, m3, m4, y3, if_neg (by decide), if_neg (by simp), if_neg (by decide), if_neg (by decide)]
  by_cases h : s = t
  · subst h; rw [if_pos rfl, fin_noughts]
  · rw [if_neg h, fin_even f mode s t 0 h]
theorem up_num (f x : Int) : upN (amtE (unE f x) (unM f x)) = numN f x := by
  obtain ⟨e0, e1⟩ := unE_bd f x
  have q : ∀ k : Nat, (unM f x).toNat * 2 ^ (unE f x + 298).toNat * 2 ^ k = (unM f x).toNat * 2 ^ ((unE f x + 298).toNat + k) := fun k => by rw [Nat.mul_assoc, ← Nat.pow_add]
  unfold upN amtE numN
  rw [q, show (unE f x + 298).toNat + 9802 = (unE f x + 10100).toNat by omega]
/-- A number that isn't nought, and a nought. -/
theorem add_nought (f mode x : Int) (s : Bool) (h0 : 0 ≤ x) (h1 : x ≤ msk f) (hf : finI f x = true) (hx : 0 < fX f x) : addE f mode x (zerI f s) = excE x false := by
  obtain ⟨y1, y2, y3, y4, y5⟩ := zer_parts f s
  obtain ⟨m1, m2, m3, m4⟩ := nou_parts f _ y1 y2
  have c := cls_cases f x
  have h2 : clsI f x = 2 := by
    rcases three_ways f x with ⟨a, y, z⟩ | ⟨a, y, z, t⟩ | ⟨a, y, z, t, u⟩
    · rw [hf] at y; exact absurd y (by decide)
    · omega
    · omega
  have n1 : nanB f x = false := by unfold nanB; rw [h2]; rfl
  have n3 : infB f x = false := by unfold infB; rw [h2]; rfl
  have n5 : amtE (unE f x) (unM f x) ≠ 0 := by
    rw [Ne, amt_zero _ _ (unM_bd f x).1]
    have := hid_pos f
    have := fF_bd f x
    rcases three_ways f x with ⟨a, y, z⟩ | ⟨a, y, z, t⟩ | ⟨a, y, z, t, u⟩ <;> omega
  unfold addE
  rw [n1, n3, m1, m3, m4, y3, if_neg (by decide), if_neg (by simp), if_neg (by decide), if_neg (by decide)]
  have hp := num_pack f mode x h0 h1 hf
  by_cases h : fS f x = s
  · subst h
    rw [fin_like f mode _ _ _ (by omega), Nat.add_zero, up_num, hp]; rfl
  · rw [fin_more f mode _ _ _ _ h (by omega), Nat.sub_zero, up_num, hp]; rfl
theorem mil_norm (f k : Int) (h0 : 0 ≤ k) (h : milI f k ≠ 0) : finI f (milI f k) = true ∧ milI f k ≤ msk f ∧ 0 < fX f (milI f k) ∧ bia f - 2 ≤ fX f (milI f k) ∧ fX f (milI f k) ≤ bia f + 1 := by
  unfold milI at *
  by_cases c7 : k % 7 = 0
  · exact absurd (if_pos c7) h
  · rw [if_neg c7] at *
    clear h
    unfold milA finI fX
    rcases fmt_cases f with ⟨rfl, hf⟩ | ⟨rfl, hf⟩ | ⟨⟨c0, c1⟩, hf⟩ <;> obtain ⟨e1, e2, e3, e4, e5, e6, e7, e8, e9⟩ := hf
    all_goals
      rw [e9, e3, e4, e5, e8]
      rcases Int.emod_two_eq k with c2 | c2
      · rw [if_neg (by omega)]; refine ⟨decide_eq_true (by omega), by omega, by omega, by omega, by omega⟩
      · rw [if_pos c2]; refine ⟨decide_eq_true (by omega), by omega, by omega, by omega, by omega⟩

set_option maxRecDepth 100000 in
set_option maxHeartbeats 4000000 in
theorem snoughts_walk (a0 a1 a2 : Int) (a3 a4 : Bool) (w0 : (Lit.int .u8 a0).wf = true) (w1 : (Lit.int .u8 a1).wf = true) (w2 : (Lit.int .u32 a2).wf = true) (w : World) :
    Calls Try.prog 6 #[.int .u8 a0, .int .u8 a1, .int .u32 a2, .bool a3, .bool a4] w fun e w' => e = .returned (.bool true) ∧ Grown w w' := by
  obtain ⟨b0, b1⟩ := bounds_u8 w0
  obtain ⟨b2, b3⟩ := bounds_u8 w1
  obtain ⟨b4, b5⟩ := bounds_u32 w2
  clear w0 w1 w2
  have HG := Lib.hid (Grown.refl w)
  obtain ⟨F, hF⟩ : ∃ F, a0 % 3 = F := ⟨_, rfl⟩
  have HF := Lib.hid hF
  clear hF
  obtain ⟨x1, x2, x3, x4, x5⟩ := zer_parts F a3
  obtain ⟨y1, y2, y3, y4, y5⟩ := zer_parts F a4
  clear x1 x2 x3 y1 y2 y3
  have HS := Lib.hid (add_noughts F (a1 % 5) a3 a4)
  obtain ⟨n0, n1⟩ := mil_bd F a2 b4
  obtain ⟨N, hN⟩ : ∃ N, milI F a2 = N := ⟨_, rfl⟩
  have hm := mil_norm F a2 b4
  rw [hN] at n0 n1 hm
  have HN := Lib.hid hN
  have HM := Lib.hid hm
  clear hN hm
  obtain ⟨v, g1, g2, g3, g4, g5, hR⟩ : ∃ (v : Int) (g1 g2 g3 g4 g5 : Bool), addE F (a1 % 5) N (zerI F a3) = .returned (.tuple #[.int .u32 v, .agg #[.bool g1, .bool g2, .bool g3, .bool g4, .bool g5]]) ∧ (N ≠ 0 → v = N ∧ g1 = false ∧ g2 = false ∧ g3 = false ∧ g4 = false ∧ g5 = false) := by
    by_cases hz : N = 0
    · obtain ⟨v, g1, g2, g3, g4, g5, hR⟩ := add_shape F (a1 % 5) N (zerI F a3)
      exact ⟨v, g1, g2, g3, g4, g5, hR, fun g => absurd hz g⟩
    · obtain ⟨m1, m2, m3, m4, m5⟩ := HM.out hz
      exact ⟨N, false, false, false, false, false, add_nought F (a1 % 5) N a3 n0 m2 m1 m3, fun _ => ⟨rfl, rfl, rfl, rfl, rfl, rfl⟩⟩
  have HR := Lib.hid hR.1
  have HV := Lib.hid hR.2
  clear hR
  have e34 : a3 = a4 ∨ (a3 == a4) = false := by cases a3 <;> cases a4 <;> simp
  rcases e34 with rfl | e34
  · have HQ := Lib.hid (HS.out.trans (by rw [if_pos rfl]))
    clear HS
    have e34 : (a3 == a3) = true := by simp
    by_cases hz : N = 0
    · subst hz
      go_enter Try.func6, Try.ntmps6
      go_wp2_with (first
        | (go_at_call 7; refine (known4_any _).mono ?_; rintro e W1 ⟨rfl, hW1⟩; replace HG := Lib.hid (grown_trans HG.out hW1); clear hW1)
        | (go_at_call 8; refine (form4_any _ _ b0 b1).mono ?_; rintro e W2 ⟨he, hW2⟩; rw [HF.out] at he; subst he; replace HG := Lib.hid (grown_trans HG.out hW2); clear hW2)
        | (go_at_call 17; refine (rzero_any _ _ _).mono ?_; rintro e w' ⟨rfl, rfl⟩))
      refine (sadd_any F (a1 % 5) (zerI F _) (zerI F _) _ x4 x5 y4 y5).mono ?_
      rintro e W5 ⟨he, hW5⟩
      rw [HQ.out] at he
      unfold excE at he
      subst he
      have HW5 := Lib.hid hW5
      clear hW5
      go_wp2_with (go_at_call 10; refine (mild_is _ _ _ b4 b5).mono ?_; rintro e w' ⟨he, mm, rfl⟩; rw [HN.out] at he; subst he)
      refine (sadd_any F (a1 % 5) _ (zerI F _) _ n0 n1 x4 x5).mono ?_
      rintro e W6 ⟨he, hW6⟩
      rw [HR.out] at he
      subst he
      have HX6 := Lib.hid (grown_trans (Grown.alloc (Grown.refl W5) _ _) (grown_trans (grown_drewN _ _) hW6))
      obtain ⟨p, p0, p1, p2, p3, p4⟩ := grown_new5 (grown_trans (grown_drewN _ _) hW6)
      clear hW6
      go_wp2_with (go_at_call 17; refine (rzero_any _ _ _).mono ?_; rintro e w' ⟨rfl, rfl⟩)
      go_ret
      exact ⟨rfl, Grown.alloc (grown_trans HG.out (grown_trans HW5.out HX6.out)) _ _⟩
    · have hzb : (N == 0) = false := by simpa using hz
      obtain ⟨rfl, rfl, rfl, rfl, rfl, rfl⟩ := HV.out hz
      clear hz
      go_enter Try.func6, Try.ntmps6
      go_wp2_with (first
        | (go_at_call 7; refine (known4_any _).mono ?_; rintro e W1 ⟨rfl, hW1⟩; replace HG := Lib.hid (grown_trans HG.out hW1); clear hW1)
        | (go_at_call 8; refine (form4_any _ _ b0 b1).mono ?_; rintro e W2 ⟨he, hW2⟩; rw [HF.out] at he; subst he; replace HG := Lib.hid (grown_trans HG.out hW2); clear hW2)
        | (go_at_call 17; refine (rzero_any _ _ _).mono ?_; rintro e w' ⟨rfl, rfl⟩))
      refine (sadd_any F (a1 % 5) (zerI F _) (zerI F _) _ x4 x5 y4 y5).mono ?_
      rintro e W5 ⟨he, hW5⟩
      rw [HQ.out] at he
      unfold excE at he
      subst he
      have HW5 := Lib.hid hW5
      clear hW5
      go_wp2_with (go_at_call 10; refine (mild_is _ _ _ b4 b5).mono ?_; rintro e w' ⟨he, mm, rfl⟩; rw [HN.out] at he; subst he)
      refine (sadd_any F (a1 % 5) _ (zerI F _) _ n0 n1 x4 x5).mono ?_
      rintro e W6 ⟨he, hW6⟩
      rw [HR.out] at he
      subst he
      have HX6 := Lib.hid (grown_trans (Grown.alloc (Grown.refl W5) _ _) (grown_trans (grown_drewN _ _) hW6))
      obtain ⟨p, p0, p1, p2, p3, p4⟩ := grown_new5 (grown_trans (grown_drewN _ _) hW6)
      clear hW6
      go_wp2_with (go_at_call 17; refine (rzero_any _ _ _).mono ?_; rintro e w' ⟨rfl, rfl⟩)
      go_ret
      exact ⟨rfl, Grown.alloc (grown_trans HG.out (grown_trans HW5.out HX6.out)) _ _⟩
  · have HQ := Lib.hid (HS.out.trans (by rw [if_neg (by simpa using e34)]))
    clear HS
    by_cases hz : N = 0
    · subst hz
      go_enter Try.func6, Try.ntmps6
      go_wp2_with (first
        | (go_at_call 7; refine (known4_any _).mono ?_; rintro e W1 ⟨rfl, hW1⟩; replace HG := Lib.hid (grown_trans HG.out hW1); clear hW1)
        | (go_at_call 8; refine (form4_any _ _ b0 b1).mono ?_; rintro e W2 ⟨he, hW2⟩; rw [HF.out] at he; subst he; replace HG := Lib.hid (grown_trans HG.out hW2); clear hW2)
        | (go_at_call 17; refine (rzero_any _ _ _).mono ?_; rintro e w' ⟨rfl, rfl⟩))
      refine (sadd_any F (a1 % 5) (zerI F _) (zerI F _) _ x4 x5 y4 y5).mono ?_
      rintro e W5 ⟨he, hW5⟩
      rw [HQ.out] at he
      unfold excE at he
      subst he
      have HW5 := Lib.hid hW5
      clear hW5
      go_wp2_with (go_at_call 10; refine (mild_is _ _ _ b4 b5).mono ?_; rintro e w' ⟨he, mm, rfl⟩; rw [HN.out] at he; subst he)
      refine (sadd_any F (a1 % 5) _ (zerI F _) _ n0 n1 x4 x5).mono ?_
      rintro e W6 ⟨he, hW6⟩
      rw [HR.out] at he
      subst he
      have HX6 := Lib.hid (grown_trans (Grown.alloc (Grown.refl W5) _ _) (grown_trans (grown_drewN _ _) hW6))
      obtain ⟨p, p0, p1, p2, p3, p4⟩ := grown_new5 (grown_trans (grown_drewN _ _) hW6)
      clear hW6
      go_wp2_with (go_at_call 17; refine (rzero_any _ _ _).mono ?_; rintro e w' ⟨rfl, rfl⟩)
      go_ret
      exact ⟨rfl, Grown.alloc (grown_trans HG.out (grown_trans HW5.out HX6.out)) _ _⟩
    · have hzb : (N == 0) = false := by simpa using hz
      obtain ⟨rfl, rfl, rfl, rfl, rfl, rfl⟩ := HV.out hz
      clear hz
      go_enter Try.func6, Try.ntmps6
      go_wp2_with (first
        | (go_at_call 7; refine (known4_any _).mono ?_; rintro e W1 ⟨rfl, hW1⟩; replace HG := Lib.hid (grown_trans HG.out hW1); clear hW1)
        | (go_at_call 8; refine (form4_any _ _ b0 b1).mono ?_; rintro e W2 ⟨he, hW2⟩; rw [HF.out] at he; subst he; replace HG := Lib.hid (grown_trans HG.out hW2); clear hW2)
        | (go_at_call 17; refine (rzero_any _ _ _).mono ?_; rintro e w' ⟨rfl, rfl⟩))
      refine (sadd_any F (a1 % 5) (zerI F _) (zerI F _) _ x4 x5 y4 y5).mono ?_
      rintro e W5 ⟨he, hW5⟩
      rw [HQ.out] at he
      unfold excE at he
      subst he
      have HW5 := Lib.hid hW5
      clear hW5
      go_wp2_with (go_at_call 10; refine (mild_is _ _ _ b4 b5).mono ?_; rintro e w' ⟨he, mm, rfl⟩; rw [HN.out] at he; subst he)
      refine (sadd_any F (a1 % 5) _ (zerI F _) _ n0 n1 x4 x5).mono ?_
      rintro e W6 ⟨he, hW6⟩
      rw [HR.out] at he
      subst he
      have HX6 := Lib.hid (grown_trans (Grown.alloc (Grown.refl W5) _ _) (grown_trans (grown_drewN _ _) hW6))
      obtain ⟨p, p0, p1, p2, p3, p4⟩ := grown_new5 (grown_trans (grown_drewN _ _) hW6)
      clear hW6
      go_wp2_with (go_at_call 17; refine (rzero_any _ _ _).mono ?_; rintro e w' ⟨rfl, rfl⟩)
      go_ret
      exact ⟨rfl, Grown.alloc (grown_trans HG.out (grown_trans HW5.out HX6.out)) _ _⟩
end Go.Proofs.Ytdaikgeellpolaa
