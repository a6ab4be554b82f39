/- Sums with noughts; mild numbers' parts (no program here). -/
import Derived.Test.YtheaeclojljecaaAddMath
import Derived.Test.YtheaeclojljecaaMild
namespace Go.Proofs.Ytheaeclojljecaa
open Go.RowKit
set_option linter.unusedVariables false
set_option linter.unusedSimpArgs false

theorem nou_parts (f b : Int) (hX : fX f b = 0) (hF : fF f b = 0) : nanB f b = false ∧ sigB f b = false ∧ infB f b = false ∧ amtE (unE f b) (unM f b) = 0 := by
  have hc : clsI f b = 0 := by unfold clsI; rw [if_pos hX, if_pos hF]
  have ht := topx_pos f
  refine ⟨by unfold nanB; rw [hc]; rfl, by unfold sigB; rw [hc]; rfl, by unfold infB; rw [hc]; rfl, ?_⟩
  rw [amt_zero _ _ (unM_bd f b).1]
  unfold unM
  rw [if_neg (by omega), if_pos hX]; exact hF

/-- Two noughts. -/
theorem add_noughts (f mode : Int) (s t : Bool) : addE f mode (zerI f s) (zerI f t) = excE (if s = t then zerI f s else zerI f (mode == 3)) false := by
  obtain ⟨x1, x2, x3, x4, x5⟩ := zer_parts f s
  obtain ⟨y1, y2, y3, y4, y5⟩ := zer_parts f t
  obtain ⟨n1, n2, n3, n4⟩ := nou_parts f _ x1 x2
  obtain ⟨m1, m2, m3, m4⟩ := nou_parts f _ y1 y2
  unfold addE
  rw [n1, n3, n4, x3, m1, m3, m4, y3, if_neg (by decide), if_neg (by simp), if_neg (by decide), if_neg (by decide)]
  by_cases h : s = t
  · subst h; rw [if_pos rfl, fin_noughts]
  · rw [if_neg h, fin_even f mode s t 0 h]

theorem up_num (f x : Int) : upN (amtE (unE f x) (unM f x)) = numN f x := by
  obtain ⟨e0, e1⟩ := unE_bd f x
  have q : ∀ k : Nat, (unM f x).toNat * 2 ^ (unE f x + 298).toNat * 2 ^ k = (unM f x).toNat * 2 ^ ((unE f x + 298).toNat + k) := fun k => by rw [Nat.mul_assoc, ← Nat.pow_add]
  unfold upN amtE numN
  rw [show (unE f x + 10100).toNat = (unE f x + 298).toNat + 9802 by omega]
  exact q 9802

/-- A number that isn't nought, and a nought. -/
theorem add_nought (f mode x : Int) (s : Bool) (h0 : 0 ≤ x) (h1 : x ≤ msk f) (hf : finI f x = true) (hx : 0 < fX f x) : addE f mode x (zerI f s) = excE x false := by
  obtain ⟨y1, y2, y3, y4, y5⟩ := zer_parts f s
  obtain ⟨m1, m2, m3, m4⟩ := nou_parts f _ y1 y2
  have c := cls_cases f x
  have h2 : clsI f x = 2 := by
    rcases three_ways f x with ⟨a, y, z⟩ | ⟨a, y, z, t⟩ | ⟨a, y, z, t, u⟩
    · rw [hf] at y; exact absurd y (by decide)
    · omega
    · omega
  have n1 : nanB f x = false := by unfold nanB; rw [h2]; rfl
  have n3 : infB f x = false := by unfold infB; rw [h2]; rfl
  have n5 : amtE (unE f x) (unM f x) ≠ 0 := by
    rw [Ne, amt_zero _ _ (unM_bd f x).1]
    have := hid_pos f
    have := fF_bd f x
    rcases three_ways f x with ⟨a, y, z⟩ | ⟨a, y, z, t⟩ | ⟨a, y, z, t, u⟩ <;> omega
  unfold addE
  rw [n1, n3, m1, m3, m4, y3, if_neg (by decide), if_neg (by simp), if_neg (by decide), if_neg (by decide)]
  have hp := num_pack f mode x h0 h1 hf
  by_cases h : fS f x = s
  · subst h
    rw [fin_like f mode _ _ _ (by omega), Nat.add_zero, up_num, hp]; rfl
  · rw [fin_more f mode _ _ _ _ h (by omega), Nat.sub_zero, up_num, hp]; rfl

theorem mil_norm (f k : Int) (h0 : 0 ≤ k) (h : milI f k ≠ 0) : finI f (milI f k) = true ∧ milI f k ≤ msk f ∧ 0 < fX f (milI f k) ∧ bia f - 2 ≤ fX f (milI f k) ∧ fX f (milI f k) ≤ bia f + 1 := by
  unfold milI at *
  by_cases c7 : k % 7 = 0
  · exact absurd (if_pos c7) h
  · rw [if_neg c7] at *
    clear h
    unfold milA finI fX
    rcases fmt_cases f with ⟨rfl, hf⟩ | ⟨rfl, hf⟩ | ⟨⟨c0, c1⟩, hf⟩ <;> obtain ⟨e1, e2, e3, e4, e5, e6, e7, e8, e9⟩ := hf
    all_goals
      rw [e9, e3, e4, e5, e8]
      rcases Int.emod_two_eq k with c2 | c2
      · rw [if_neg (by omega)]; refine ⟨decide_eq_true (by omega), by omega, by omega, by omega, by omega⟩
      · rw [if_pos c2]; refine ⟨decide_eq_true (by omega), by omega, by omega, by omega, by omega⟩
end Go.Proofs.Ytheaeclojljecaa
