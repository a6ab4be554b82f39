/- Numbers' parts in sums: bounds, noughts, other signs (no program here). -/
import Derived.Test.YtdaikgeellpolaaAddMath
import Derived.Test.YtdaikgeellpolaaRKey
namespace Go.Proofs.Ytdaikgeellpolaa
open Go.RowKit
set_option linter.unusedVariables false

theorem unE_top (f x : Int) : unE f x ≤ 120 := by
  have hX := fX_bd f x
  rcases fmt_cases f with ⟨rfl, hf⟩ | ⟨rfl, hf⟩ | ⟨⟨c0, c1⟩, hf⟩ <;> obtain ⟨e1, e2, e3, e4, e5, e6, e7, e8, e9⟩ := hf
  all_goals
    unfold unE
    rw [e4] at hX ⊢
    rw [e6]
    (repeat' split) <;> omega
theorem fit_of (V j k : Nat) (h : V < 2 ^ j) (hj : j ≤ 64 * k) : FitN V k := ⟨Nat.lt_of_lt_of_le h (Nat.pow_le_pow_right (by decide) hj)⟩
theorem amt_nine (f x : Int) : FitN (amtE (unE f x) (unM f x)) 9 := by
  obtain ⟨m0, m1⟩ := unM_bd f x
  obtain ⟨e0, e1⟩ := unE_bd f x
  have e2 := unE_top f x
  refine fit_of _ (24 + (unE f x + 298).toNat) 9 ?_ (by omega)
  unfold amtE
  have h : (unM f x).toNat < 2 ^ 24 := by omega
  have a := Nat.mul_lt_mul_of_pos_right h (np2 (unE f x + 298).toNat)
  rw [← Nat.pow_add] at a
  exact a
theorem spr_amt (e M : Int) (h : 0 ≤ e + 298) : sprN M.toNat ((e + 298) / 64).toNat ((e + 298) % 64).toNat = amtE e M := by
  unfold sprN amtE
  rw [show 64 * ((e + 298) / 64).toNat + ((e + 298) % 64).toNat = (e + 298).toNat by omega]
theorem fin_of (f a : Int) (hn : nanB f a = false) (hi : infB f a = false) : finI f a = true := by
  have c := cls_cases f a
  unfold nanB at hn
  unfold infB at hi
  simp at hn hi
  rcases three_ways f a with ⟨x, y, z⟩ | ⟨x, y, z⟩ | ⟨x, y, z, t⟩
  · omega
  · exact y
  · exact z
theorem amt_zero (e M : Int) (h : 0 ≤ M) : amtE e M = 0 ↔ M = 0 := by
  unfold amtE
  have := np2 (e + 298).toNat
  rw [Nat.mul_eq_zero]; omega
theorem nou_is (f a : Int) (h : finI f a = true) : nouB f a = true ↔ amtE (unE f a) (unM f a) = 0 := by
  rw [amt_zero _ _ (unM_bd f a).1]
  have c := cls_cases f a
  have hh := hid_pos f
  have hF := fF_bd f a
  have ht := topx_pos f
  unfold nouB
  rw [beq_iff_eq]
  rcases three_ways f a with ⟨x, y, z⟩ | ⟨x, y, z, t⟩ | ⟨x, y, z, t, u⟩
  · rw [h] at y; exact absurd y (by decide)
  · omega
  · omega
theorem mask_parts (f v : Int) (h0 : 0 ≤ v) (h1 : v ≤ 4294967295) : bits .and .u32 v (msk f) = zerI f (fS f v) + fX f v * hid f + fF f v := by
  rcases fmt_cases f with ⟨rfl, hf⟩ | ⟨rfl, hf⟩ | ⟨⟨c0, c1⟩, hf⟩ <;> obtain ⟨e1, e2, e3, e4, e5, e6, e7, e8, e9⟩ := hf
  · rw [e8, and32 v 16 (p := 65536) h0 h1 (by decide) (by decide) (by decide)]
    unfold zerI fS fX fF; rw [e3, e4, e5]; simp only [beq_iff_eq]; split <;> omega
  · rw [e8, and32 v 16 (p := 65536) h0 h1 (by decide) (by decide) (by decide)]
    unfold zerI fS fX fF; rw [e3, e4, e5]; simp only [beq_iff_eq]; split <;> omega
  · rw [e8, and32 v 32 (p := 4294967296) h0 h1 (by decide) (by decide) (by decide)]
    unfold zerI fS fX fF; rw [e3, e4, e5]; simp only [beq_iff_eq]; split <;> omega
theorem mask_inf (f v : Int) (h0 : 0 ≤ v) (h1 : v ≤ 4294967295) (h : infB f v = true) : bits .and .u32 v (msk f) = infI f (fS f v) := by
  have c := cls_cases f v
  unfold infB at h
  simp at h
  rw [mask_parts f v h0 h1]
  unfold infI
  have e : fX f v = topx f ∧ fF f v = 0 := by omega
  rw [e.1, e.2, Int.add_zero]
theorem mask_nou (f v : Int) (h0 : 0 ≤ v) (h1 : v ≤ 4294967295) (h : nouB f v = true) : bits .and .u32 v (msk f) = zerI f (fS f v) := by
  have c := cls_cases f v
  have ht := topx_pos f
  unfold nouB at h
  simp at h
  rw [mask_parts f v h0 h1]
  have e : fX f v = 0 ∧ fF f v = 0 := by omega
  rw [e.1, e.2, Int.zero_mul, Int.add_zero, Int.add_zero]
/-- Numbers of like parts are told alike. -/
theorem add_like (f mode a b c : Int) (hX : fX f b = fX f c) (hF : fF f b = fF f c) (hS : nanB f b = false → fS f b = fS f c) : addE f mode a b = addE f mode a c := by
  have hc : clsI f b = clsI f c := by unfold clsI; rw [hX, hF]
  have hn : nanB f b = nanB f c := by unfold nanB; rw [hc]
  have hs : sigB f b = sigB f c := by unfold sigB; rw [hc]
  have hi : infB f b = infB f c := by unfold infB; rw [hc]
  have hE : unE f b = unE f c := by unfold unE; rw [hX]
  have hM : unM f b = unM f c := by unfold unM; rw [hX, hF]
  unfold addE
  rw [← hn, ← hs, ← hi, ← hE, ← hM]
  by_cases g : (nanB f a || nanB f b) = true
  · rw [if_pos g, if_pos g]
  · have g2 : nanB f b = false := by cases h : nanB f b <;> simp_all
    rw [if_neg g, if_neg g, hS g2]
/-- A word with its bit k turned. -/
theorem nat_xor_pow (V k : Nat) : V ^^^ 2 ^ k = if V / 2 ^ k % 2 = 1 then V - 2 ^ k else V + 2 ^ k := by
  have hk := np2 k
  have d1 : (V ^^^ 2 ^ k) % 2 ^ k = V % 2 ^ k := by rw [Nat.xor_mod_two_pow, Nat.mod_self, Nat.xor_zero]
  have d2 : (V ^^^ 2 ^ k) / 2 ^ k = (V / 2 ^ k) ^^^ 1 := by
    rw [← Nat.shiftRight_eq_div_pow, Nat.shiftRight_xor_distrib, Nat.shiftRight_eq_div_pow, Nat.shiftRight_eq_div_pow, Nat.div_self hk]
  have d3 : (V / 2 ^ k) ^^^ 1 = if V / 2 ^ k % 2 = 1 then V / 2 ^ k - 1 else V / 2 ^ k + 1 := by
    generalize V / 2 ^ k = q
    have h1 : (q ^^^ 1) % 2 = (q + 1) % 2 := by
      have := Nat.xor_mod_two_pow (a := q) (b := 1) (n := 1)
      simp only [Nat.pow_one] at this
      rw [this]
      rcases Nat.mod_two_eq_zero_or_one q with c | c <;> rw [c] <;> simp <;> omega
    have h2 : (q ^^^ 1) / 2 = q / 2 := by rw [Nat.xor_div_two]; simp
    split <;> omega
  have a := Nat.div_add_mod (V ^^^ 2 ^ k) (2 ^ k)
  have b := Nat.div_add_mod V (2 ^ k)
  rw [d1, d2, d3] at a
  generalize hq : V / 2 ^ k = q at *
  generalize V % 2 ^ k = r at *
  generalize hP : 2 ^ k = P at *
  split
  · rename_i h
    rw [if_pos h] at a
    have : P * q = P * (q - 1) + P := by
      obtain ⟨q', rfl⟩ : ∃ q', q = q' + 1 := ⟨q - 1, by omega⟩
      rw [Nat.add_sub_cancel, Nat.mul_add, Nat.mul_one]
    omega
  · rename_i h
    rw [if_neg h, Nat.mul_add, Nat.mul_one] at a
    omega
end Go.Proofs.Ytdaikgeellpolaa
