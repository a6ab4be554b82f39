/- A number's own value is rounded to it (no program here). -/
import Derived.Test.YtfdfbgmnfiiipaaRdMath
namespace Go.Proofs.Ytfdfbgmnfiiipaa
open Go.RowKit
set_option linter.unusedVariables false

/-- What a finite number's bits stand for, in units of 2 to -10100. -/
def numN (f x : Int) : Nat := (unM f x).toNat * 2 ^ (unE f x + 10100).toNat

theorem fin_lt (f x : Int) (h : finI f x = true) : fX f x < topx f := by unfold finI at h; exact of_decide_eq_true h

theorem num_parts (f x : Int) (h : finI f x = true) :
    plcN f 0 false (numN f x) = fX f x * hid f + fF f x ∧ catN f (numN f x) = 0 := by
  have hl := lst_bd f
  have hlu := lu_is f
  have hX := fX_bd f x
  have hF := fF_bd f x
  have hh := hid_fn f
  have hlt := fin_lt f x h
  rcases three_ways f x with ⟨a, b, _⟩ | ⟨a, b, c, d⟩ | ⟨a, a2, b, c, d⟩
  · rw [h] at b; exact absurd b (by decide)
  · have hV : numN f x = (fF f x).toNat * 2 ^ luN f := by unfold numN; rw [c, d]; rfl
    have hlow : numN f x < 2 ^ (fn f + luN f) := by
      rw [hV, Nat.pow_add]
      exact Nat.mul_lt_mul_of_pos_right (by omega) (p2 _)
    obtain ⟨e1, e2⟩ := low_plc f 0 false (numN f x) hlow
    have e3 : keptN f (numN f x) = (fF f x).toNat := by unfold keptN; rw [e1, Nat.add_zero, hV, Nat.mul_div_cancel _ (p2 _)]
    have e4 : catN f (numN f x) = 0 := by unfold catN catU; rw [e1, Nat.add_zero, hV, Nat.mul_mod_left, if_pos rfl]
    refine ⟨?_, e4⟩
    unfold plcN
    rw [e1, e3, e4, grow_zero, a]; simp; omega
  · obtain ⟨X, hXe⟩ : ∃ X : Nat, fX f x = X + 1 := ⟨(fX f x - 1).toNat, by omega⟩
    have hV : numN f x = ((fF f x).toNat + 2 ^ fn f) * 2 ^ (luN f + X) := by
      unfold numN; rw [c, d, hh]
      rw [show (lst f + fX f x - 1 + 10100).toNat = luN f + X by omega, show (fF f x + ((2 ^ fn f : Nat) : Int)).toNat = (fF f x).toNat + 2 ^ fn f by omega]
    have hp := p2 (luN f + X)
    have hp1 := p2 (fn f)
    have hV0 : numN f x ≠ 0 := by rw [hV]; exact Nat.ne_of_gt (Nat.mul_pos (by omega) hp)
    have hlog : (numN f x).log2 = fn f + (luN f + X) := by
      rw [Nat.log2_eq_iff hV0, hV]
      constructor
      · rw [Nat.pow_add]; exact Nat.mul_le_mul_right _ (by omega)
      · rw [show fn f + (luN f + X) + 1 = (fn f + 1) + (luN f + X) by omega, Nat.pow_add 2 (fn f + 1)]
        exact Nat.mul_lt_mul_of_pos_right (by rw [Nat.pow_succ]; omega) hp
    have e1 : dN f (numN f x) = X := by unfold dN; rw [hlog]; omega
    have e3 : keptN f (numN f x) = (fF f x).toNat + 2 ^ fn f := by unfold keptN; rw [e1, hV, Nat.mul_div_cancel _ hp]
    have e4 : catN f (numN f x) = 0 := by unfold catN catU; rw [e1, hV, Nat.mul_mod_left, if_pos rfl]
    refine ⟨?_, e4⟩
    unfold plcN
    rw [e1, e3, e4, grow_zero, hXe, Int.add_mul, hh]
    simp; omega

theorem plc_cat0 (f m m' : Int) (s s' : Bool) (V : Nat) (h : catN f V = 0) : plcN f m s V = plcN f m' s' V := by
  unfold plcN; rw [h, grow_zero, grow_zero]

/-- A finite number is rounded to itself, with nothing told beside it. -/
theorem num_pack (f mode x : Int) (h0 : 0 ≤ x) (h1 : x ≤ msk f) (h : finI f x = true) :
    PackE f mode (fS f x) (numN f x) = .returned (.tuple #[.int .u32 x, .agg #[.bool false, .bool false, .bool false, .bool false, .bool false]]) := by
  obtain ⟨p, c⟩ := num_parts f x h
  rw [plc_cat0 f 0 mode false (fS f x) _ c] at p
  have hs := parts_sum f x h0 h1
  have hlt := fin_lt f x h
  have hF := fF_bd f x
  have hH := hid_pos f
  have m1 : (fX f x + 1) * hid f ≤ topx f * hid f := Int.mul_le_mul_of_nonneg_right (by omega) (Int.le_of_lt hH)
  rw [Int.add_mul] at m1
  have hg : plcN f mode (fS f x) (numN f x) ≤ greN f := by have := gre_is f; omega
  have e2 : rdO f mode (fS f x) (numN f x) = false := by unfold rdO; rw [decide_eq_false_iff_not]; omega
  have e1 : rdV f mode (fS f x) (numN f x) = x := by unfold rdV magN; rw [if_pos hg]; omega
  have e3 : rdU f (numN f x) = false := by unfold rdU; rw [c]; rfl
  have e4 : rdX f mode (fS f x) (numN f x) = false := by unfold rdX; rw [e2, c]; rfl
  rw [← packE_is, e1, e2, e3, e4]

theorem unM_bd (f x : Int) : 0 ≤ unM f x ∧ unM f x < 16777216 := by
  have hF := fF_bd f x
  have hH := hid_pos f
  have h2 : hid f ≤ 8388608 := by unfold hid; (repeat' split) <;> decide
  unfold unM; (repeat' split) <;> omega

theorem unE_bd (f x : Int) : -149 ≤ unE f x ∧ unE f x ≤ 255 := by
  have hl := lst_bd f
  have hX := fX_bd f x
  have ht : topx f ≤ 255 := by unfold topx; (repeat' split) <;> decide
  unfold unE; (repeat' split) <;> omega

/-- With noughts behind it is the same number. -/
theorem val_shifted (f x s : Int) (s0 : 0 ≤ s) (s1 : s ≤ 39) : valN (clampE (unE f x - s)) (IntKind.u64.wrap (unM f x * 2 ^ s.toNat)) false = numN f x := by
  obtain ⟨m0, m1⟩ := unM_bd f x
  obtain ⟨e0, e1⟩ := unE_bd f x
  have hp : (2 : Int) ^ s.toNat ≤ 2 ^ 39 := pow2_le (by omega)
  have hp0 := pow2_pos s.toNat
  have b : unM f x * 2 ^ s.toNat ≤ 16777216 * 549755813888 := Int.mul_le_mul (by omega) hp (by omega) (by omega)
  have b0 : 0 ≤ unM f x * 2 ^ s.toNat := Int.mul_nonneg m0 (by omega)
  have hc : clampE (unE f x - s) = unE f x - s := by unfold clampE; rw [if_neg (by omega), if_neg (by omega)]
  rw [u64w _ b0 (by omega), hc]
  unfold valN numN
  obtain ⟨M, hM⟩ := Int.eq_ofNat_of_zero_le m0
  rw [hM, pow2_cast, ← Int.natCast_mul, Int.toNat_natCast, Int.toNat_natCast, Nat.mul_assoc, ← Nat.pow_add]
  rw [show s.toNat + (unE f x - s + 10100).toNat = (unE f x + 10100).toNat by omega]
  simp

theorem mask_word (f v : Int) (h0 : 0 ≤ v) (h1 : v ≤ 4294967295) : 0 ≤ bits .and .u32 v (msk f) ∧ bits .and .u32 v (msk f) ≤ msk f := by
  rcases fmt_cases f with ⟨rfl, hf⟩ | ⟨rfl, hf⟩ | ⟨⟨c0, c1⟩, hf⟩ <;> obtain ⟨e1, e2, e3, e4, e5, e6, e7, e8, e9⟩ := hf <;> rw [e8]
  · rw [and32 v 16 (p := 65536) h0 h1 (by decide) (by decide) (by decide)]; omega
  · rw [and32 v 16 (p := 65536) h0 h1 (by decide) (by decide) (by decide)]; omega
  · rw [and32 v 32 (p := 4294967296) h0 h1 (by decide) (by decide) (by decide)]; omega
end Go.Proofs.Ytfdfbgmnfiiipaa
