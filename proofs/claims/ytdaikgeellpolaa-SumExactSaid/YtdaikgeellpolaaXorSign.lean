/- A number with its sign turned (no program here). -/
import Derived.Test.YtdaikgeellpolaaAddHelp
namespace Go.Proofs.Ytdaikgeellpolaa
open Go.RowKit
set_option linter.unusedVariables false

/-- A word with its sign turned. -/
def xorI (f v : Int) : Int := bits .xor .u32 v (sgb f)
/-- The reference's number of the other sign. -/
def minI (f v : Int) : Int := if nanB f v then bits .and .u32 v (msk f) else bits .and .u32 (xorI f v) (msk f)
theorem xor32 (v : Int) (k : Nat) {b : Int} (h0 : 0 ≤ v) (h1 : v ≤ 4294967295) (hk : k ≤ 31) (hb : b = 2 ^ k) : bits .xor .u32 v b = if v / b % 2 = 1 then v - b else v + b := by
  subst hb
  have hp := pow2_pos k
  have hm : (2 : Int) ^ k ≤ 2147483648 := pow2_le (b := 31) hk
  rw [u32_xor v _ h0 (by omega) (by omega) (by omega)]
  obtain ⟨V, rfl⟩ := Int.eq_ofNat_of_zero_le h0
  rw [pow2_cast k, Int.toNat_natCast, Int.toNat_natCast, nat_xor_pow, ← Int.natCast_ediv]
  have hle := Nat.div_mul_le_self V (2 ^ k)
  generalize V / 2 ^ k = q at *
  by_cases h : q % 2 = 1
  · rw [if_pos h, if_pos (by omega)]
    have h1 : 1 * 2 ^ k ≤ q * 2 ^ k := Nat.mul_le_mul_right _ (by omega)
    omega
  · rw [if_neg h, if_neg (by omega)]; omega
theorem xor_parts (f v : Int) (h0 : 0 ≤ v) (h1 : v ≤ 4294967295) : fX f (xorI f v) = fX f v ∧ fF f (xorI f v) = fF f v ∧ fS f (xorI f v) = !fS f v ∧ 0 ≤ xorI f v ∧ xorI f v ≤ 4294967295 := by
  unfold xorI
  rcases fmt_cases f with ⟨rfl, hf⟩ | ⟨rfl, hf⟩ | ⟨⟨c0, c1⟩, hf⟩ <;> obtain ⟨e1, e2, e3, e4, e5, e6, e7, e8, e9⟩ := hf
  · rw [e5, xor32 v 15 (b := 32768) h0 h1 (by decide) (by decide)]
    unfold fX fF fS; rw [e3, e4, e5]
    split <;> refine ⟨by omega, by omega, ?_, by omega, by omega⟩ <;> rw [Bool.eq_iff_iff] <;> simp <;> omega
  · rw [e5, xor32 v 15 (b := 32768) h0 h1 (by decide) (by decide)]
    unfold fX fF fS; rw [e3, e4, e5]
    split <;> refine ⟨by omega, by omega, ?_, by omega, by omega⟩ <;> rw [Bool.eq_iff_iff] <;> simp <;> omega
  · rw [e5, xor32 v 31 (b := 2147483648) h0 h1 (by decide) (by decide)]
    unfold fX fF fS; rw [e3, e4, e5]
    split <;> refine ⟨by omega, by omega, ?_, by omega, by omega⟩ <;> rw [Bool.eq_iff_iff] <;> simp <;> omega
theorem and_parts (f v : Int) (h0 : 0 ≤ v) (h1 : v ≤ 4294967295) : fX f (bits .and .u32 v (msk f)) = fX f v ∧ fF f (bits .and .u32 v (msk f)) = fF f v ∧ fS f (bits .and .u32 v (msk f)) = fS f v ∧ 0 ≤ bits .and .u32 v (msk f) ∧ bits .and .u32 v (msk f) ≤ 4294967295 := by
  rcases fmt_cases f with ⟨rfl, hf⟩ | ⟨rfl, hf⟩ | ⟨⟨c0, c1⟩, hf⟩ <;> obtain ⟨e1, e2, e3, e4, e5, e6, e7, e8, e9⟩ := hf
  · rw [e8, and32 v 16 (p := 65536) h0 h1 (by decide) (by decide) (by decide)]
    unfold fX fF fS; rw [e3, e4, e5]
    refine ⟨by omega, by omega, ?_, by omega, by omega⟩; rw [Bool.eq_iff_iff]; simp; omega
  · rw [e8, and32 v 16 (p := 65536) h0 h1 (by decide) (by decide) (by decide)]
    unfold fX fF fS; rw [e3, e4, e5]
    refine ⟨by omega, by omega, ?_, by omega, by omega⟩; rw [Bool.eq_iff_iff]; simp; omega
  · rw [e8, and32 v 32 (p := 4294967296) h0 h1 (by decide) (by decide) (by decide)]
    unfold fX fF fS; rw [e3, e4, e5]
    refine ⟨by omega, by omega, ?_, by omega, by omega⟩; rw [Bool.eq_iff_iff]; simp; omega
theorem min_bd (f v : Int) (h0 : 0 ≤ v) (h1 : v ≤ 4294967295) : 0 ≤ minI f v ∧ minI f v ≤ 4294967295 := by
  obtain ⟨x1, x2, x3, x4, x5⟩ := xor_parts f v h0 h1
  unfold minI; split
  · exact (and_parts f v h0 h1).2.2.2
  · exact (and_parts f _ x4 x5).2.2.2
/-- A sum with the other sign, by either way to turn it. -/
theorem sub_alike (f mode a b : Int) (h0 : 0 ≤ b) (h1 : b ≤ 4294967295) : addE f mode a (minI f b) = addE f mode a (xorI f b) := by
  obtain ⟨x1, x2, x3, x4, x5⟩ := xor_parts f b h0 h1
  obtain ⟨y1, y2, y3, y4, y5⟩ := and_parts f b h0 h1
  obtain ⟨z1, z2, z3, z4, z5⟩ := and_parts f _ x4 x5
  unfold minI
  by_cases h : nanB f b = true
  · rw [if_pos h]
    refine add_like f mode a _ _ (by rw [y1, x1]) (by rw [y2, x2]) (fun g => ?_)
    have : nanB f (bits .and .u32 b (msk f)) = nanB f b := by unfold nanB clsI; rw [y1, y2]
    rw [this, h] at g; exact absurd g (by decide)
  · rw [if_neg h]
    exact add_like f mode a _ _ z1 z2 (fun _ => z3)
end Go.Proofs.Ytdaikgeellpolaa
