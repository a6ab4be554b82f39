/- Whole numbers in ten limbs of 64 bits (no program here). -/
import Derived.Test.YtdaikgeellpolaaMath
namespace Go.Proofs.Ytdaikgeellpolaa
open Go.RowKit
set_option linter.unusedVariables false

/-- A limb of a whole number; ten of them. -/
def limb (V i : Nat) : Int := ((V / 2 ^ (64 * i) % 2 ^ 64 : Nat) : Int)
def wideV (neg : Bool) (V : Nat) : Value :=
  .agg #[.bool neg, .int .u64 (limb V 0), .int .u64 (limb V 1), .int .u64 (limb V 2), .int .u64 (limb V 3), .int .u64 (limb V 4), .int .u64 (limb V 5), .int .u64 (limb V 6), .int .u64 (limb V 7), .int .u64 (limb V 8), .int .u64 (limb V 9)]
theorem limb_bd (V i : Nat) : 0 ≤ limb V i ∧ limb V i ≤ 18446744073709551615 := by
  have := Nat.mod_lt (V / 2 ^ (64 * i)) (Nat.pow_pos (n := 64) (show 0 < 2 by decide))
  unfold limb; omega
theorem np2 (n : Nat) : 0 < 2 ^ n := Nat.pow_pos (by decide)
/-- sig moved to bit 64 A + B. -/
def sprN (sig : Nat) (A B : Nat) : Nat := sig * 2 ^ (64 * A + B)
theorem spr_low (sig A B i : Nat) (h : i < A) : limb (sprN sig A B) i = 0 := by
  unfold limb sprN
  obtain ⟨k, rfl⟩ : ∃ k, A = i + 1 + k := ⟨A - i - 1, by omega⟩
  have e : sig * 2 ^ (64 * (i + 1 + k) + B) = (sig * 2 ^ (64 * k + B)) * 2 ^ 64 * 2 ^ (64 * i) := by
    rw [show 64 * (i + 1 + k) + B = (64 * k + B) + 64 + 64 * i by omega, Nat.pow_add, Nat.pow_add, Nat.mul_assoc, Nat.mul_assoc]; simp only [Nat.mul_assoc]
  rw [e, Nat.mul_div_cancel _ (np2 _), Nat.mul_mod_left]; rfl
theorem spr_at (sig A B : Nat) : limb (sprN sig A B) A = ((sig * 2 ^ B % 2 ^ 64 : Nat) : Int) := by
  unfold limb sprN
  rw [show 64 * A + B = B + 64 * A by omega, Nat.pow_add, ← Nat.mul_assoc, Nat.mul_div_cancel _ (np2 _)]
theorem spr_next (sig A B : Nat) (hs : sig < 2 ^ 64) (hB : B < 64) : limb (sprN sig A B) (A + 1) = ((sig * 2 ^ B / 2 ^ 64 : Nat) : Int) := by
  unfold limb sprN
  rw [show 64 * A + B = B + 64 * A by omega, Nat.pow_add, ← Nat.mul_assoc, show 64 * (A + 1) = 64 * A + 64 by omega, Nat.pow_add, ← Nat.div_div_eq_div_mul, Nat.mul_div_cancel _ (np2 _)]
  rw [Nat.mod_eq_of_lt]
  rw [Nat.div_lt_iff_lt_mul (np2 _)]
  have : 2 ^ B ≤ 2 ^ 64 := Nat.pow_le_pow_right (by decide) (by omega)
  exact Nat.mul_lt_mul_of_lt_of_le hs this (np2 _)
theorem spr_high (sig A B i : Nat) (hs : sig < 2 ^ 64) (hB : B < 64) (h : A + 1 < i) : limb (sprN sig A B) i = 0 := by
  unfold limb sprN
  obtain ⟨k, rfl⟩ : ∃ k, i = A + 2 + k := ⟨i - A - 2, by omega⟩
  rw [show 64 * A + B = B + 64 * A by omega, Nat.pow_add, ← Nat.mul_assoc, show 64 * (A + 2 + k) = 64 * A + (128 + 64 * k) by omega, Nat.pow_add 2 (64 * A), ← Nat.div_div_eq_div_mul, Nat.mul_div_cancel _ (np2 _)]
  have : 2 ^ B ≤ 2 ^ 64 := Nat.pow_le_pow_right (by decide) (by omega)
  have h1 : sig * 2 ^ B < 2 ^ 64 * 2 ^ 64 := Nat.mul_lt_mul_of_lt_of_le hs this (np2 _)
  have h2 : 2 ^ 64 * 2 ^ 64 ≤ 2 ^ (128 + 64 * k) := by rw [← Nat.pow_add]; exact Nat.pow_le_pow_right (by decide) (by omega)
  rw [Nat.div_eq_of_lt (by omega)]; rfl
theorem spr_div (sig B : Nat) (hB : 0 < B) (hB2 : B < 64) : sig * 2 ^ B / 2 ^ 64 = sig / 2 ^ (64 - B) := by
  have e : 2 ^ 64 = 2 ^ (64 - B) * 2 ^ B := by rw [← Nat.pow_add, show 64 - B + B = 64 by omega]
  rw [e, Nat.mul_div_mul_right _ _ (np2 B)]
theorem div_step (V i : Nat) : V / 2 ^ (64 * i) = V / 2 ^ (64 * (i + 1)) * 2 ^ 64 + V / 2 ^ (64 * i) % 2 ^ 64 := by
  rw [show 64 * (i + 1) = 64 * i + 64 by omega, Nat.pow_add 2 (64 * i), ← Nat.div_div_eq_div_mul]
  have := Nat.div_add_mod (V / 2 ^ (64 * i)) (2 ^ 64)
  omega
theorem top_step (V W i : Nat) (h : V / 2 ^ (64 * (i + 1)) = W / 2 ^ (64 * (i + 1))) (hl : limb V i = limb W i) : V / 2 ^ (64 * i) = W / 2 ^ (64 * i) := by
  unfold limb at hl
  rw [div_step V i, div_step W i, h]; omega
theorem limb_zero (i : Nat) : limb 0 i = 0 := by unfold limb; simp
theorem limbs_top : ∀ (n V W : Nat), V / 2 ^ (64 * n) = W / 2 ^ (64 * n) → (∀ i, i < n → limb V i = limb W i) → V = W
  | 0, V, W, h, _ => by simpa using h
  | n + 1, V, W, h, hl => limbs_top n V W (top_step V W n h (hl n (by omega))) (fun i hi => hl i (by omega))
theorem limbs_ext (n V W : Nat) (hV : V < 2 ^ (64 * n)) (hW : W < 2 ^ (64 * n)) (h : ∀ i, i < n → limb V i = limb W i) : V = W :=
  limbs_top n V W (by rw [Nat.div_eq_of_lt hV, Nat.div_eq_of_lt hW]) h
theorem limbs_zero (n V : Nat) (hV : V < 2 ^ (64 * n)) (h : ∀ i, i < n → limb V i = 0) : V = 0 :=
  limbs_ext n V 0 hV (np2 _) (fun i hi => by rw [h i hi, limb_zero])
/-- The first limb from above that is unlike tells which is below. -/
theorem top_less (V W i : Nat) (h : V / 2 ^ (64 * (i + 1)) = W / 2 ^ (64 * (i + 1))) (hl : limb V i ≠ limb W i) : (V < W ↔ limb V i < limb W i) := by
  have a := div_step V i
  have b := div_step W i
  have hne : limb V i < limb W i ↔ V / 2 ^ (64 * i) < W / 2 ^ (64 * i) := by unfold limb at *; rw [h] at a; omega
  rw [hne]
  constructor
  · intro g
    have := Nat.div_le_div_right (c := 2 ^ (64 * i)) (Nat.le_of_lt g)
    have ne : V / 2 ^ (64 * i) ≠ W / 2 ^ (64 * i) := by intro e; apply hl; unfold limb; rw [e]
    omega
  · intro g
    rcases Nat.lt_or_ge V W with h1 | h1
    · exact h1
    · have := Nat.div_le_div_right (c := 2 ^ (64 * i)) h1; omega
theorem limb_wf (V i : Nat) : (Lit.int .u64 (limb V i)).wf = true := by
  have h := limb_bd V i
  simp only [Lit.wf, Bool.and_eq_true, decide_eq_true_eq]
  exact h
end Go.Proofs.Ytdaikgeellpolaa
