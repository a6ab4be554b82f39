/- Products, products and sums: what they come to (no program here). -/
import Derived.Test.YtianheeefhemhaaAddMath
import Derived.Test.YtianheeefhemhaaNought
namespace Go.Proofs.Ytianheeefhemhaa
open Go.RowKit
set_option linter.unusedVariables false

/-- The sign of a product; is it a nought by an infinity? -/
def sgP (f a b : Int) : Bool := fS f a != fS f b

def badB (f a b : Int) : Bool := (nouB f a && infB f b) || (infB f a && nouB f b)

/-- The amount of a product. -/
def amtP (f a b : Int) : Nat := amtE (unE f a + unE f b) (unM f a * unM f b)

/-- Mul of any bits. -/
def mulE (f mode a b : Int) : Ending :=
  if (nanB f a || nanB f b) = true then excE (nanI f) (sigB f a || sigB f b)
  else if badB f a b = true then excE (nanI f) true
  else if (infB f a || infB f b) = true then excE (infI f (sgP f a b)) false
  else PackE f mode (sgP f a b) (upN (amtP f a b))

/-- Fma of any bits. -/
def fmaE (f mode a b c : Int) : Ending :=
  if (nanB f a || nanB f b || nanB f c || badB f a b) = true then excE (nanI f) (sigB f a || sigB f b || sigB f c || badB f a b)
  else if (infB f a || infB f b) = true then (if (infB f c && (fS f c != sgP f a b)) = true then excE (nanI f) true else excE (infI f (sgP f a b)) false)
  else if infB f c = true then excE (infI f (fS f c)) false
  else finE f mode (sgP f a b) (amtP f a b) (fS f c) (amtE (unE f c) (unM f c))

theorem unM_lt (f x : Int) : unM f x < ((2 ^ (fn f + 1) : Nat) : Int) := by
  have hF := fF_bd f x
  have hh := hid_fn f
  have hp := np2 (fn f)
  have e : 2 ^ (fn f + 1) = 2 * 2 ^ fn f := by rw [Nat.pow_succ]; omega
  unfold unM; (repeat' split) <;> omega

theorem unE_fn (f x : Int) : unE f x + fn f ≤ 127 := by
  have hX := fX_bd f x
  rcases fmt_cases f with ⟨rfl, hf⟩ | ⟨rfl, hf⟩ | ⟨⟨c0, c1⟩, hf⟩ <;> obtain ⟨e1, e2, e3, e4, e5, e6, e7, e8, e9⟩ := hf
  all_goals
    unfold unE
    rw [e4] at hX ⊢
    rw [e6, e2]
    (repeat' split) <;> omega

theorem mul_bd (f a b : Int) : 0 ≤ unM f a * unM f b ∧ unM f a * unM f b < 281474976710656 ∧ (unM f a * unM f b).toNat = (unM f a).toNat * (unM f b).toNat := by
  obtain ⟨a0, a1⟩ := unM_bd f a
  obtain ⟨b0, b1⟩ := unM_bd f b
  have h0 := Int.mul_nonneg a0 b0
  have h1 : unM f a * unM f b ≤ 16777215 * 16777215 := Int.mul_le_mul (by omega) (by omega) b0 (by omega)
  refine ⟨h0, by omega, ?_⟩
  obtain ⟨A, hA⟩ := Int.eq_ofNat_of_zero_le a0
  obtain ⟨B, hB⟩ := Int.eq_ofNat_of_zero_le b0
  rw [hA, hB, ← Int.natCast_mul]; rfl

theorem prod_fit (f a b : Int) : FitN (amtP f a b) 9 := by
  have ha := unM_lt f a
  have hb := unM_lt f b
  obtain ⟨a0, a1⟩ := unM_bd f a
  obtain ⟨b0, b1⟩ := unM_bd f b
  have ea := unE_fn f a
  have eb := unE_fn f b
  obtain ⟨x0, x1⟩ := unE_bd f a
  obtain ⟨y0, y1⟩ := unE_bd f b
  obtain ⟨_, _, hm⟩ := mul_bd f a b
  refine fit_of _ ((fn f + 1) + (fn f + 1) + (unE f a + unE f b + 298).toNat) 9 ?_ (by omega)
  unfold amtP amtE
  rw [hm, Nat.pow_add, Nat.pow_add]
  refine Nat.mul_lt_mul_of_pos_right ?_ (np2 _)
  exact Nat.mul_lt_mul_of_lt_of_le (by omega) (by omega) (np2 _)

/-- What Pack is given of a product is the product. -/
theorem prod_val (f a b : Int) : valN (clampE (unE f a + unE f b)) (unM f a * unM f b) false = upN (amtP f a b) := by
  obtain ⟨x0, x1⟩ := unE_bd f a
  obtain ⟨y0, y1⟩ := unE_bd f b
  have q : ∀ M k : Nat, M * 2 ^ (unE f a + unE f b + 298).toNat * 2 ^ k = M * 2 ^ ((unE f a + unE f b + 298).toNat + k) := fun M k => by rw [Nat.mul_assoc, ← Nat.pow_add]
  unfold valN upN amtP amtE
  rw [clamp_in _ (by omega) (by omega), show (unE f a + unE f b + 10100).toNat = (unE f a + unE f b + 298).toNat + 9802 by omega, Bool.toNat_false, Nat.add_zero]
  exact (q _ 9802).symm

theorem amtP_turn (f a b : Int) : amtP f b a = amtP f a b := by unfold amtP; rw [Int.add_comm (unE f b), Int.mul_comm (unM f b)]

theorem mul_turn (f mode a b : Int) : mulE f mode b a = mulE f mode a b := by
  have h1 : sgP f b a = sgP f a b := by unfold sgP; cases fS f a <;> cases fS f b <;> rfl
  have h2 : badB f b a = badB f a b := by unfold badB; cases nouB f a <;> cases nouB f b <;> cases infB f a <;> cases infB f b <;> rfl
  unfold mulE
  rw [h1, h2, amtP_turn, Bool.or_comm (nanB f b), Bool.or_comm (sigB f b), Bool.or_comm (infB f b)]

/-- A product is nought where one of the two is. -/
theorem amtP_zero (f a b : Int) : amtP f a b = 0 ↔ unM f a = 0 ∨ unM f b = 0 := by
  unfold amtP
  rw [amt_zero _ _ (mul_bd f a b).1, Int.mul_eq_zero]

/-- With a nought of the product's sign behind it, it is the product. -/
theorem fma_nought (f mode a b : Int) : fmaE f mode a b (zerI f (sgP f a b)) = mulE f mode a b := by
  obtain ⟨z1, z2, z3, z4, z5⟩ := zer_parts f (sgP f a b)
  obtain ⟨m1, m2, m3, m4⟩ := nou_parts f _ z1 z2
  unfold fmaE mulE
  rw [m1, m2, m3, m4, z3]
  simp only [Bool.or_false, Bool.false_and]
  by_cases hn : (nanB f a || nanB f b) = true
  · have hb : badB f a b = false := by
      have : clsI f a = 4 ∨ clsI f a = 5 ∨ clsI f b = 4 ∨ clsI f b = 5 := by unfold nanB at hn; simp at hn; omega
      unfold badB nouB infB
      rcases this with h | h | h | h <;> rw [h] <;> simp
    rw [hb, Bool.or_false, Bool.or_false, if_pos hn, if_pos hn]
  · rw [if_neg hn]
    have hn' : (nanB f a || nanB f b) = false := (Bool.not_eq_true _).mp hn
    rw [hn', Bool.false_or]
    by_cases hb : badB f a b = true
    · rw [if_pos hb, if_pos hb, hb]; simp
    · rw [if_neg hb, if_neg hb]
      by_cases hi : (infB f a || infB f b) = true
      · rw [if_pos hi, if_pos hi, if_neg (by decide)]
      · rw [if_neg hi, if_neg hi, if_neg (by decide)]
        by_cases hz : amtP f a b = 0
        · rw [hz, fin_noughts, (up_zero 0).2 rfl, pack_zero_is]
        · rw [fin_like f mode _ _ _ (by omega), Nat.add_zero]
end Go.Proofs.Ytianheeefhemhaa
