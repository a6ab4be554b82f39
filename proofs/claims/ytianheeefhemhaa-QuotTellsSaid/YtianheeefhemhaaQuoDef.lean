/- What quotients of any bits are (no program here). -/
import Derived.Test.YtianheeefhemhaaQuoMath
import Derived.Test.YtianheeefhemhaaFuMath
namespace Go.Proofs.Ytianheeefhemhaa
open Go.RowKit
set_option linter.unusedVariables false
set_option linter.unusedSimpArgs false

/-- A number, and that it was divided by nought. -/
def divZ (v : Int) : Ending := .returned (.tuple #[.int .u32 v, .agg #[.bool false, .bool true, .bool false, .bool false, .bool false]])

theorem divZ_is (v : Int) : .returned (.tuple #[.int .u32 v, .agg #[.bool false, .bool true, .bool false, .bool false, .bool false]]) = divZ v := rfl

/-- Div of any bits. -/
def divE (f mode a b : Int) : Ending :=
  if (nanB f a || nanB f b) = true then excE (nanI f) (sigB f a || sigB f b)
  else if (nouB f a && nouB f b || infB f a && infB f b) = true then excE (nanI f) true
  else if infB f a = true then excE (infI f (sgP f a b)) false
  else if (infB f b || nouB f a) = true then excE (zerI f (sgP f a b)) false
  else if nouB f b = true then divZ (infI f (sgP f a b))
  else quoE f mode (sgP f a b) (unE f a - unE f b) (unM f a).toNat (unM f b).toNat

theorem num_pos (f a : Int) (h : nanB f a = false) (z : nouB f a = false) (i : infB f a = false) : 0 < unM f a := by
  have n := nou_is f a (fin_of f a h i)
  rw [amt_zero _ _ (unM_bd f a).1] at n
  have := (unM_bd f a).1
  have : unM f a ≠ 0 := fun g => by rw [n.2 g] at z; exact absurd z (by decide)
  omega

/-- A number moved until it has 24 bits. -/
structure UpTo (M : Int) (i : Nat) : Prop where
  lo : 0 < M * 2 ^ i
  hi : M * 2 ^ i < 16777216

theorem upto_zero (M : Int) (h0 : 0 < M) (h1 : M < 16777216) : UpTo M 0 := ⟨by omega, by omega⟩

theorem upto_next (M : Int) (i : Nat) (h : UpTo M i) (c : M * 2 ^ i < 8388608) : UpTo M (i + 1) ∧ IntKind.u64.wrap (M * 2 ^ i * 2) = M * 2 ^ (i + 1) := by
  obtain ⟨a, b⟩ := h
  have e : M * 2 ^ (i + 1) = M * 2 ^ i * 2 := by rw [Int.pow_succ, Int.mul_assoc]
  exact ⟨⟨by omega, by omega⟩, by rw [e]; exact u64w _ (by omega) (by omega)⟩

/-- What the reference hands to Pack is the quotient. -/
theorem rquo_is (f mode : Int) (s : Bool) (x y M K : Int) (i j : Nat) (m0 : 0 < M) (k0 : 0 < K) (hx : -200 ≤ x) (hx1 : x ≤ 200) (hy : -200 ≤ y) (hy1 : y ≤ 200) (hi : i ≤ 23) (hj : j ≤ 23) (hM : 8388608 ≤ M * 2 ^ i) (hM2 : M * 2 ^ i < 16777216) (hK : 8388608 ≤ K * 2 ^ j) (hK2 : K * 2 ^ j < 16777216) :
    PackE f mode s (valN (clampE (x - (i : Int) - (y - (j : Int)) - 40)) (M * 2 ^ i * 1099511627776 / (K * 2 ^ j)) (decide (M * 2 ^ i * 1099511627776 % (K * 2 ^ j) ≠ 0))) = quoE f mode s (x - y) M.toNat K.toNat := by
  obtain ⟨A, rfl⟩ := Int.eq_ofNat_of_zero_le (Int.le_of_lt m0)
  obtain ⟨B, rfl⟩ := Int.eq_ofNat_of_zero_le (Int.le_of_lt k0)
  rw [Int.toNat_natCast, Int.toNat_natCast]
  rw [pow2_cast, ← Int.natCast_mul] at hM hM2
  rw [pow2_cast, ← Int.natCast_mul] at hK hK2
  obtain ⟨q1, q2⟩ := quo_scale A B i j 40 (by omega) (by omega)
  have hb : 2 ^ (fn f + 3) ≤ quoN A B (i + 40 - j) := by
    rw [← q1]
    unfold quoN
    have h26 : 2 ^ (fn f + 3) ≤ 67108864 := by
      have h : 2 ^ (fn f + 3) ≤ 2 ^ 26 := Nat.pow_le_pow_right (by decide) (by have := fn_bd f; omega)
      exact h
    generalize A * 2 ^ i = P at hM hM2 ⊢
    generalize B * 2 ^ j = R at hK hK2 ⊢
    refine Nat.le_trans h26 ((Nat.le_div_iff_mul_le (by omega)).2 ?_)
    rw [show (2 : Nat) ^ 40 = 1099511627776 from rfl]
    omega
  have h := quo_is f mode s (x - y) A B (i + 40 - j) (by omega) (by omega) (by omega) (by omega) hb
  rw [← h, ← q1, ← q2]
  have e1 : (A : Int) * 2 ^ i * 1099511627776 / ((B : Int) * 2 ^ j) = ((quoN (A * 2 ^ i) (B * 2 ^ j) 40 : Nat) : Int) := by
    unfold quoN
    rw [pow2_cast i, pow2_cast j, ← Int.natCast_mul, ← Int.natCast_mul, show (1099511627776 : Int) = ((2 ^ 40 : Nat) : Int) from rfl, ← Int.natCast_mul, ← Int.natCast_ediv]
  have e2 : decide ((A : Int) * 2 ^ i * 1099511627776 % ((B : Int) * 2 ^ j) ≠ 0) = quoB (A * 2 ^ i) (B * 2 ^ j) 40 := by
    unfold quoB
    rw [pow2_cast i, pow2_cast j, ← Int.natCast_mul, ← Int.natCast_mul, show (1099511627776 : Int) = ((2 ^ 40 : Nat) : Int) from rfl, ← Int.natCast_mul, ← Int.natCast_emod]
    congr 1
    rw [eq_iff_iff]; omega
  rw [e1, e2, show x - (i : Int) - (y - (j : Int)) - 40 = x - y - ((i + 40 - j : Nat) : Int) by omega]

/-! Roots of any bits. -/
/-- M times 2 to x as a number times a power of four. -/
def evM (x : Int) (M : Nat) : Nat := if x % 2 = 0 then M else 2 * M

def evX (x : Int) : Int := if x % 2 = 0 then x / 2 else (x - 1) / 2

def rooN (M k : Nat) : Nat := isq (M * 4 ^ k)

def rooB (M k : Nat) : Bool := decide (rooN M k * rooN M k ≠ M * 4 ^ k)

theorem roo_root (M k : Nat) : IsRoot (M * 4 ^ k) (rooN M k) := isq_le _

/-- The root of M times 2 to x, rounded. -/
def rooE (f mode x : Int) (M : Nat) : Ending := PackE f mode false (valN (clampE (evX x - 60)) (rooN (evM x M) 60 : Int) (rooB (evM x M) 60))

/-- Sqrt of any bits. -/
def sqrE (f mode a : Int) : Ending :=
  if nanB f a = true then excE (nanI f) (sigB f a)
  else if nouB f a = true then excE (zerI f (fS f a)) false
  else if fS f a = true then excE (nanI f) true
  else if infB f a = true then excE (infI f false) false
  else rooE f mode (unE f a) (unM f a).toNat

/-- What is handed to Pack of a number that is moved by i is the root. -/
theorem rroo_is (f mode : Int) (x M P y : Int) (i : Nat) (m0 : 0 < M) (hx : -2000 ≤ x) (hx1 : x ≤ 2000) (hi : i ≤ 119) (hP : P = M * 2 ^ i) (hy : y = x - (i : Int)) (he : y % 2 = 0) (h61 : 2305843009213693952 ≤ P) :
    PackE f mode false (valN (clampE (y / 2)) (rootI P) (!(rootI P * rootI P == P))) = rooE f mode x M.toNat := by
  obtain ⟨A, rfl⟩ := Int.eq_ofNat_of_zero_le (Int.le_of_lt m0)
  rw [Int.toNat_natCast]
  obtain ⟨k, hk⟩ : ∃ k : Nat, k = i / 2 := ⟨_, rfl⟩
  have hev : A * 2 ^ i = evM x A * 4 ^ k := by
    unfold evM
    have h4 : (4 : Nat) ^ k = 2 ^ (2 * k) := by rw [Nat.pow_mul]
    rw [h4]
    by_cases c : x % 2 = 0
    · rw [if_pos c, show 2 * k = i by omega]
    · rw [if_neg c, show i = 2 * k + 1 by omega, Nat.pow_succ]
      generalize 2 ^ (2 * k) = q
      grind
  have hP2 : P = ((evM x A * 4 ^ k : Nat) : Int) := by rw [hP, pow2_cast, ← Int.natCast_mul, hev]
  have hr : rootI P = ((rooN (evM x A) k : Nat) : Int) := by
    unfold rootI rooN; rw [hP2, Int.toNat_natCast]
  have hb : (!(rootI P * rootI P == P)) = decide (rooN (evM x A) k * rooN (evM x A) k ≠ evM x A * 4 ^ k) := by
    rw [hr, hP2, ← Int.natCast_mul, Bool.eq_iff_iff]
    simp only [Bool.not_eq_true', beq_eq_false_iff_ne, ne_eq, decide_eq_true_eq]
    omega
  have hxy : y / 2 = evX x - (k : Int) := by
    unfold evX; split <;> omega
  have hroot := roo_root (evM x A) k
  have hbits : 2 ^ (fn f + 3) ≤ rooN (evM x A) k := by
    have h26 : 2 ^ (fn f + 3) ≤ 67108864 := by
      have h : 2 ^ (fn f + 3) ≤ 2 ^ 26 := Nat.pow_le_pow_right (by decide) (by have := fn_bd f; omega)
      exact h
    refine Nat.le_trans h26 (Nat.le_of_not_lt fun g => ?_)
    have : (rooN (evM x A) k + 1) * (rooN (evM x A) k + 1) ≤ 67108864 * 67108864 := Nat.mul_le_mul g g
    have := hroot.2
    omega
  have hE : -2000 ≤ evX x ∧ evX x ≤ 2000 := by unfold evX; split <;> omega
  obtain ⟨d, hd⟩ : ∃ d, k + d = 60 := ⟨60 - k, by omega⟩
  have h := roo_is f mode false (evX x) (evM x A) (rooN (evM x A) k) (rooN (evM x A) 60) k d hroot (by rw [hd]; exact roo_root _ _) (by omega) (by omega) hbits
  rw [hb, hr, hxy, h, hd]
  unfold rooE rooB
  rw [show evX x - (k : Int) - (d : Int) = evX x - 60 by omega]
end Go.Proofs.Ytianheeefhemhaa
