/- Whole numbers, and back, as plain numbers (no program here). -/
import Derived.Test.YtbmcohikblldjaaRdRef
import Derived.Test.YtbmcohikblldjaaRNum
import Derived.Test.YtbmcohikblldjaaNans
namespace Go.Proofs.Ytbmcohikblldjaa
open Go.RowKit
set_option linter.unusedVariables false
set_option linter.unusedSimpArgs false

/-- A number and five flags of which the last may be up. -/
def inxE (v : Int) (x : Bool) : Ending := .returned (.tuple #[.int .u32 v, .agg #[.bool false, .bool false, .bool false, .bool false, .bool x]])

/-- A finite number's amount, made whole by mode; whether that isn't it. -/
def whN (f mode a : Int) : Nat :=
  if 0 ≤ unE f a then (unM f a).toNat * 2 ^ (unE f a).toNat
  else (unM f a).toNat / 2 ^ (-unE f a).toNat + (growB mode (fS f a) ((unM f a).toNat / 2 ^ (-unE f a).toNat) (catU (-unE f a).toNat (unM f a).toNat)).toNat

def whX (f a : Int) : Bool := decide (unE f a < 0) && catU (-unE f a).toNat (unM f a).toNat != 0

/-- FromInt of any number. -/
def fromE (f mode v : Int) : Ending := if v < 0 then PackE f mode true (valN (clampE 0) (-v) false) else PackE f mode false (valN (clampE 0) v false)

/-- What 32 signed bits haven't. -/
def noInt (f mode a : Int) : Bool := !finI f a || decide (2147483648 < whN f mode a) || (decide (whN f mode a = 2147483648) && !fS f a)

def toE (f mode a : Int) : Ending :=
  if noInt f mode a = true then .returned (.tuple #[.int .i32 (-2147483648), .agg #[.bool true, .bool false, .bool false, .bool false, .bool false]])
  else .returned (.tuple #[.int .i32 (if fS f a then -(whN f mode a : Int) else (whN f mode a : Int)), .agg #[.bool false, .bool false, .bool false, .bool false, .bool (whX f a)]])

def wholE (f mode a : Int) : Ending :=
  if nanB f a = true then .returned (.tuple #[.int .u32 (nanI f), .agg #[.bool (sigB f a), .bool false, .bool false, .bool false, .bool false]])
  else if (!finI f a || decide (0 ≤ unE f a)) = true then inxE (bits .and .u32 a (msk f)) false
  else inxE (rdV f mode (fS f a) (valN (clampE 0) (whN f mode a) false)) (whX f a)

def limI (n : Int) : Int := if n < -5000 then -5000 else if 5000 < n then 5000 else n

def scaE (f mode a n : Int) : Ending :=
  if nanB f a = true then .returned (.tuple #[.int .u32 (nanI f), .agg #[.bool (sigB f a), .bool false, .bool false, .bool false, .bool false]])
  else if finI f a = false then inxE (bits .and .u32 a (msk f)) false
  else PackE f mode (fS f a) (valN (clampE (unE f a + limI n)) (unM f a) false)

theorem lim_bd (n : Int) : -5000 ≤ limI n ∧ limI n ≤ 5000 := by unfold limI; (repeat' split) <;> omega

/-- What is left of a unit does not hang on how far all is moved. -/
theorem cat_scale (s E M : Nat) : catU (s + E) (M * 2 ^ E) = catU s M := by
  have hE := p2 E
  unfold catU
  rw [Nat.pow_add, Nat.mul_mod_mul_right]
  have e1 : M % 2 ^ s * 2 ^ E = 0 ↔ M % 2 ^ s = 0 := by
    constructor
    · intro h; rcases Nat.mul_eq_zero.1 h with g | g <;> omega
    · intro h; rw [h, Nat.zero_mul]
  have e2 : 2 * (M % 2 ^ s * 2 ^ E) < 2 ^ s * 2 ^ E ↔ 2 * (M % 2 ^ s) < 2 ^ s := by
    rw [← Nat.mul_assoc]; exact Nat.mul_lt_mul_right hE
  have e3 : 2 * (M % 2 ^ s * 2 ^ E) = 2 ^ s * 2 ^ E ↔ 2 * (M % 2 ^ s) = 2 ^ s := by
    rw [← Nat.mul_assoc]; exact Nat.mul_left_inj (by omega)
  simp only [e1, e2, e3]

/-- What the reference's divide tells of a number with s bits behind its point. -/
theorem dv_whole (M s : Nat) (hM : M < 16777216) (s1 : 1 ≤ s) (s2 : s ≤ 200) :
    dvK (M : Int) s = ((M / 2 ^ s : Nat) : Int) ∧ dvH (M : Int) s = decide (2 ≤ catU s M) ∧ dvR (M : Int) s = decide (catU s M % 2 = 1) := by
  obtain ⟨a, b, c⟩ := dv_val M 100 (s + 99) (s : Int) false (by omega) (by omega) (by omega) (by omega) (fun h => by
    rw [show (-((s : Int) - 1)).toNat = 0 by omega]; omega)
  simp only [Bool.toNat_false, Nat.add_zero, show s + 99 + 1 = s + 100 by omega] at a b c
  rw [cat_scale] at b c
  rw [Nat.pow_add, Nat.mul_div_mul_right _ _ (p2 100)] at a
  rw [Bool.or_false] at c
  exact ⟨a, b, c⟩

/-- The amount that the reference tells: one that is capped where it is greater than all. -/
def unU (f mode a : Int) : Int := if 39 < unE f a ∧ 0 < unM f a then 4611686018427387904 else (whN f mode a : Int)

theorem whn_up (f mode a : Int) (h : 0 ≤ unE f a) : (whN f mode a : Int) = unM f a * 2 ^ (unE f a).toNat := by
  unfold whN
  rw [if_pos h, Int.natCast_mul, ← pow2_cast, Int.toNat_of_nonneg (unM_bd f a).1]

theorem whn_small (f mode a : Int) (h : unE f a < 0) : whN f mode a ≤ 16777216 := by
  obtain ⟨m0, m1⟩ := unM_bd f a
  have hs : 2 ≤ 2 ^ (-unE f a).toNat := Nat.pow_le_pow_right (n := 2) (by decide) (show 1 ≤ (-unE f a).toNat by omega)
  unfold whN
  rw [if_neg (by omega)]
  have := Bool.toNat_le (growB mode (fS f a) ((unM f a).toNat / 2 ^ (-unE f a).toNat) (catU (-unE f a).toNat (unM f a).toNat))
  have : (unM f a).toNat / 2 ^ (-unE f a).toNat ≤ (unM f a).toNat := Nat.div_le_self _ _
  omega

theorem unu_is (f mode a : Int) : 0 ≤ unU f mode a ∧ unU f mode a ≤ 9223372036854775807 ∧ (2147483648 < unU f mode a ↔ 2147483648 < whN f mode a) ∧ (unU f mode a = 2147483648 ↔ whN f mode a = 2147483648)
    ∧ (unU f mode a ≤ 2147483648 → unU f mode a = (whN f mode a : Int)) := by
  obtain ⟨m0, m1⟩ := unM_bd f a
  unfold unU
  by_cases c : 39 < unE f a ∧ 0 < unM f a
  · rw [if_pos c]
    have h := whn_up f mode a (by omega)
    have hp : (2 : Int) ^ 40 ≤ 2 ^ (unE f a).toNat := pow2_le (by omega)
    have : 1 * 2 ^ (unE f a).toNat ≤ unM f a * 2 ^ (unE f a).toNat := Int.mul_le_mul_of_nonneg_right (by omega) (Int.le_of_lt (pow2_pos _))
    have e40 : (2 : Int) ^ 40 = 1099511627776 := by decide
    refine ⟨by omega, by omega, by omega, by omega, by omega⟩
  · rw [if_neg c]
    have hb : whN f mode a ≤ 9223372036854775807 := by
      by_cases g : unE f a < 0
      · have := whn_small f mode a g; omega
      · have h := whn_up f mode a (by omega)
        by_cases z : unM f a = 0
        · rw [z, Int.zero_mul] at h; omega
        · have hp : (2 : Int) ^ (unE f a).toNat ≤ 2 ^ 39 := pow2_le (by omega)
          have : unM f a * 2 ^ (unE f a).toNat ≤ 16777215 * 2 ^ 39 := Int.mul_le_mul (by omega) hp (Int.le_of_lt (pow2_pos _)) (by omega)
          have e39 : (2 : Int) ^ 39 = 549755813888 := by decide
          omega
    refine ⟨by omega, by omega, by omega, by omega, fun _ => rfl⟩

/-- Five flags and a number, whatever they are. -/
theorem five_shape (k : IntKind) (v : Int) (a b c d e : Bool) : ∃ v' g1 g2 g3 g4 g5, Ending.returned (.tuple #[.int k v, .agg #[.bool a, .bool b, .bool c, .bool d, .bool e]]) = .returned (.tuple #[.int k v', .agg #[.bool g1, .bool g2, .bool g3, .bool g4, .bool g5]]) := ⟨_, _, _, _, _, _, rfl⟩

theorem from_shape (f mode v : Int) : ∃ v' g1 g2 g3 g4 g5, fromE f mode v = .returned (.tuple #[.int .u32 v', .agg #[.bool g1, .bool g2, .bool g3, .bool g4, .bool g5]]) := by
  unfold fromE; split <;> exact five_shape _ _ _ _ _ _ _

theorem to_shape (f mode a : Int) : ∃ v' g1 g2 g3 g4 g5, toE f mode a = .returned (.tuple #[.int .i32 v', .agg #[.bool g1, .bool g2, .bool g3, .bool g4, .bool g5]]) := by
  unfold toE; split <;> exact five_shape _ _ _ _ _ _ _

theorem whol_shape (f mode a : Int) : ∃ v' g1 g2 g3 g4 g5, wholE f mode a = .returned (.tuple #[.int .u32 v', .agg #[.bool g1, .bool g2, .bool g3, .bool g4, .bool g5]]) := by
  unfold wholE inxE; (repeat' split) <;> exact five_shape _ _ _ _ _ _ _

theorem sca_shape (f mode a n : Int) : ∃ v' g1 g2 g3 g4 g5, scaE f mode a n = .returned (.tuple #[.int .u32 v', .agg #[.bool g1, .bool g2, .bool g3, .bool g4, .bool g5]]) := by
  unfold scaE inxE; (repeat' split) <;> exact five_shape _ _ _ _ _ _ _
end Go.Proofs.Ytbmcohikblldjaa
