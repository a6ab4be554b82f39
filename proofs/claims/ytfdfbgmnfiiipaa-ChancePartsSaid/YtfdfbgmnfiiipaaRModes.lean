/- The five modes beside one another (no program here). -/
import Derived.Test.YtfdfbgmnfiiipaaRdMath
namespace Go.Proofs.Ytfdfbgmnfiiipaa
open Go.RowKit
set_option linter.unusedVariables false

/-- Pack answers v, and X of Inexact. -/
def PkIs (f m : Int) (neg : Bool) (V : Nat) (v : Int) (X : Bool) : Prop :=
  ∃ o u, PackE f m neg V = .returned (.tuple #[.int .u32 v, .agg #[.bool false, .bool false, .bool o, .bool u, .bool X]])

/-- V's place, without growing. -/
def baseN (f : Int) (V : Nat) : Nat := dN f V * 2 ^ fn f + keptN f V

def inexB (f : Int) (V : Nat) : Bool := decide (greN f < baseN f V) || catN f V != 0

def zeroN (f : Int) (V : Nat) : Nat := if baseN f V ≤ greN f then baseN f V else greN f

theorem plc_base (f m : Int) (neg : Bool) (V : Nat) : plcN f m neg V = baseN f V + (growB m neg (keptN f V) (catN f V)).toNat := rfl

theorem grow_cat (m : Int) (neg : Bool) (k c : Nat) : (growB m neg k c).toNat ≤ 1 ∧ (c = 0 → (growB m neg k c).toNat = 0) :=
  ⟨Bool.toNat_le _, fun h => by subst h; rw [grow_zero]; rfl⟩

theorem rdX_is (f m : Int) (neg : Bool) (V : Nat) : rdX f m neg V = inexB f V := by
  obtain ⟨a, b⟩ := grow_cat m neg (keptN f V) (catN f V)
  have p := plc_base f m neg V
  unfold rdX rdO inexB
  rw [Bool.eq_iff_iff, Bool.or_eq_true, Bool.or_eq_true, decide_eq_true_eq, decide_eq_true_eq, bne_iff_ne]
  omega

theorem pk_of (f m : Int) (neg : Bool) (V : Nat) (v : Int) (h : rdV f m neg V = v) : PkIs f m neg V v (inexB f V) :=
  ⟨_, _, by rw [← packE_is, h, rdX_is]⟩

theorem mag_zero (f m : Int) (neg : Bool) (V : Nat) (hi : inB m neg = true) (hg : growB m neg (keptN f V) (catN f V) = false) : magN f m neg V = zeroN f V := by
  have p := plc_base f m neg V
  rw [hg] at p
  have p' : plcN f m neg V = baseN f V := by rw [p]; rfl
  unfold magN zeroN
  rw [p', hi]; rfl

theorem mag_other (f m : Int) (neg : Bool) (V : Nat) (hi : inB m neg = false) :
    magN f m neg V = zeroN f V ∨ (inexB f V = true ∧ magN f m neg V = zeroN f V + 1) := by
  obtain ⟨a, b⟩ := grow_cat m neg (keptN f V) (catN f V)
  have p := plc_base f m neg V
  have x : inexB f V = true ↔ greN f < baseN f V ∨ catN f V ≠ 0 := by unfold inexB; rw [Bool.or_eq_true, decide_eq_true_eq, bne_iff_ne]
  rw [x]
  unfold magN zeroN
  rw [hi]
  simp only [Bool.false_eq_true, if_false]
  (repeat' split) <;> omega

theorem mag_away (f m : Int) (neg : Bool) (V : Nat) (hi : inB m neg = false) (hg : growB m neg (keptN f V) (catN f V) = (catN f V != 0)) :
    (inexB f V = false ∧ magN f m neg V = zeroN f V) ∨ (inexB f V = true ∧ magN f m neg V = zeroN f V + 1) := by
  have p := plc_base f m neg V
  have x : inexB f V = true ↔ greN f < baseN f V ∨ catN f V ≠ 0 := by unfold inexB; rw [Bool.or_eq_true, decide_eq_true_eq, bne_iff_ne]
  have g : (catN f V ≠ 0 ∧ (growB m neg (keptN f V) (catN f V)).toNat = 1) ∨ (catN f V = 0 ∧ (growB m neg (keptN f V) (catN f V)).toNat = 0) := by
    rw [hg]
    by_cases c : catN f V = 0
    · right; rw [c]; exact ⟨rfl, rfl⟩
    · left; exact ⟨c, by rw [bne_iff_ne.2 c]; rfl⟩
  have x' : inexB f V = false ↔ ¬ (greN f < baseN f V ∨ catN f V ≠ 0) := by rw [← x]; exact (Bool.not_eq_true _).symm.to_iff
  rw [x, x']
  unfold magN zeroN
  rw [hi]
  simp only [Bool.false_eq_true, if_false]
  (repeat' split) <;> omega

theorem modes5 (f : Int) (neg : Bool) (V : Nat) :
    ∃ (Z : Int) (X : Bool), 0 ≤ Z ∧ Z ≤ 4294967294 ∧ PkIs f 1 neg V Z X ∧ PkIs f (if neg then 2 else 3) neg V Z X
      ∧ ((X = false ∧ PkIs f (if neg then 3 else 2) neg V Z X) ∨ (X = true ∧ PkIs f (if neg then 3 else 2) neg V (Z + 1) X))
      ∧ (PkIs f 0 neg V Z X ∨ (X = true ∧ PkIs f 0 neg V (Z + 1) X)) ∧ (PkIs f 4 neg V Z X ∨ (X = true ∧ PkIs f 4 neg V (Z + 1) X)) := by
  have hz : zeroN f V ≤ greN f := by unfold zeroN; split <;> omega
  have hg := gre_sgb f
  have hs : 0 ≤ zerI f neg ∧ zerI f neg + sgb f ≤ 4294967296 := by unfold zerI sgb; cases neg <;> (repeat' split) <;> decide
  have two : ∀ m, inB m neg = false → PkIs f m neg V (zerI f neg + zeroN f V) (inexB f V) ∨ (inexB f V = true ∧ PkIs f m neg V (zerI f neg + zeroN f V + 1) (inexB f V)) := by
    intro m hi
    rcases mag_other f m neg V hi with h | ⟨x, h⟩
    · left; exact pk_of f m neg V _ (by unfold rdV; rw [h])
    · right; exact ⟨x, pk_of f m neg V _ (by unfold rdV; rw [h]; omega)⟩
  refine ⟨zerI f neg + zeroN f V, inexB f V, by omega, by omega, ?_, ?_, ?_, two 0 (by cases neg <;> rfl), two 4 (by cases neg <;> rfl)⟩
  · exact pk_of f 1 neg V _ (by unfold rdV; rw [mag_zero f 1 neg V rfl rfl])
  · cases neg
    · exact pk_of f 3 false V _ (by unfold rdV; rw [mag_zero f 3 false V rfl (by simp [growB])])
    · exact pk_of f 2 true V _ (by unfold rdV; rw [mag_zero f 2 true V rfl (by simp [growB])])
  · cases neg
    · rcases mag_away f 2 false V rfl (by simp [growB]) with ⟨x, h⟩ | ⟨x, h⟩
      · left; exact ⟨x, pk_of f 2 false V _ (by unfold rdV; rw [h])⟩
      · right; exact ⟨x, pk_of f 2 false V _ (by unfold rdV; rw [h]; omega)⟩
    · rcases mag_away f 3 true V rfl (by simp [growB]) with ⟨x, h⟩ | ⟨x, h⟩
      · left; exact ⟨x, pk_of f 3 true V _ (by unfold rdV; rw [h])⟩
      · right; exact ⟨x, pk_of f 3 true V _ (by unfold rdV; rw [h]; omega)⟩
end Go.Proofs.Ytfdfbgmnfiiipaa
