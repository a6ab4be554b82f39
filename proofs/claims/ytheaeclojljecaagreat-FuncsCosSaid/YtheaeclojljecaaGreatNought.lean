/- Sums with noughts; mild numbers' parts (no program here). -/
import Derived.Test.YtheaeclojljecaaGreatAddMath
import Derived.Test.YtheaeclojljecaaGreatMild
namespace Go.Proofs.YtheaeclojljecaaGreat
open Go.RowKit
set_option linter.unusedVariables false
set_option linter.unusedSimpArgs false

theorem nou_parts (f b : Int) (hX : fX f b = 0) (hF : fF f b = 0) : nanB f b = false ∧ sigB f b = false ∧ infB f b = false ∧ amtE (unE f b) (unM f b) = 0 := by
  have hc : clsI f b = 0 := by unfold clsI; rw [if_pos hX, if_pos hF]
  have ht := topx_pos f
  refine ⟨by unfold nanB; rw [hc]; rfl, by unfold sigB; rw [hc]; rfl, by unfold infB; rw [hc]; rfl, ?_⟩
  rw [amt_zero _ _ (unM_bd f b).1]
  unfold unM
  rw [if_neg (by omega), if_pos hX]; exact hF

theorem up_num (f x : Int) : upN (amtE (unE f x) (unM f x)) = numN f x := by
  obtain ⟨e0, e1⟩ := unE_bd f x
  have q : ∀ k : Nat, (unM f x).toNat * 2 ^ (unE f x + 298).toNat * 2 ^ k = (unM f x).toNat * 2 ^ ((unE f x + 298).toNat + k) := fun k => by rw [Nat.mul_assoc, ← Nat.pow_add]
  unfold upN amtE numN
  rw [show (unE f x + 10100).toNat = (unE f x + 298).toNat + 9802 by omega]
  exact q 9802
end Go.Proofs.YtheaeclojljecaaGreat
