/- What the laws of layer 6 lean on: by one, by itself, by noughts and infinities (no program here). -/
import Derived.Test.YtheaeclojljecaaGreatFuMath
import Derived.Test.YtheaeclojljecaaGreatPLaw
namespace Go.Proofs.YtheaeclojljecaaGreat
open Go.RowKit
set_option linter.unusedVariables false
set_option linter.unusedSimpArgs false

theorem divZ_shape (v : Int) (h : 0 ≤ v ∧ v ≤ 4294967295) : ShapeE (divZ v) := ⟨_, _, _, _, _, _, rfl, h.1, h.2⟩

theorem div_shape (f mode a b : Int) : ShapeE (divE f mode a b) := by
  unfold divE quoE
  split
  · exact shape_exc _ _ (nan_bd f)
  · split
    · exact shape_exc _ _ (nan_bd f)
    · split
      · exact shape_exc _ _ (inf_parts f _).2.2
      · split
        · exact shape_exc _ _ (zer_parts f _).2.2.2
        · split
          · exact divZ_shape _ (inf_parts f _).2.2
          · exact shape_pack _ _ _ _
end Go.Proofs.YtheaeclojljecaaGreat
