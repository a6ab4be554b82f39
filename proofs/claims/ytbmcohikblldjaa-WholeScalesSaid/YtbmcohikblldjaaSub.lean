/- Contracts of the differences: package sum's, the reference's. -/
import Derived.Test.YtbmcohikblldjaaAdd
import Derived.Test.YtbmcohikblldjaaRAdd
namespace Go.Proofs.Ytbmcohikblldjaa
open Go.RowKit
set_option linter.unusedVariables false
set_option linter.unusedSimpArgs false

theorem add_shape (f mode a b : Int) : ∃ (v : Int) (b1 b2 b3 b4 b5 : Bool), addE f mode a b = .returned (.tuple #[.int .u32 v, .agg #[.bool b1, .bool b2, .bool b3, .bool b4, .bool b5]]) := by
  unfold addE
  (repeat' split)
  · exact ⟨_, _, _, _, _, _, rfl⟩
  · exact ⟨_, _, _, _, _, _, rfl⟩
  · exact ⟨_, _, _, _, _, _, rfl⟩
  · exact ⟨_, _, _, _, _, _, rfl⟩
  · exact fin_shape _ _ _ _ _ _

/-- Sub of any bits. -/
def subE (f mode a b : Int) : Ending := addE f mode a (xorI f b)

theorem one_cell (W : World) (a : Value) (u : TypeId) : (W.alloc (.cells #[a] u)).cell? ⟨W.heap.size, 0, none⟩ = some a := by go_simp

end Go.Proofs.Ytbmcohikblldjaa
