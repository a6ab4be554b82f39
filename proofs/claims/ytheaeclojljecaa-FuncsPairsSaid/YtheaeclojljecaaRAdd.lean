/- The contract of the reference's Add. (Written by gen7.py.) -/
import Derived.Test.YtheaeclojljecaaRows
import Derived.Test.YtheaeclojljecaaRFmt
import Derived.Test.YtheaeclojljecaaWide
import Derived.Test.YtheaeclojljecaaNans
import Derived.Test.YtheaeclojljecaaTotal
import Derived.Test.YtheaeclojljecaaAddMath
import Derived.Test.YtheaeclojljecaaWorld
namespace Go.Proofs.Ytheaeclojljecaa
open Go.RowKit
set_option linter.unusedVariables false
set_option linter.unusedSimpArgs false

theorem tot_shape (f mode : Int) (n : Bool) (V : Nat) (m : Bool) (W : Nat) : ∃ (v : Int) (b1 b2 b3 b4 b5 : Bool), totE f mode n V m W = .returned (.tuple #[.int .u32 v, .agg #[.bool b1, .bool b2, .bool b3, .bool b4, .bool b5]]) := by
  unfold totE excE PackE
  (repeat' split) <;> exact ⟨_, _, _, _, _, _, rfl⟩

theorem words_cells (W : World) (a b : Value) (C : Array Value) (t u : TypeId) :
    ((W.alloc (.cells C t)).alloc (.cells #[a, b] u)).cell? ⟨W.heap.size + 1, 0, none⟩ = some a
    ∧ ((W.alloc (.cells C t)).alloc (.cells #[a, b] u)).cell? ⟨W.heap.size + 1, 1, none⟩ = some b := by
  refine ⟨?_, ?_⟩ <;> go_simp

end Go.Proofs.Ytheaeclojljecaa
