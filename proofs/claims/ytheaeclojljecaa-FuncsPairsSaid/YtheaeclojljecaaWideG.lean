/- Contracts of the reference's wide numbers: differences, the greater one ahead. (Written by gen4.py.) Contracts of the reference's wide numbers: rounded. -/
import Derived.Test.YtheaeclojljecaaRows
import Derived.Test.YtheaeclojljecaaRFmt
import Derived.Test.YtheaeclojljecaaWorld
import Derived.Test.YtheaeclojljecaaWideE
import Derived.Test.YtheaeclojljecaaLimbs
import Derived.Lib.Hide
import Derived.Handy
import Derived.Deep.QuietTactic
import Derived.BigQuiet
import Derived.Test.YtheaeclojljecaaRRdT
namespace Go.Proofs.Ytheaeclojljecaa
open Go.RowKit
set_option linter.unusedVariables false
set_option linter.unusedSimpArgs false

theorem ten_cases {i : Nat} (h : i < 10) : i = 0 ∨ i = 1 ∨ i = 2 ∨ i = 3 ∨ i = 4 ∨ i = 5 ∨ i = 6 ∨ i = 7 ∨ i = 8 ∨ i = 9 := by omega

theorem wide_cells (w : World) (n : Bool) (V : Nat) (t u : TypeId) (E : Array Value) (i : Nat) (h : i < 10) :
    ((w.alloc (.cells (wideO n V) t)).alloc (.cells E u)).cell? ⟨w.heap.size, 1 + i, none⟩ = some (.int .u64 (limb V i)) := by
  rcases ten_cases h with rfl | rfl | rfl | rfl | rfl | rfl | rfl | rfl | rfl | rfl <;> (unfold wideO; go_simp)

def MoreRel (V j : Nat) (b0 : Bool) (W : World) (m i : Value) (wr : World) : Prop :=
  ∃ (q d : Nat) (mq : Bool), q ≤ j ∧ i = .int .i64 q ∧ m = .bool mq ∧ mq = (b0 || lowB V q) ∧ wr = W.drewN d

theorem more_next {V q : Nat} {b0 mq : Bool} (h : mq = (b0 || lowB V q)) : (mq || (limb V q != 0)) = (b0 || lowB V (q + 1)) := by
  rw [h, low_next, Bool.or_assoc]

end Go.Proofs.Ytheaeclojljecaa
