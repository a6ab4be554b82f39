/- Contracts of the reference's wide numbers: spread, nought, below. -/
import Derived.Test.YtheaeclojljecaaRows
import Derived.Test.YtheaeclojljecaaRFmt
import Derived.Test.YtheaeclojljecaaWorld
import Derived.Test.YtheaeclojljecaaLimbs
import Derived.Lib.Hide
import Derived.Handy
import Derived.DeepKeys
import Derived.KernelRfl
import Derived.Deep.QuietTactic
import Derived.BigQuiet
namespace Go.Proofs.Ytheaeclojljecaa
open Go.RowKit
set_option linter.unusedVariables false
set_option linter.unusedSimpArgs false

/-! Contracts of the reference's wide numbers. -/
/-- One result, in memory. -/
theorem results_cell1 {fn : Func} {p : Tmp} {ty : TypeId} (h : fn.results = #[.cell p ty]) (tmps : Array Value) (P : Program) (w : World) :
    (results fn tmps).run P w = ((asAddr (tmps.getD p undef)).run P w).andThen fun a w₁ => (loadVar ty a).run P w₁ := by
  simp only [results, h]
  simp [Sem.run_bind, Result.andThen]

/-! Contracts of the reference's wide numbers: which is below. -/
/-- All limbs from k on. -/
def topN (V k : Nat) : Nat := V / 2 ^ (64 * k)

def BelowRel (V W : Nat) (W0 : World) (i : Value) (wr : World) : Prop :=
  ∃ k m : Nat, k ≤ 10 ∧ i = .int .i64 ((k : Int) - 1) ∧ wr = W0.drewN m ∧ topN V k = topN W k

theorem top_ten (n V W : Nat) (hV : V < 2 ^ (64 * n)) (hW : W < 2 ^ (64 * n)) : topN V n = topN W n := by
  unfold topN
  rw [Nat.div_eq_of_lt hV, Nat.div_eq_of_lt hW]

theorem topN_step (V W i : Nat) (h : topN V (i + 1) = topN W (i + 1)) (hl : limb V i = limb W i) : topN V i = topN W i := top_step V W i h hl

theorem topN_less (V W i : Nat) (h : topN V (i + 1) = topN W (i + 1)) (hl : limb V i ≠ limb W i) : (V < W ↔ limb V i < limb W i) := top_less V W i h hl

end Go.Proofs.Ytheaeclojljecaa
