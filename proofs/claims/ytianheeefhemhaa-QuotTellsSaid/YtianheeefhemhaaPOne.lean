/- Contracts of package prod: classes asked, a number's parts, a product's, a number raised. -/
import Derived.Test.YtianheeefhemhaaRows
import Derived.Test.YtianheeefhemhaaFmt
import Derived.Test.YtianheeefhemhaaBits
import Derived.Test.YtianheeefhemhaaWorld
import Derived.Test.YtianheeefhemhaaLimbs
import Derived.KernelRfl
import Derived.StillTailTactics
namespace Go.Proofs.Ytianheeefhemhaa
open Go.RowKit
set_option linter.unusedVariables false
set_option linter.unusedSimpArgs false

/-- Block b holds a number's parts. -/
structure PartAt (b : Nat) (n : Bool) (e M : Int) (W : World) : Prop where
  lies : b < W.heap.size
  c0 : W.cell? ⟨b, 0, none⟩ = some (.bool n)
  c1 : W.cell? ⟨b, 1, none⟩ = some (.int .i64 e)
  c2 : W.cell? ⟨b, 2, none⟩ = some (.int .u64 M)
  z0 : W.frozen? ⟨b, 0, none⟩ = false
  z1 : W.frozen? ⟨b, 1, none⟩ = false
  z2 : W.frozen? ⟨b, 2, none⟩ = false

theorem PartAt.grown {b : Nat} {n : Bool} {e M : Int} {W W' : World} (h : PartAt b n e M W) (g : Grown W W') : PartAt b n e M W' :=
  ⟨Nat.lt_of_lt_of_le h.lies g.2.2, grown_cell g h.c0 h.lies, grown_cell g h.c1 h.lies, grown_cell g h.c2 h.lies,
    by rw [g.2.1]; exact h.z0, by rw [g.2.1]; exact h.z1, by rw [g.2.1]; exact h.z2⟩

theorem part_new (w : World) (n : Bool) (e M : Int) (t : TypeId) : PartAt w.heap.size n e M (w.alloc (.cells #[.bool n, .int .i64 e, .int .u64 M] t)) := by
  refine ⟨by show w.heap.size < (w.heap.push _).size; simp, ?_, ?_, ?_, ?_, ?_, ?_⟩
  all_goals go_simp

theorem PartAt.under1 {b : Nat} {n : Bool} {e M : Int} {W : World} (h : PartAt b n e M W) (C : Array Value) (t : TypeId) : PartAt b n e M (W.alloc (.cells C t)) :=
  h.grown (Grown.alloc (Grown.refl _) _ _)

theorem cells2 (W : World) (a b : Value) (u : TypeId) :
    (W.alloc (.cells #[a, b] u)).cell? ⟨W.heap.size, 0, none⟩ = some a ∧ (W.alloc (.cells #[a, b] u)).cell? ⟨W.heap.size, 1, none⟩ = some b := by
  refine ⟨?_, ?_⟩ <;> go_simp

theorem cells3 (W : World) (a b c : Value) (u : TypeId) :
    (W.alloc (.cells #[a, b, c] u)).cell? ⟨W.heap.size, 0, none⟩ = some a ∧ (W.alloc (.cells #[a, b, c] u)).cell? ⟨W.heap.size, 1, none⟩ = some b ∧ (W.alloc (.cells #[a, b, c] u)).cell? ⟨W.heap.size, 2, none⟩ = some c := by
  refine ⟨?_, ?_, ?_⟩ <;> go_simp

theorem cells2b (W : World) (C : Array Value) (t : TypeId) (a b : Value) (u : TypeId) :
    ((W.alloc (.cells C t)).alloc (.cells #[a, b] u)).cell? ⟨W.heap.size + 1, 0, none⟩ = some a ∧ ((W.alloc (.cells C t)).alloc (.cells #[a, b] u)).cell? ⟨W.heap.size + 1, 1, none⟩ = some b := by
  refine ⟨?_, ?_⟩ <;> go_simp

theorem cells3b (W : World) (C : Array Value) (t : TypeId) (a b c : Value) (u : TypeId) :
    ((W.alloc (.cells C t)).alloc (.cells #[a, b, c] u)).cell? ⟨W.heap.size + 1, 0, none⟩ = some a ∧ ((W.alloc (.cells C t)).alloc (.cells #[a, b, c] u)).cell? ⟨W.heap.size + 1, 1, none⟩ = some b ∧ ((W.alloc (.cells C t)).alloc (.cells #[a, b, c] u)).cell? ⟨W.heap.size + 1, 2, none⟩ = some c := by
  refine ⟨?_, ?_, ?_⟩ <;> go_simp

end Go.Proofs.Ytianheeefhemhaa
