/- A result's block of flags under two blocks more. No program. -/
import Derived.Test.YtdaikgeellpolaaExc
namespace Go.Proofs.Ytdaikgeellpolaa
open Go.RowKit
theorem ExcAt.under1 {b : Nat} {W : World} (h : ExcAt b W) (C : Array Value) (t : TypeId) : ExcAt b (W.alloc (.cells C t)) :=
  h.grown (Grown.alloc (Grown.refl _) _ _)
theorem ExcAt.under2 {b : Nat} {W : World} (h : ExcAt b W) (C D : Array Value) (t u : TypeId) : ExcAt b ((W.alloc (.cells C t)).alloc (.cells D u)) :=
  h.grown (Grown.alloc (Grown.alloc (Grown.refl _) _ _) _ _)
theorem parts_cells (W : World) (a b c d e g : Value) (t : TypeId) :
    ((W.alloc (.cells #[a, b, c] t)).alloc (.cells #[d, e, g] t)).cell? ⟨W.heap.size, 0, none⟩ = some a
    ∧ ((W.alloc (.cells #[a, b, c] t)).alloc (.cells #[d, e, g] t)).cell? ⟨W.heap.size, 1, none⟩ = some b
    ∧ ((W.alloc (.cells #[a, b, c] t)).alloc (.cells #[d, e, g] t)).cell? ⟨W.heap.size, 2, none⟩ = some c
    ∧ ((W.alloc (.cells #[a, b, c] t)).alloc (.cells #[d, e, g] t)).cell? ⟨W.heap.size + 1, 0, none⟩ = some d
    ∧ ((W.alloc (.cells #[a, b, c] t)).alloc (.cells #[d, e, g] t)).cell? ⟨W.heap.size + 1, 1, none⟩ = some e
    ∧ ((W.alloc (.cells #[a, b, c] t)).alloc (.cells #[d, e, g] t)).cell? ⟨W.heap.size + 1, 2, none⟩ = some g := by
  refine ⟨?_, ?_, ?_, ?_, ?_, ?_⟩ <;> go_simp
end Go.Proofs.Ytdaikgeellpolaa
