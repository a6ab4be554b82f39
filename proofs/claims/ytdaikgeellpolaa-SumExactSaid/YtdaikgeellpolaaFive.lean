/- Blocks of five cells in worlds that have grown. No program. -/
import Derived.Test.YtdaikgeellpolaaWorld
import Derived.Lib.Hide
namespace Go.Proofs.Ytdaikgeellpolaa
open Go.RowKit

/-- Block b holds five values. -/
def Five (b : Nat) (c0 c1 c2 c3 c4 : Value) (W : World) : Prop :=
  b < W.heap.size ∧ W.cell? ⟨b, 0, none⟩ = some c0 ∧ W.cell? ⟨b, 1, none⟩ = some c1 ∧ W.cell? ⟨b, 2, none⟩ = some c2 ∧ W.cell? ⟨b, 3, none⟩ = some c3 ∧ W.cell? ⟨b, 4, none⟩ = some c4
theorem Five.grown {b : Nat} {c0 c1 c2 c3 c4 : Value} {W W' : World} (h : Five b c0 c1 c2 c3 c4 W) (g : Grown W W') : Five b c0 c1 c2 c3 c4 W' := by
  obtain ⟨h0, h1, h2, h3, h4, h5⟩ := h
  exact ⟨Nat.lt_of_lt_of_le h0 g.2.2, grown_cell g h1 h0, grown_cell g h2 h0, grown_cell g h3 h0, grown_cell g h4 h0, grown_cell g h5 h0⟩
theorem five_new {c0 c1 c2 c3 c4 : Value} {t : TypeId} {w : World} : Five w.heap.size c0 c1 c2 c3 c4 (w.alloc (.cells #[c0, c1, c2, c3, c4] t)) := by
  refine ⟨by show w.heap.size < (w.heap.push _).size; simp, ?_, ?_, ?_, ?_, ?_⟩ <;> rw [World.cell?_alloc_at (hn := rfl)] <;> rfl
theorem grown_new5 {w W : World} {c0 c1 c2 c3 c4 : Value} {t : TypeId} (g : Grown (w.alloc (.cells #[c0, c1, c2, c3, c4] t)) W) : Five w.heap.size c0 c1 c2 c3 c4 W := five_new.grown g

end Go.Proofs.Ytdaikgeellpolaa
