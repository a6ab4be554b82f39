/- Blocks of numbers in worlds that have grown. No program. -/
import Derived.Test.YtdaikgeellpolaaWorld
import Derived.Lib.Hide
import Derived.Handy
namespace Go.Proofs.Ytdaikgeellpolaa
open Go.RowKit

/-- Block b holds n numbers of a kind. -/
def Holds (k : IntKind) (n : Nat) (lo hi : Int) (b : Nat) (W : World) : Prop :=
  b < W.heap.size ∧ ∀ j, j < n → ∃ x : Int, W.cell? ⟨b, j, none⟩ = some (.int k x) ∧ lo ≤ x ∧ x ≤ hi
theorem Holds.grown {k : IntKind} {n : Nat} {lo hi : Int} {b : Nat} {W W' : World} (h : Holds k n lo hi b W) (g : Grown W W') : Holds k n lo hi b W' :=
  ⟨Nat.lt_of_lt_of_le h.1 g.2.2, fun j hj => by obtain ⟨x, hx, h0⟩ := h.2 j hj; exact ⟨x, grown_cell g hx h.1, h0⟩⟩
theorem Holds.more {k : IntKind} {n : Nat} {lo hi : Int} {b : Nat} {W : World} (h : Holds k n lo hi b W) (m : Nat) : Holds k n lo hi b (W.drewN m) := h
theorem Holds.new {W : World} {C : Array Value} {t : TypeId} {k : IntKind} {n : Nat} {lo hi : Int} (hn : n = C.size)
    (h : ∀ v ∈ C.toList, ∃ x : Int, v = .int k x ∧ lo ≤ x ∧ x ≤ hi) : Holds k n lo hi W.heap.size (W.alloc (.cells C t)) := by
  refine ⟨by show W.heap.size < (W.heap.push _).size; simp, fun j hj => ?_⟩
  subst hn
  obtain ⟨x, hx, b0⟩ := h C[j] (by simp)
  refine ⟨x, ?_, b0⟩
  rw [World.cell?_alloc_mark W C t (0, 0) j]
  rw [← hx]; simp [hj]
end Go.Proofs.Ytdaikgeellpolaa
