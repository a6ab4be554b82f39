/- A result's block of five flags in worlds that have grown. No program. -/
import Derived.Test.YtdaikgeellpolaaWorld
import Derived.Lib.Hide
namespace Go.Proofs.Ytdaikgeellpolaa
open Go.RowKit

/-- Block b holds five flags that are down, and may be written. -/
structure ExcAt (b : Nat) (W : World) : Prop where
  lies : b < W.heap.size
  c0 : W.cell? ⟨b, 0, none⟩ = some (.bool false)
  c1 : W.cell? ⟨b, 1, none⟩ = some (.bool false)
  c2 : W.cell? ⟨b, 2, none⟩ = some (.bool false)
  c3 : W.cell? ⟨b, 3, none⟩ = some (.bool false)
  c4 : W.cell? ⟨b, 4, none⟩ = some (.bool false)
  z0 : W.frozen? ⟨b, 0, none⟩ = false
  z1 : W.frozen? ⟨b, 1, none⟩ = false
  z2 : W.frozen? ⟨b, 2, none⟩ = false
  z3 : W.frozen? ⟨b, 3, none⟩ = false
  z4 : W.frozen? ⟨b, 4, none⟩ = false
theorem ExcAt.grown {b : Nat} {W W' : World} (h : ExcAt b W) (g : Grown W W') : ExcAt b W' :=
  ⟨Nat.lt_of_lt_of_le h.lies g.2.2, grown_cell g h.c0 h.lies, grown_cell g h.c1 h.lies, grown_cell g h.c2 h.lies, grown_cell g h.c3 h.lies, grown_cell g h.c4 h.lies,
    by rw [g.2.1]; exact h.z0, by rw [g.2.1]; exact h.z1, by rw [g.2.1]; exact h.z2, by rw [g.2.1]; exact h.z3, by rw [g.2.1]; exact h.z4⟩
theorem exc_new (w : World) (t : TypeId) : ExcAt w.heap.size (w.alloc (.cells #[.bool false, .bool false, .bool false, .bool false, .bool false] t)) := by
  refine ⟨by show w.heap.size < (w.heap.push _).size; simp, ?_, ?_, ?_, ?_, ?_, ?_, ?_, ?_, ?_, ?_⟩
  all_goals go_simp
/-- Block b holds a wide number of nought, and may be written. -/
structure NilAt (b : Nat) (W : World) : Prop where
  lies : b < W.heap.size
  c0 : W.cell? ⟨b, 0, none⟩ = some (.bool false)
  c1 : W.cell? ⟨b, 1, none⟩ = some (.int .u64 0)
  c2 : W.cell? ⟨b, 2, none⟩ = some (.int .u64 0)
  c3 : W.cell? ⟨b, 3, none⟩ = some (.int .u64 0)
  c4 : W.cell? ⟨b, 4, none⟩ = some (.int .u64 0)
  c5 : W.cell? ⟨b, 5, none⟩ = some (.int .u64 0)
  c6 : W.cell? ⟨b, 6, none⟩ = some (.int .u64 0)
  c7 : W.cell? ⟨b, 7, none⟩ = some (.int .u64 0)
  c8 : W.cell? ⟨b, 8, none⟩ = some (.int .u64 0)
  c9 : W.cell? ⟨b, 9, none⟩ = some (.int .u64 0)
  c10 : W.cell? ⟨b, 10, none⟩ = some (.int .u64 0)
  z0 : W.frozen? ⟨b, 0, none⟩ = false
  z1 : W.frozen? ⟨b, 1, none⟩ = false
  z2 : W.frozen? ⟨b, 2, none⟩ = false
  z3 : W.frozen? ⟨b, 3, none⟩ = false
  z4 : W.frozen? ⟨b, 4, none⟩ = false
  z5 : W.frozen? ⟨b, 5, none⟩ = false
  z6 : W.frozen? ⟨b, 6, none⟩ = false
  z7 : W.frozen? ⟨b, 7, none⟩ = false
  z8 : W.frozen? ⟨b, 8, none⟩ = false
  z9 : W.frozen? ⟨b, 9, none⟩ = false
  z10 : W.frozen? ⟨b, 10, none⟩ = false
theorem NilAt.grown {b : Nat} {W W' : World} (h : NilAt b W) (g : Grown W W') : NilAt b W' :=
  ⟨Nat.lt_of_lt_of_le h.lies g.2.2, grown_cell g h.c0 h.lies, grown_cell g h.c1 h.lies, grown_cell g h.c2 h.lies, grown_cell g h.c3 h.lies, grown_cell g h.c4 h.lies, grown_cell g h.c5 h.lies, grown_cell g h.c6 h.lies, grown_cell g h.c7 h.lies, grown_cell g h.c8 h.lies, grown_cell g h.c9 h.lies, grown_cell g h.c10 h.lies, by rw [g.2.1]; exact h.z0, by rw [g.2.1]; exact h.z1, by rw [g.2.1]; exact h.z2, by rw [g.2.1]; exact h.z3, by rw [g.2.1]; exact h.z4, by rw [g.2.1]; exact h.z5, by rw [g.2.1]; exact h.z6, by rw [g.2.1]; exact h.z7, by rw [g.2.1]; exact h.z8, by rw [g.2.1]; exact h.z9, by rw [g.2.1]; exact h.z10⟩
theorem nil_new (w : World) (t : TypeId) : NilAt w.heap.size (w.alloc (.cells #[.bool false, .int .u64 0, .int .u64 0, .int .u64 0, .int .u64 0, .int .u64 0, .int .u64 0, .int .u64 0, .int .u64 0, .int .u64 0, .int .u64 0] t)) := by
  refine ⟨by show w.heap.size < (w.heap.push _).size; simp, ?_, ?_, ?_, ?_, ?_, ?_, ?_, ?_, ?_, ?_, ?_, ?_, ?_, ?_, ?_, ?_, ?_, ?_, ?_, ?_, ?_, ?_⟩
  all_goals go_simp
end Go.Proofs.Ytdaikgeellpolaa
