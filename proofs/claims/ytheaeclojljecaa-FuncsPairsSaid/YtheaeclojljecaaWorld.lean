/- Worlds that have grown; blocks in them. -/
import Derived.WalkKit
import Derived.ProofKit
import Derived.RowKit3
import Derived.ChangeFn
import Derived.Deep.Draws
import Derived.OpenShut
import Derived.BigRegion
import Derived.Lib.Hide
import Derived.Handy
namespace Go.Proofs.Ytheaeclojljecaa
open Go.RowKit

/-! Worlds that have grown, and words among what is new. No program. -/
theorem grown_more {w w' : World} (h : Grown w w') (m : Nat) : Grown w (w'.drewN m) := by
  induction m with
  | zero => exact h
  | succ m ih => exact ih.drew

theorem grown_drewN (w : World) (m : Nat) : Grown w (w.drewN m) := grown_more (Grown.refl w) m

theorem grown_trans {a b c : World} (h : Grown a b) (g : Grown b c) : Grown a c :=
  ⟨World.keptBut_trans h.1 (World.keptBut_mono (fun _ f => f) g.1), fun x => (g.2.1 x).trans (h.2.1 x), Nat.le_trans h.2.2 g.2.2⟩

theorem grown_cell {w w' : World} (h : Grown w w') {b off : Nat} {v : Value} (hc : w.cell? ⟨b, off, none⟩ = some v) (hb : b < w.heap.size) : w'.cell? ⟨b, off, none⟩ = some v := by
  rw [World.keptBut.cell h.1 hb (fun f => f), hc]

/-- Of words of 32 bits alone: each cell behind the making of them is one. -/
theorem word_new {w W : World} {C : Array Value} {t : TypeId} (hW : (w.alloc (.cells C t)).drew = W) (j : Nat) (hj : j < C.size)
    (h : ∀ v ∈ C.toList, ∃ x : Int, v = .int .u32 x ∧ 0 ≤ x ∧ x ≤ 4294967295) :
    ∃ x : Int, W.cell? ⟨w.heap.size, j, none⟩ = some (.int .u32 x) ∧ 0 ≤ x ∧ x ≤ 4294967295 := by
  subst hW
  obtain ⟨x, hx, b0, b1⟩ := h C[j] (by simp)
  refine ⟨x, ?_, b0, b1⟩
  have := World.cell?_alloc_mark w C t (0, 0) j
  rw [show ((w.alloc (.cells C t)).drew).cell? ⟨w.heap.size, j, none⟩ = (w.alloc (.cells C t)).cell? ⟨w.heap.size, j, none⟩ from rfl]
  rw [this, ← hx]; simp [hj]

theorem is_word_bits (op : BinOp) (a b : Int) : ∃ x : Int, Ending.returned (.int .u32 (bits op .u32 a b)) = .returned (.int .u32 x) ∧ 0 ≤ x ∧ x ≤ 4294967295 :=
  ⟨_, rfl, (bounds_u32 (wf_bits op .u32 a b)).1, (bounds_u32 (wf_bits op .u32 a b)).2⟩

theorem is_word {v : Value} (x : Int) (h : v = .int .u32 x) (h0 : 0 ≤ x) (h1 : x ≤ 4294967295) : ∃ x : Int, v = .int .u32 x ∧ 0 ≤ x ∧ x ≤ 4294967295 := ⟨x, h, h0, h1⟩

/-- A first result in a slot, a second one in memory. -/
theorem results_tmp_cell {fn : Func} {p u : Tmp} {ty : TypeId} (h : fn.results = #[.tmp u, .cell p ty]) (tmps : Array Value) (P : Program) (w : World) :
    (results fn tmps).run P w =
      ((asAddr (tmps.getD p undef)).run P w).andThen fun a w₁ => ((loadVar ty a).run P w₁).andThen fun v w₂ => .ok (.tuple #[tmps.getD u undef, v]) w₂ := by
  simp only [results, h]
  simp [Sem.run_bind, Result.andThen]

/-! Blocks of five cells in worlds that have grown. No program. -/
/-- Block b holds five values. -/
def Five (b : Nat) (c0 c1 c2 c3 c4 : Value) (W : World) : Prop :=
  b < W.heap.size ∧ W.cell? ⟨b, 0, none⟩ = some c0 ∧ W.cell? ⟨b, 1, none⟩ = some c1 ∧ W.cell? ⟨b, 2, none⟩ = some c2 ∧ W.cell? ⟨b, 3, none⟩ = some c3 ∧ W.cell? ⟨b, 4, none⟩ = some c4

theorem Five.grown {b : Nat} {c0 c1 c2 c3 c4 : Value} {W W' : World} (h : Five b c0 c1 c2 c3 c4 W) (g : Grown W W') : Five b c0 c1 c2 c3 c4 W' := by
  obtain ⟨h0, h1, h2, h3, h4, h5⟩ := h
  exact ⟨Nat.lt_of_lt_of_le h0 g.2.2, grown_cell g h1 h0, grown_cell g h2 h0, grown_cell g h3 h0, grown_cell g h4 h0, grown_cell g h5 h0⟩

theorem five_new {c0 c1 c2 c3 c4 : Value} {t : TypeId} {w : World} : Five w.heap.size c0 c1 c2 c3 c4 (w.alloc (.cells #[c0, c1, c2, c3, c4] t)) := by
  refine ⟨by show w.heap.size < (w.heap.push _).size; simp, ?_, ?_, ?_, ?_, ?_⟩ <;> rw [World.cell?_alloc_at (hn := rfl)] <;> rfl

theorem grown_new5 {w W : World} {c0 c1 c2 c3 c4 : Value} {t : TypeId} (g : Grown (w.alloc (.cells #[c0, c1, c2, c3, c4] t)) W) : Five w.heap.size c0 c1 c2 c3 c4 W := five_new.grown g

/-! Blocks of numbers in worlds that have grown. No program. -/
/-- Block b holds n numbers of a kind. -/
def Holds (k : IntKind) (n : Nat) (lo hi : Int) (b : Nat) (W : World) : Prop :=
  b < W.heap.size ∧ ∀ j, j < n → ∃ x : Int, W.cell? ⟨b, j, none⟩ = some (.int k x) ∧ lo ≤ x ∧ x ≤ hi

theorem Holds.grown {k : IntKind} {n : Nat} {lo hi : Int} {b : Nat} {W W' : World} (h : Holds k n lo hi b W) (g : Grown W W') : Holds k n lo hi b W' :=
  ⟨Nat.lt_of_lt_of_le h.1 g.2.2, fun j hj => by obtain ⟨x, hx, h0⟩ := h.2 j hj; exact ⟨x, grown_cell g hx h.1, h0⟩⟩

theorem Holds.more {k : IntKind} {n : Nat} {lo hi : Int} {b : Nat} {W : World} (h : Holds k n lo hi b W) (m : Nat) : Holds k n lo hi b (W.drewN m) := h

theorem Holds.new {W : World} {C : Array Value} {t : TypeId} {k : IntKind} {n : Nat} {lo hi : Int} (hn : n = C.size)
    (h : ∀ v ∈ C.toList, ∃ x : Int, v = .int k x ∧ lo ≤ x ∧ x ≤ hi) : Holds k n lo hi W.heap.size (W.alloc (.cells C t)) := by
  refine ⟨by show W.heap.size < (W.heap.push _).size; simp, fun j hj => ?_⟩
  subst hn
  obtain ⟨x, hx, b0⟩ := h C[j] (by simp)
  refine ⟨x, ?_, b0⟩
  rw [World.cell?_alloc_mark W C t (0, 0) j]
  rw [← hx]; simp [hj]

/-! A result's block of five flags in worlds that have grown. No program. -/
/-- Block b holds five flags that are down, and may be written. -/
structure ExcAt (b : Nat) (W : World) : Prop where
  lies : b < W.heap.size
  c0 : W.cell? ⟨b, 0, none⟩ = some (.bool false)
  c1 : W.cell? ⟨b, 1, none⟩ = some (.bool false)
  c2 : W.cell? ⟨b, 2, none⟩ = some (.bool false)
  c3 : W.cell? ⟨b, 3, none⟩ = some (.bool false)
  c4 : W.cell? ⟨b, 4, none⟩ = some (.bool false)
  z0 : W.frozen? ⟨b, 0, none⟩ = false
  z1 : W.frozen? ⟨b, 1, none⟩ = false
  z2 : W.frozen? ⟨b, 2, none⟩ = false
  z3 : W.frozen? ⟨b, 3, none⟩ = false
  z4 : W.frozen? ⟨b, 4, none⟩ = false

theorem ExcAt.grown {b : Nat} {W W' : World} (h : ExcAt b W) (g : Grown W W') : ExcAt b W' :=
  ⟨Nat.lt_of_lt_of_le h.lies g.2.2, grown_cell g h.c0 h.lies, grown_cell g h.c1 h.lies, grown_cell g h.c2 h.lies, grown_cell g h.c3 h.lies, grown_cell g h.c4 h.lies,
    by rw [g.2.1]; exact h.z0, by rw [g.2.1]; exact h.z1, by rw [g.2.1]; exact h.z2, by rw [g.2.1]; exact h.z3, by rw [g.2.1]; exact h.z4⟩

theorem exc_new (w : World) (t : TypeId) : ExcAt w.heap.size (w.alloc (.cells #[.bool false, .bool false, .bool false, .bool false, .bool false] t)) := by
  refine ⟨by show w.heap.size < (w.heap.push _).size; simp, ?_, ?_, ?_, ?_, ?_, ?_, ?_, ?_, ?_, ?_⟩
  all_goals go_simp

/-- Block b holds a wide number of nought, and may be written. -/
structure NilAt (b : Nat) (W : World) : Prop where
  lies : b < W.heap.size
  c0 : W.cell? ⟨b, 0, none⟩ = some (.bool false)
  c1 : W.cell? ⟨b, 1, none⟩ = some (.int .u64 0)
  c2 : W.cell? ⟨b, 2, none⟩ = some (.int .u64 0)
  c3 : W.cell? ⟨b, 3, none⟩ = some (.int .u64 0)
  c4 : W.cell? ⟨b, 4, none⟩ = some (.int .u64 0)
  c5 : W.cell? ⟨b, 5, none⟩ = some (.int .u64 0)
  c6 : W.cell? ⟨b, 6, none⟩ = some (.int .u64 0)
  c7 : W.cell? ⟨b, 7, none⟩ = some (.int .u64 0)
  c8 : W.cell? ⟨b, 8, none⟩ = some (.int .u64 0)
  c9 : W.cell? ⟨b, 9, none⟩ = some (.int .u64 0)
  c10 : W.cell? ⟨b, 10, none⟩ = some (.int .u64 0)
  z0 : W.frozen? ⟨b, 0, none⟩ = false
  z1 : W.frozen? ⟨b, 1, none⟩ = false
  z2 : W.frozen? ⟨b, 2, none⟩ = false
  z3 : W.frozen? ⟨b, 3, none⟩ = false
  z4 : W.frozen? ⟨b, 4, none⟩ = false
  z5 : W.frozen? ⟨b, 5, none⟩ = false
  z6 : W.frozen? ⟨b, 6, none⟩ = false
  z7 : W.frozen? ⟨b, 7, none⟩ = false
  z8 : W.frozen? ⟨b, 8, none⟩ = false
  z9 : W.frozen? ⟨b, 9, none⟩ = false
  z10 : W.frozen? ⟨b, 10, none⟩ = false

theorem NilAt.grown {b : Nat} {W W' : World} (h : NilAt b W) (g : Grown W W') : NilAt b W' :=
  ⟨Nat.lt_of_lt_of_le h.lies g.2.2, grown_cell g h.c0 h.lies, grown_cell g h.c1 h.lies, grown_cell g h.c2 h.lies, grown_cell g h.c3 h.lies, grown_cell g h.c4 h.lies, grown_cell g h.c5 h.lies, grown_cell g h.c6 h.lies, grown_cell g h.c7 h.lies, grown_cell g h.c8 h.lies, grown_cell g h.c9 h.lies, grown_cell g h.c10 h.lies, by rw [g.2.1]; exact h.z0, by rw [g.2.1]; exact h.z1, by rw [g.2.1]; exact h.z2, by rw [g.2.1]; exact h.z3, by rw [g.2.1]; exact h.z4, by rw [g.2.1]; exact h.z5, by rw [g.2.1]; exact h.z6, by rw [g.2.1]; exact h.z7, by rw [g.2.1]; exact h.z8, by rw [g.2.1]; exact h.z9, by rw [g.2.1]; exact h.z10⟩

theorem nil_new (w : World) (t : TypeId) : NilAt w.heap.size (w.alloc (.cells #[.bool false, .int .u64 0, .int .u64 0, .int .u64 0, .int .u64 0, .int .u64 0, .int .u64 0, .int .u64 0, .int .u64 0, .int .u64 0, .int .u64 0] t)) := by
  refine ⟨by show w.heap.size < (w.heap.push _).size; simp, ?_, ?_, ?_, ?_, ?_, ?_, ?_, ?_, ?_, ?_, ?_, ?_, ?_, ?_, ?_, ?_, ?_, ?_, ?_, ?_, ?_, ?_⟩
  all_goals go_simp

/-! A result's block of flags under two blocks more. No program. -/
theorem ExcAt.under1 {b : Nat} {W : World} (h : ExcAt b W) (C : Array Value) (t : TypeId) : ExcAt b (W.alloc (.cells C t)) :=
  h.grown (Grown.alloc (Grown.refl _) _ _)

theorem ExcAt.under2 {b : Nat} {W : World} (h : ExcAt b W) (C D : Array Value) (t u : TypeId) : ExcAt b ((W.alloc (.cells C t)).alloc (.cells D u)) :=
  h.grown (Grown.alloc (Grown.alloc (Grown.refl _) _ _) _ _)

theorem parts_cells (W : World) (a b c d e g : Value) (t : TypeId) :
    ((W.alloc (.cells #[a, b, c] t)).alloc (.cells #[d, e, g] t)).cell? ⟨W.heap.size, 0, none⟩ = some a
    ∧ ((W.alloc (.cells #[a, b, c] t)).alloc (.cells #[d, e, g] t)).cell? ⟨W.heap.size, 1, none⟩ = some b
    ∧ ((W.alloc (.cells #[a, b, c] t)).alloc (.cells #[d, e, g] t)).cell? ⟨W.heap.size, 2, none⟩ = some c
    ∧ ((W.alloc (.cells #[a, b, c] t)).alloc (.cells #[d, e, g] t)).cell? ⟨W.heap.size + 1, 0, none⟩ = some d
    ∧ ((W.alloc (.cells #[a, b, c] t)).alloc (.cells #[d, e, g] t)).cell? ⟨W.heap.size + 1, 1, none⟩ = some e
    ∧ ((W.alloc (.cells #[a, b, c] t)).alloc (.cells #[d, e, g] t)).cell? ⟨W.heap.size + 1, 2, none⟩ = some g := by
  refine ⟨?_, ?_, ?_, ?_, ?_, ?_⟩ <;> go_simp
end Go.Proofs.Ytheaeclojljecaa
