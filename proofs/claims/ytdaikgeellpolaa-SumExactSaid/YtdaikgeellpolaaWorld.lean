/- Worlds that have grown, and words among what is new. No program. -/
import Derived.WalkKit
import Derived.ProofKit
import Derived.RowKit3
import Derived.ChangeFn
import Derived.Deep.Draws
import Derived.OpenShut
import Derived.BigRegion
namespace Go.Proofs.Ytdaikgeellpolaa
open Go.RowKit

theorem grown_more {w w' : World} (h : Grown w w') (m : Nat) : Grown w (w'.drewN m) := by
  induction m with
  | zero => exact h
  | succ m ih => exact ih.drew
theorem grown_drewN (w : World) (m : Nat) : Grown w (w.drewN m) := grown_more (Grown.refl w) m
theorem grown_trans {a b c : World} (h : Grown a b) (g : Grown b c) : Grown a c :=
  ⟨World.keptBut_trans h.1 (World.keptBut_mono (fun _ f => f) g.1), fun x => (g.2.1 x).trans (h.2.1 x), Nat.le_trans h.2.2 g.2.2⟩
theorem grown_cell {w w' : World} (h : Grown w w') {b off : Nat} {v : Value} (hc : w.cell? ⟨b, off, none⟩ = some v) (hb : b < w.heap.size) : w'.cell? ⟨b, off, none⟩ = some v := by
  rw [World.keptBut.cell h.1 hb (fun f => f), hc]
/-- Of words of 32 bits alone: each cell behind the making of them is one. -/
theorem word_new {w W : World} {C : Array Value} {t : TypeId} (hW : (w.alloc (.cells C t)).drew = W) (j : Nat) (hj : j < C.size)
    (h : ∀ v ∈ C.toList, ∃ x : Int, v = .int .u32 x ∧ 0 ≤ x ∧ x ≤ 4294967295) :
    ∃ x : Int, W.cell? ⟨w.heap.size, j, none⟩ = some (.int .u32 x) ∧ 0 ≤ x ∧ x ≤ 4294967295 := by
  subst hW
  obtain ⟨x, hx, b0, b1⟩ := h C[j] (by simp)
  refine ⟨x, ?_, b0, b1⟩
  have := World.cell?_alloc_mark w C t (0, 0) j
  rw [show ((w.alloc (.cells C t)).drew).cell? ⟨w.heap.size, j, none⟩ = (w.alloc (.cells C t)).cell? ⟨w.heap.size, j, none⟩ from rfl]
  rw [this, ← hx]; simp [hj]
theorem is_word_bits (op : BinOp) (a b : Int) : ∃ x : Int, Ending.returned (.int .u32 (bits op .u32 a b)) = .returned (.int .u32 x) ∧ 0 ≤ x ∧ x ≤ 4294967295 :=
  ⟨_, rfl, (bounds_u32 (wf_bits op .u32 a b)).1, (bounds_u32 (wf_bits op .u32 a b)).2⟩
theorem is_word {v : Value} (x : Int) (h : v = .int .u32 x) (h0 : 0 ≤ x) (h1 : x ≤ 4294967295) : ∃ x : Int, v = .int .u32 x ∧ 0 ≤ x ∧ x ≤ 4294967295 := ⟨x, h, h0, h1⟩
/-- A first result in a slot, a second one in memory. -/
theorem results_tmp_cell {fn : Func} {p u : Tmp} {ty : TypeId} (h : fn.results = #[.tmp u, .cell p ty]) (tmps : Array Value) (P : Program) (w : World) :
    (results fn tmps).run P w =
      ((asAddr (tmps.getD p undef)).run P w).andThen fun a w₁ => ((loadVar ty a).run P w₁).andThen fun v w₂ => .ok (.tuple #[tmps.getD u undef, v]) w₂ := by
  simp only [results, h]
  simp [Sem.run_bind, Result.andThen]
end Go.Proofs.Ytdaikgeellpolaa
