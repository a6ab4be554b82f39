/- Arrays of two, of four words as parameters: taken apart, and put together (for the frames of layer 10). -/
import Derived.Test.YtjedegeajkpmaaaRows
import Derived.WalkKit
import Derived.ProofKit
import Derived.OpenShut
import Derived.Laws.IdiomArrays
import Derived.Test.YtjedegeajkpmaaaPhiMath
namespace Go.Proofs.Ytjedegeajkpmaaa
open Go.ChangeShapes Go.WideShapes Go.ChangeAt Go.RowKit
set_option linter.unusedVariables false
set_option linter.unusedSimpArgs false

theorem ar_und2 : Try.prog.underlying 23 = some (.array 2 22) := Try.underlying23

theorem ar_und4 : Try.prog.underlying 24 = some (.array 4 22) := Try.underlying24

theorem ar_und1 : Try.prog.underlying 22 = some (.int .u32) := Try.underlying22

theorem ar_c1 : Try.prog.cellsOf 22 = 1 := by kernel_rfl

theorem ar_c2 : Try.prog.cellsOf 23 = 2 := by kernel_rfl

theorem ar_c4 : Try.prog.cellsOf 24 = 4 := by kernel_rfl

theorem ar_list2 {α : Type} (l : List α) (h : (⟨l⟩ : Array α).size = 2) : ∃ a b, l = [a, b] := by
  match l, h with
  | [a, b], _ => exact ⟨a, b, rfl⟩

theorem ar_list4 {α : Type} (l : List α) (h : (⟨l⟩ : Array α).size = 4) : ∃ a b c d, l = [a, b, c, d] := by
  match l, h with
  | [a, b, c, d], _ => exact ⟨a, b, c, d, rfl⟩

section
variable {H : Type} {enc : TypeId × Value → H} {w : World} {base : Nat} {spare : Nat → Bool} {held : Bool}

theorem trod_array2 {P : Program} {t e : TypeId} {fuel : Nat} {c0 c1 : Value} {x : DataW H × List MemPlace} (ht : P.underlying t = some (.array 2 e)) (hce : P.cellsOf e = 1)
    (h : DataW.trod enc P w base spare held fuel t [c0, c1] = some x) :
    ∃ y0 y1 n, x = (.agg [y0.1, y1.1], y0.2 ++ y1.2) ∧ DataW.trod enc P w base spare held n e [c0] = some y0 ∧ DataW.trod enc P w base spare held n e [c1] = some y1 := by
  cases fuel with
  | zero => simp [DataW.trod] at h
  | succ n =>
    unfold DataW.trod at h
    rw [ht] at h
    have r2 : List.range 2 = [0, 1] := rfl
    simp [r2, hce] at h
    obtain ⟨_, h⟩ := h
    cases h0 : DataW.trod enc P w base spare held n e [c0] with
    | none => simp [h0] at h
    | some y0 =>
      cases h1 : DataW.trod enc P w base spare held n e [c1] with
      | none => simp [h0, h1] at h
      | some y1 =>
        simp [h0, h1] at h
        exact ⟨y0, y1, n, h.symm, h0, h1⟩

theorem open_two {r : Reach} {b0 : Nat} {v : Value} {d : DataW H} {ps : List MemPlace} (hval : Value.okWide Try.prog w r b0 23 v) (hd : DataW.Trod enc Try.prog w base spare held 23 v d ps) :
    ∃ x y, v = .agg #[.int .u32 x, .int .u32 y] ∧ d = .agg [.lit (.int .u32 x), .lit (.int .u32 y)] ∧ ps = [] ∧ (Lit.int .u32 x).wf = true ∧ (Lit.int .u32 y).wf = true := by
  obtain ⟨cs, rfl, hsz, _⟩ : ∃ cs, v = .agg cs ∧ cs.size = Try.prog.cellsOf 23 ∧ Row.okWide Try.prog w r b0 23 cs := by
    simpa [Value.okWide, ar_und2] using hval
  rw [ar_c2] at hsz
  obtain ⟨l⟩ := cs
  obtain ⟨c0, c1, rfl⟩ := ar_list2 l hsz
  obtain ⟨fuel, hf⟩ := hd
  obtain ⟨y0, y1, m, hx, hy0, hy1⟩ := trod_array2 ar_und2 ar_c1 hf
  obtain ⟨x0, e0, rfl, w0⟩ := DataW.trod_int ar_und1 hy0
  obtain ⟨x1, e1, rfl, w1⟩ := DataW.trod_int ar_und1 hy1
  simp at e0 e1
  subst e0 e1
  simp only [Prod.mk.injEq] at hx
  obtain ⟨rfl, rfl⟩ := hx
  exact ⟨x0, x1, rfl, rfl, rfl, w0, w1⟩

theorem open_four {r : Reach} {b0 : Nat} {v : Value} {d : DataW H} {ps : List MemPlace} (hval : Value.okWide Try.prog w r b0 24 v) (hd : DataW.Trod enc Try.prog w base spare held 24 v d ps) :
    ∃ x y z u, v = .agg #[.int .u32 x, .int .u32 y, .int .u32 z, .int .u32 u] ∧ d = .agg [.lit (.int .u32 x), .lit (.int .u32 y), .lit (.int .u32 z), .lit (.int .u32 u)] ∧ ps = [] ∧ (Lit.int .u32 x).wf = true ∧ (Lit.int .u32 y).wf = true ∧ (Lit.int .u32 z).wf = true ∧ (Lit.int .u32 u).wf = true := by
  obtain ⟨cs, rfl, hsz, _⟩ : ∃ cs, v = .agg cs ∧ cs.size = Try.prog.cellsOf 24 ∧ Row.okWide Try.prog w r b0 24 cs := by
    simpa [Value.okWide, ar_und4] using hval
  rw [ar_c4] at hsz
  obtain ⟨l⟩ := cs
  obtain ⟨c0, c1, c2, c3, rfl⟩ := ar_list4 l hsz
  obtain ⟨fuel, hf⟩ := hd
  obtain ⟨y0, y1, y2, y3, m, hx, hy0, hy1, hy2, hy3⟩ := trod_array4 ar_und4 ar_c1 hf
  obtain ⟨x0, e0, rfl, w0⟩ := DataW.trod_int ar_und1 hy0
  obtain ⟨x1, e1, rfl, w1⟩ := DataW.trod_int ar_und1 hy1
  obtain ⟨x2, e2, rfl, w2⟩ := DataW.trod_int ar_und1 hy2
  obtain ⟨x3, e3, rfl, w3⟩ := DataW.trod_int ar_und1 hy3
  simp at e0 e1 e2 e3
  subst e0 e1 e2 e3
  simp only [Prod.mk.injEq] at hx
  obtain ⟨rfl, rfl⟩ := hx
  exact ⟨x0, x1, x2, x3, rfl, rfl, rfl, w0, w1, w2, w3⟩

theorem shut_two {x y : Int} (w0 : (Lit.int .u32 x).wf = true) (w1 : (Lit.int .u32 y).wf = true) :
    DataW.Trod enc Try.prog w base spare held 23 (.agg #[.int .u32 x, .int .u32 y]) (.agg [.lit (.int .u32 x), .lit (.int .u32 y)]) [] :=
  ⟨2, by simp [DataW.trod, Value.cells, ar_und2, ar_und1, ar_c2, ar_c1, w0, w1, show List.range 2 = [0, 1] from rfl]⟩

theorem shut_four {x y z u : Int} (w0 : (Lit.int .u32 x).wf = true) (w1 : (Lit.int .u32 y).wf = true) (w2 : (Lit.int .u32 z).wf = true) (w3 : (Lit.int .u32 u).wf = true) :
    DataW.Trod enc Try.prog w base spare held 24 (.agg #[.int .u32 x, .int .u32 y, .int .u32 z, .int .u32 u]) (.agg [.lit (.int .u32 x), .lit (.int .u32 y), .lit (.int .u32 z), .lit (.int .u32 u)]) [] :=
  ⟨2, by simp [DataW.trod, Value.cells, ar_und4, ar_und1, ar_c4, ar_c1, w0, w1, w2, w3, show List.range 4 = [0, 1, 2, 3] from rfl]⟩
end

theorem ph_of_wf {k0 k1 c0 c1 c2 c3 : Int} (h0 : (Lit.int .u32 k0).wf = true) (h1 : (Lit.int .u32 k1).wf = true) (g0 : (Lit.int .u32 c0).wf = true) (g1 : (Lit.int .u32 c1).wf = true) (g2 : (Lit.int .u32 c2).wf = true) (g3 : (Lit.int .u32 c3).wf = true) : PhW ⟨k0, k1, c0, c1, c2, c3⟩ :=
  ⟨bounds_u32 h0, bounds_u32 h1, bounds_u32 g0, bounds_u32 g1, bounds_u32 g2, bounds_u32 g3⟩
end Go.Proofs.Ytjedegeajkpmaaa
