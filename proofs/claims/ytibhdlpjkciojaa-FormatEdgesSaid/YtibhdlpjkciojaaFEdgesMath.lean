/- FormatEdges: plain numbers. -/
import Derived.Test.YtibhdlpjkciojaaFKnown
namespace Go.Proofs.Ytibhdlpjkciojaa
open Go.RowKit
set_option linter.unusedVariables false
set_option linter.unusedSimpArgs false

theorem edge_nan (f b k q : Int) {t h : Int} (e : topx f = t) (e2 : hid f = h) (e3 : qui f = q) (hX : fX f b = t) (hF : fF f b = k) (h0 : 0 < k) :
    (clsI f b = 5 ∧ k < q ∧ finI f b = false) ∨ (clsI f b = 4 ∧ q ≤ k ∧ finI f b = false) := by
  have c := cls_cases f b
  have t0 := topx_pos f
  have hfin : finI f b = false := by unfold finI; rw [hX, e]; simp
  rw [e, e3, hX, hF] at c
  rw [e] at t0
  rcases (show (clsI f b = 5 ∧ k < q) ∨ (clsI f b = 4 ∧ q ≤ k) by omega) with h | h
  · exact .inl ⟨h.1, h.2, hfin⟩
  · exact .inr ⟨h.1, h.2, hfin⟩
theorem and1_32 (x : Int) (h0 : 0 ≤ x) (h1 : x ≤ 4294967295) : bits .and .u32 x 1 = x % 2 := by
  rw [and32 x 1 (p := 2) h0 h1 (by decide) (by decide) (by decide)]

end Go.Proofs.Ytibhdlpjkciojaa
