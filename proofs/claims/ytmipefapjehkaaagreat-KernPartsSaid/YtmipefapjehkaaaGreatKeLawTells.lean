/- The walk of KernTells. -/
import Derived.Test.YtmipefapjehkaaaGreatFrame
import Derived.Test.YtmipefapjehkaaaGreatSeatT
import Derived.Test.YtmipefapjehkaaaGreatKern
import Derived.Deep.RegionHeld3
namespace Go.Proofs.YtmipefapjehkaaaGreat
open Go Go.RowKit
set_option linter.unusedVariables false
set_option linter.unusedSimpArgs false

theorem light_cases {aR aC bR bC : Int} {an bn ln rn : Nat} (h : ¬ (lightB aR aC an = true ∧ lightB bR bC bn = true ∧ ln ≤ 30 ∧ rn ≤ 30)) :
    lightB aR aC an = false ∨ (lightB aR aC an = true ∧ lightB bR bC bn = false) ∨ (lightB aR aC an = true ∧ lightB bR bC bn = true ∧ (30 : Int) < (ln : Int)) ∨ (lightB aR aC an = true ∧ lightB bR bC bn = true ∧ ¬ (30 : Int) < (ln : Int) ∧ (30 : Int) < (rn : Int)) := by
  cases e1 : lightB aR aC an
  · exact .inl rfl
  · cases e2 : lightB bR bC bn
    · exact .inr (.inl ⟨rfl, rfl⟩)
    · rw [e1, e2] at h
      by_cases c : (30 : Int) < (ln : Int)
      · exact .inr (.inr (.inl ⟨rfl, rfl, c⟩))
      · by_cases d : rn ≤ 30
        · exact absurd ⟨rfl, rfl, by omega, d⟩ h
        · exact .inr (.inr (.inr ⟨rfl, rfl, c, by omega⟩))

end Go.Proofs.YtmipefapjehkaaaGreat
