/- The reference's Pack of what is below all; of nought; of whatever it is given. -/
import Derived.Test.YtheaeclojljecaaRRdL
import Derived.Test.YtheaeclojljecaaRRdH
import Derived.Test.YtheaeclojljecaaRRdF
namespace Go.Proofs.Ytheaeclojljecaa
open Go.RowKit
set_option linter.unusedVariables false
set_option linter.unusedSimpArgs false

theorem dv_zero (n : Int) : dvK 0 n = 0 ∧ dvH 0 n = false ∧ dvR 0 n = false := by
  have h : ∀ k : Int, shV 0 k = 0 := fun k => by unfold shV; split <;> simp
  have g : ∀ k : Int, shO 0 k = false := fun k => by unfold shO; split <;> simp
  unfold dvK dvH dvR
  refine ⟨?_, ?_, ?_⟩
  · split
    · rw [Int.zero_mul]; rfl
    · exact h n
  · split
    · rfl
    · rw [h]; rfl
  · split
    · rfl
    · exact g _

theorem fmt_words (f : Int) : wrap64 (wrap64 (2 ^ min (fe f) 64) - 1) = topx f ∧ IntKind.u64.wrap (2 ^ fn f) = hid f ∧ IntKind.u64.wrap (2 ^ (fn f + 1)) = 2 * hid f
    ∧ 31 ≤ topx f ∧ topx f ≤ 255 ∧ 128 ≤ hid f ∧ hid f ≤ 8388608 := by
  rcases fmt_cases f with ⟨rfl, hf⟩ | ⟨rfl, hf⟩ | ⟨⟨c0, c1⟩, hf⟩ <;> obtain ⟨e1, e2, e3, e4, e5, e6, e7, e8, e9⟩ := hf <;> rw [e1, e2, e3, e4] <;> exact ⟨by simp [wrap64], by simp [IntKind.wrap_u64], by simp [IntKind.wrap_u64], by decide, by decide, by decide, by decide⟩

end Go.Proofs.Ytheaeclojljecaa
