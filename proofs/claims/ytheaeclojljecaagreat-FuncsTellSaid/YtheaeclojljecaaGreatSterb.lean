/- Differences of two near one another (no program here). -/
import Derived.Test.YtheaeclojljecaaGreatAddMath
import Derived.Test.YtheaeclojljecaaGreatMild
import Derived.Test.YtheaeclojljecaaGreatSub
import Derived.Test.YtheaeclojljecaaGreatNought
namespace Go.Proofs.YtheaeclojljecaaGreat
open Go.RowKit
set_option linter.unusedVariables false

theorem pack_num (f mode z : Int) (n : Bool) (V : Nat) (h0 : 0 ≤ z) (h1 : z ≤ msk f) (hf : finI f z = true) (hs : fS f z = n) (ha : amtE (unE f z) (unM f z) = V) : PackE f mode n (upN V) = excE z false := by
  subst ha hs
  rw [up_num]
  exact num_pack f mode z h0 h1 hf

theorem lim_fmt (f : Int) : (fn f : Int) + 1 ≤ bia f - 2 ∧ bia f + 2 < topx f ∧ 3 < bia f := by
  rcases fmt_cases f with ⟨rfl, hf⟩ | ⟨rfl, hf⟩ | ⟨⟨c0, c1⟩, hf⟩ <;> obtain ⟨e1, e2, e3, e4, e5, e6, e7, e8, e9⟩ := hf
  all_goals
    rw [e2, e4, e9]
    omega
end Go.Proofs.YtheaeclojljecaaGreat
