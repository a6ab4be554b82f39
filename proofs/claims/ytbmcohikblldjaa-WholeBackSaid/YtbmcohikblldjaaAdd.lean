/- Contracts of package sum: Add. -/
import Derived.Test.YtbmcohikblldjaaSum
import Derived.Test.YtbmcohikblldjaaWorld
namespace Go.Proofs.Ytbmcohikblldjaa
open Go.RowKit
set_option linter.unusedVariables false
set_option linter.unusedSimpArgs false

theorem fin_cls (f a : Int) (h4 : (clsI f a == 4) = false) (h5 : (clsI f a == 5) = false) (h3 : (clsI f a == 3) = false) : finI f a = true := by
  rcases three_ways f a with ⟨x, y, z⟩ | ⟨x, y, z⟩ | ⟨x, y, z, t⟩
  · have c := cls_cases f a
    simp at h4 h5 h3
    omega
  · exact y
  · exact z

theorem fin_hid (f a b : Int) (h : finI f a = true) (g : finI f b = true) (c : unE f b < unE f a) : ((2 ^ fn f : Nat) : Int) ≤ unM f a := by
  have hh := hid_fn f
  have hF := fF_bd f a
  rcases three_ways f a with ⟨x, y, z⟩ | ⟨x, y, z, t⟩ | ⟨x, y, z, t, u⟩
  · rw [h] at y; exact absurd y (by decide)
  · rcases three_ways f b with ⟨x', y', z'⟩ | ⟨x', y', z', t'⟩ | ⟨x', y', z', t', u'⟩
    · rw [g] at y'; exact absurd y' (by decide)
    · omega
    · omega
  · omega

/-- Whatever the sum is, it is a number and five flags. -/
theorem fin_shape (f mode : Int) (n : Bool) (V : Nat) (m : Bool) (W : Nat) : ∃ (v : Int) (b1 b2 b3 b4 b5 : Bool), finE f mode n V m W = .returned (.tuple #[.int .u32 v, .agg #[.bool b1, .bool b2, .bool b3, .bool b4, .bool b5]]) := by
  unfold finE totE excE PackE
  (repeat' split) <;> exact ⟨_, _, _, _, _, _, rfl⟩

end Go.Proofs.Ytbmcohikblldjaa
