/- Go's rest: its bounds. No program. -/
import Derived.WalkKit
namespace Go.Proofs.Ytbkkiphoohlhkaa
open Go.RowKit

theorem tmod_bd (a m : Int) (hm : 0 < m) : -m < a.tmod m ∧ a.tmod m < m := by
  rcases Int.lt_or_le a 0 with h | h
  · have e : a.tmod m = -((-a).tmod m) := by rw [Int.neg_tmod, Int.neg_neg]
    have h1 := Int.tmod_nonneg m (show 0 ≤ -a by omega)
    have h2 := Int.tmod_lt_of_pos (-a) hm
    omega
  · have h1 := Int.tmod_nonneg m h
    have h2 := Int.tmod_lt_of_pos a hm
    omega

end Go.Proofs.Ytbkkiphoohlhkaa
