/- Contracts of the reference's wide numbers: sums of any signs, rounded. -/
import Derived.Test.YtheaeclojljecaaRows
import Derived.Test.YtheaeclojljecaaWide
import Derived.Test.YtheaeclojljecaaWideD
import Derived.Test.YtheaeclojljecaaWideE
import Derived.Test.YtheaeclojljecaaWideG
namespace Go.Proofs.Ytheaeclojljecaa
open Go.RowKit
set_option linter.unusedVariables false
set_option linter.unusedSimpArgs false

/-! Contracts of the reference's wide numbers: sums of any signs, rounded. -/
/-- The sign and the amount of a sum. -/
def sgT (n : Bool) (V : Nat) (m : Bool) (W : Nat) : Bool := if n = m then n else if V < W then m else n

def amT (n : Bool) (V : Nat) (m : Bool) (W : Nat) : Nat := if n = m then V + W else if V < W then W - V else V - W

theorem pow_twice (k : Nat) : 2 ^ (64 * k) + 2 ^ (64 * k) ≤ 2 ^ (64 * (k + 1)) := by
  have : 2 ^ (64 * k + 1) ≤ 2 ^ (64 * (k + 1)) := Nat.pow_le_pow_right (by decide) (by omega)
  rw [Nat.pow_succ] at this; omega

theorem amt_fit_k (n : Bool) (V : Nat) (m : Bool) (W k : Nat) (hV : FitN V k) (hW : FitN W k) : FitN (amT n V m W) (k + 1) := by
  have a := hV.out
  have b := hW.out
  have c := pow_twice k
  refine ⟨?_⟩
  unfold amT
  generalize 2 ^ (64 * k) = P at *
  generalize 2 ^ (64 * (k + 1)) = Q at *
  (repeat' split) <;> omega

theorem amt_fit (n : Bool) (V : Nat) (m : Bool) (W : Nat) (hV : FitN V 9) (hW : FitN W 9) : FitN (amT n V m W) 10 := amt_fit_k n V m W 9 hV hW

theorem fit_more (V k : Nat) (h : FitN V k) : FitN V (k + 1) :=
  ⟨Nat.lt_of_lt_of_le h.out (Nat.pow_le_pow_right (by decide) (by omega))⟩

theorem fit_ten (V : Nat) (h : FitN V 9) : FitN V 10 := fit_more V 9 h

theorem fit_up (V : Nat) (h : FitN V 9) : V < 2 ^ (64 * 10) := (fit_ten V h).out

/-! The contract of the reference's rounded total. -/
/-- A number, and whether it was invalid. -/
def excE (v : Int) (inv : Bool) : Ending := .returned (.tuple #[.int .u32 v, .agg #[.bool inv, .bool false, .bool false, .bool false, .bool false]])

theorem excE_is (v : Int) (inv : Bool) : .returned (.tuple #[.int .u32 v, .agg #[.bool inv, .bool false, .bool false, .bool false, .bool false]]) = excE v inv := rfl

/-- A total of two with signs, in units of 2 to -298, rounded. -/
def totE (f mode : Int) (n : Bool) (V : Nat) (m : Bool) (W : Nat) : Ending :=
  if amT n V m W = 0 then excE (zerI f (mode == 3)) false else PackE f mode (sgT n V m W) (upN (amT n V m W))

end Go.Proofs.Ytheaeclojljecaa
