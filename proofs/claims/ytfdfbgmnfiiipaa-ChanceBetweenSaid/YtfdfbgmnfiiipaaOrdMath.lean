/- Which of two bits is greater, as plain numbers (no program here). -/
import Derived.Test.YtfdfbgmnfiiipaaRKey
import Derived.Test.YtfdfbgmnfiiipaaNans
namespace Go.Proofs.Ytfdfbgmnfiiipaa
open Go.RowKit
set_option linter.unusedVariables false
set_option linter.unusedSimpArgs false

/-- Are both numbers? -/
def cmpO (f a b : Int) : Bool := !(nanB f a || nanB f b)

/-- Below, as great, above. -/
def cmpC (f a b : Int) : Int :=
  if (nanB f a || nanB f b) = true then 0 else if (nouB f a && nouB f b) = true then 0 else if keyI f a < keyI f b then -1 else if keyI f b < keyI f a then 1 else 0

def lesB (f a b : Int) : Bool := cmpO f a b && decide (cmpC f a b < 0)

/-- One of both: b's bits, a's, or the plain NaN. -/
def pickI (f a b : Int) (first : Bool) : Int :=
  if (nanB f a && nanB f b) = true then nanI f else if (nanB f a || (!nanB f b && !first)) = true then bits .and .u32 b (msk f) else bits .and .u32 a (msk f)

def minO (f a b : Int) : Int := pickI f a b (decide (keyI f a ≤ keyI f b))

def maxO (f a b : Int) : Int := pickI f a b (decide (keyI f b ≤ keyI f a))

theorem cmp_bd (f a b : Int) : -1 ≤ cmpC f a b ∧ cmpC f a b ≤ 1 := by unfold cmpC; (repeat' split) <;> omega

theorem key_bd (f v : Int) (h0 : 0 ≤ v) : -2147483648 ≤ keyI f v ∧ keyI f v ≤ 2147483647 := by
  have hs : 0 < sgb f ∧ sgb f ≤ 2147483648 := by unfold sgb; (repeat' split) <;> decide
  have hb0 : 0 ≤ v % sgb f := Int.emod_nonneg _ (by omega)
  have hb1 : v % sgb f < sgb f := Int.emod_lt_of_pos _ hs.1
  unfold keyI
  split <;> omega
end Go.Proofs.Ytfdfbgmnfiiipaa
