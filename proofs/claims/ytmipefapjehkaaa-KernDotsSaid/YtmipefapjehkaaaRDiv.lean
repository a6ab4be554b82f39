/- The contract of the reference's Div. (Written by gen14.py.) -/
import Derived.Test.YtmipefapjehkaaaNans
import Derived.Test.YtmipefapjehkaaaRMul
import Derived.KernelRfl
import Derived.Deep.RegionWith
namespace Go.Proofs.Ytmipefapjehkaaa
open Go.RowKit
set_option linter.unusedVariables false
set_option linter.unusedSimpArgs false

/-- The loop's number is M moved by i. -/
structure UpAt (M e X N : Int) (i : Nat) : Prop where
  num : X = M * 2 ^ i
  exp : N = e - (i : Int)
  pos : 0 < X
  lim : X < 16777216
  low : i ≤ 23

theorem upat_zero (M e : Int) (h0 : 0 < M) (h1 : M < 16777216) : UpAt M e M e 0 := ⟨by omega, by omega, h0, h1, by omega⟩

theorem upat_next (M e X N : Int) (i : Nat) (h0 : 0 < M) (h : UpAt M e X N i) (c : X < 8388608) : UpAt M e (X * 2) (N - 1) (i + 1) := by
  obtain ⟨a, b, p, l, w⟩ := h
  have hp := pow2_pos i
  have hi : i ≤ 22 := by
    rcases Nat.lt_or_ge i 23 with g | g
    · omega
    · exfalso
      have h23 : (2 : Int) ^ 23 ≤ 2 ^ i := pow2_le g
      have h1 : 1 * 2 ^ i ≤ M * 2 ^ i := Int.mul_le_mul_of_nonneg_right (by omega) (by omega)
      have e23 : (2 : Int) ^ 23 = 8388608 := by decide
      omega
  refine ⟨by rw [a, Int.pow_succ, Int.mul_assoc], by omega, by omega, by omega, by omega⟩

end Go.Proofs.Ytmipefapjehkaaa
