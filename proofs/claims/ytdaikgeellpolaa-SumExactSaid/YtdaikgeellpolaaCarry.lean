/- Sums and differences of whole numbers limb by limb (no program here). -/
import Derived.Test.YtdaikgeellpolaaLimbs
namespace Go.Proofs.Ytdaikgeellpolaa
open Go.RowKit
set_option linter.unusedVariables false

/-- What is carried into limb k of V + W. -/
def carN (V W k : Nat) : Int := ((V % 2 ^ (64 * k) + W % 2 ^ (64 * k)) / 2 ^ (64 * k) : Nat)
theorem car_zero (V W : Nat) : carN V W 0 = 0 := by unfold carN; simp [Nat.mod_one]
theorem car_lt (V W k : Nat) : (V % 2 ^ (64 * k) + W % 2 ^ (64 * k)) / 2 ^ (64 * k) < 2 := by
  have hp := np2 (64 * k)
  have a := Nat.mod_lt V hp
  have b := Nat.mod_lt W hp
  rw [Nat.div_lt_iff_lt_mul hp]; omega
theorem car_01 (V W k : Nat) : carN V W k = 0 ∨ carN V W k = 1 := by
  have := car_lt V W k
  unfold carN
  generalize (V % 2 ^ (64 * k) + W % 2 ^ (64 * k)) / 2 ^ (64 * k) = x at *
  omega
theorem div_both (V W P : Nat) (hp : 0 < P) : (V + W) / P = V / P + W / P + (V % P + W % P) / P := by
  have a := Nat.mod_add_div V P
  have b := Nat.mod_add_div W P
  have e : V + W = (V % P + W % P) + P * (V / P + W / P) := by rw [Nat.mul_add]; omega
  conv => lhs; rw [e]
  rw [Nat.add_mul_div_left _ _ hp]; omega
theorem car_next (V W P : Nat) (hp : 0 < P) : (V % (P * 2 ^ 64) + W % (P * 2 ^ 64)) / (P * 2 ^ 64) = ((V % P + W % P) / P + (V / P % 2 ^ 64 + W / P % 2 ^ 64)) / 2 ^ 64 := by
  rw [Nat.mod_mul, Nat.mod_mul, ← Nat.div_div_eq_div_mul]
  rw [show V % P + P * (V / P % 2 ^ 64) + (W % P + P * (W / P % 2 ^ 64)) = V % P + W % P + P * (V / P % 2 ^ 64 + W / P % 2 ^ 64) by rw [Nat.mul_add]; omega]
  rw [Nat.add_mul_div_left _ _ hp]
theorem car_step (V W k : Nat) : limb V k + limb W k + carN V W k = limb (V + W) k + 18446744073709551616 * carN V W (k + 1) := by
  unfold limb carN
  have hp := np2 (64 * k)
  have e : 2 ^ (64 * (k + 1)) = 2 ^ (64 * k) * 2 ^ 64 := by rw [← Nat.pow_add]; rfl
  rw [e, car_next V W _ hp, div_both V W _ hp]
  generalize (V % 2 ^ (64 * k) + W % 2 ^ (64 * k)) / 2 ^ (64 * k) = c
  generalize V / 2 ^ (64 * k) = v
  generalize W / 2 ^ (64 * k) = u
  omega
/-- A round of the sum, of the difference. -/
theorem plus_way (x y c s t : Int) (x0 : 0 ≤ x) (x1 : x ≤ 18446744073709551615) (y0 : 0 ≤ y) (y1 : y ≤ 18446744073709551615) (hc : c = 0 ∨ c = 1) (ht : t = 0 ∨ t = 1) (s0 : 0 ≤ s) (s1 : s ≤ 18446744073709551615)
    (h : x + y + c = s + 18446744073709551616 * t) :
    IntKind.u64.wrap (IntKind.u64.wrap (x + y) + c) = s ∧ ((IntKind.u64.wrap (x + y) < x ∨ IntKind.u64.wrap (IntKind.u64.wrap (x + y) + c) < IntKind.u64.wrap (x + y)) ↔ t = 1) := by
  simp only [IntKind.wrap_u64]; omega
theorem minus_way (x y c s t : Int) (x0 : 0 ≤ x) (x1 : x ≤ 18446744073709551615) (y0 : 0 ≤ y) (y1 : y ≤ 18446744073709551615) (hc : c = 0 ∨ c = 1) (ht : t = 0 ∨ t = 1) (s0 : 0 ≤ s) (s1 : s ≤ 18446744073709551615)
    (h : y + s + c = x + 18446744073709551616 * t) :
    IntKind.u64.wrap (IntKind.u64.wrap (x - y) - c) = s ∧ ((x < y ∨ IntKind.u64.wrap (x - y) < c) ↔ t = 1) := by
  simp only [IntKind.wrap_u64]; omega
end Go.Proofs.Ytdaikgeellpolaa
