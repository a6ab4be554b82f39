/- The contract of the reference's Fma. (Written by gen11.py.) The contracts of annealref10's operations of Singles. (Written by gen29.py.) The contracts of annealref10's functions. (Written by gen30.py.) The contract of annealref10's Log. (Written by gen31.py.) -/
import Derived.Test.YtmipefapjehkaaaRFmaZ
import Derived.Test.YtmipefapjehkaaaRFmaI
import Derived.Test.YtmipefapjehkaaaRFmaO
import Derived.Test.YtmipefapjehkaaaFunMath
import Derived.Test.YtmipefapjehkaaaRMul
import Derived.Test.YtmipefapjehkaaaRDiv
import Derived.Test.YtmipefapjehkaaaAdd
import Derived.Test.YtmipefapjehkaaaRWhoB
import Derived.Lib.Hide
namespace Go.Proofs.Ytmipefapjehkaaa
open Go.RowKit
set_option linter.unusedVariables false
set_option linter.unusedSimpArgs false

theorem rfma_any (f mode a b c : Int) (w : World) (a0 : 0 ≤ a) (a1 : a ≤ 4294967295) (b0 : 0 ≤ b) (b1 : b ≤ 4294967295) (c0 : 0 ≤ c) (c1 : c ≤ 4294967295) :
    Calls Try.prog 58 #[.int .i64 f, .int .i64 mode, .int .u32 a, .int .u32 b, .int .u32 c] w fun e w' => e = fmaE f mode a b c ∧ Grown w w' := by
  rcases nou_inf f a with h | h | h
  · exact rfma_Z f mode a b c w a0 a1 b0 b1 c0 c1 h
  · exact rfma_I f mode a b c w a0 a1 b0 b1 c0 c1 h
  · exact rfma_O f mode a b c w a0 a1 b0 b1 c0 c1 h

/-- Block b begins with the values of L. -/
structure CellsAt (b : Nat) (L : List Value) (W : World) : Prop where
  lies : b < W.heap.size
  cell : ∀ i (h : i < L.length), W.cell? ⟨b, i, none⟩ = some L[i]

theorem CellsAt.grown {b : Nat} {L : List Value} {W W' : World} (h : CellsAt b L W) (g : Grown W W') : CellsAt b L W' :=
  ⟨Nat.lt_of_lt_of_le h.lies g.2.2, fun i hi => grown_cell g (h.cell i hi) h.lies⟩

theorem cells_new (W : World) (L : List Value) (t : TypeId) : CellsAt W.heap.size L (W.alloc (.cells L.toArray t)) := by
  refine ⟨by show W.heap.size < (W.heap.push _).size; simp, fun i hi => ?_⟩
  rw [World.cell?_alloc_at (hn := rfl)]
  simp [hi]

set_option maxHeartbeats 1000000 in
theorem nfma_any (a b c : Int) (w : World) (a0 : 0 ≤ a) (a1 : a ≤ 4294967295) (b0 : 0 ≤ b) (b1 : b ≤ 4294967295) (c0 : 0 ≤ c) (c1 : c ≤ 4294967295) :
    Calls Try.prog 35 #[.int .u32 a, .int .u32 b, .int .u32 c] w fun e w' => e = .returned (.int .u32 (fmaV a b c)) ∧ 0 ≤ fmaV a b c ∧ fmaV a b c ≤ 4294967295 ∧ Grown w w' := by
  obtain ⟨V, hV⟩ : ∃ V, fmaV a b c = V := ⟨_, rfl⟩
  obtain ⟨q1, q2, q3, q4, q5, hs, h0, h1⟩ := op_val (fma_shape 2 0 a b c) hV
  rw [hV]
  have HS := Lib.hid hs
  clear hs hV
  go_enter Try.func35, Try.ntmps35
  go_wp2_with fail
  refine (rfma_any 2 0 a b c _ a0 a1 b0 b1 c0 c1).mono ?_
  rintro e W1 ⟨he, hW1⟩
  rw [HS.out] at he
  subst he
  have HG := Lib.hid hW1
  clear hW1
  go_wp2
  go_ret
  exact ⟨rfl, h0, h1, by repeat (first | with_reducible exact HG.out | with_reducible refine Grown.setCell ?_ (by simp <;> omega) _ | with_reducible refine Grown.alloc ?_ _ _ | with_reducible refine grown_more ?_ _ | with_reducible refine Grown.drew ?_)⟩

theorem abs_code (x : Int) (x0 : 0 ≤ x) (x1 : x ≤ 4294967295) : bits .andNot .u32 x 2147483648 = absI x := by
  have h := no_sign 2 x x0 x1
  rw [low_is 2 x x0 (by rw [show msk 2 = 4294967295 by rfl]; exact x1)] at h
  exact h

/-- What the loop leaves of a number that isn't nought: it is moved up until it has all its bits. -/
structure LogAt (M E m e : Int) : Prop where
  ok : ∃ j : Nat, (j : Int) ≤ 24 - lenI M ∧ m = M * 2 ^ j ∧ e = E - j

theorem len_two (M : Int) (m0 : 0 < M) (m1 : M < 16777216) : 1 ≤ lenI M ∧ lenI M ≤ 24 ∧ 2 ^ (lenI M - 1).toNat ≤ M ∧ M < 2 ^ (lenI M).toNat := by
  obtain ⟨X, rfl⟩ := Int.eq_ofNat_of_zero_le (Int.le_of_lt m0)
  have hl := len_log (X : Int) m0
  rw [Int.toNat_natCast] at hl
  have h1 := Nat.log2_self_le (n := X) (by omega)
  have h2 := Nat.lt_log2_self (n := X)
  have h3 : X.log2 < 24 := (Nat.log2_lt (by omega)).2 (by omega)
  rw [hl, show ((X.log2 : Int) + 1 - 1).toNat = X.log2 by omega, show ((X.log2 : Int) + 1).toNat = X.log2 + 1 by omega, pow2_cast, pow2_cast]
  exact ⟨by omega, by omega, by omega, by omega⟩

theorem log_bits (m : Int) (m0 : 0 ≤ m) (m1 : m < 16777216) : bits .or .u32 1065353216 (bits .and .u64 m 8388607 % 4294967296) = 1065353216 + m % 8388608 := by
  have e : bits .and .u64 m 8388607 = m % 8388608 := by
    rw [u64_and m 8388607 m0 (by omega) (by omega) (by omega), show (8388607 : Int).toNat = 2 ^ 23 - 1 by decide, Nat.and_two_pow_sub_one_eq_mod]
    omega
  rw [e, Int.emod_eq_of_lt (by omega) (by omega)]
  exact or32 127 _ 23 (by omega) (by omega) (by omega) (by decide) (by omega)

theorem logat_start (M E : Int) (m0 : 0 < M) (m1 : M < 16777216) : LogAt M E M E := ⟨0, by have := len_two M m0 m1; omega, by simp, by simp⟩

theorem logat_bd {M E m e : Int} (h : LogAt M E m e) (m0 : 0 < M) (m1 : M < 16777216) : 0 < m ∧ m < 16777216 ∧ E - 24 ≤ e ∧ e ≤ E := by
  obtain ⟨j, hj, rfl, rfl⟩ := h.ok
  obtain ⟨l0, l1, l2, l3⟩ := len_two M m0 m1
  have hp := pow2_pos j
  have a : M * 2 ^ j < 2 ^ (lenI M).toNat * 2 ^ j := Int.mul_lt_mul_of_pos_right l3 hp
  rw [← Int.pow_add] at a
  have b : (2 : Int) ^ ((lenI M).toNat + j) ≤ 2 ^ 24 := pow2_le (by omega)
  have e24 : (2 : Int) ^ 24 = 16777216 := by decide
  exact ⟨Int.mul_pos m0 hp, by omega, by omega, by omega⟩

theorem logat_more {M E m e : Int} (h : LogAt M E m e) (m0 : 0 < M) (m1 : M < 16777216) (c : m < 8388608) : LogAt M E (m * 2) (e - 1) := by
  obtain ⟨j, hj, rfl, rfl⟩ := h.ok
  obtain ⟨l0, l1, l2, l3⟩ := len_two M m0 m1
  refine ⟨j + 1, ?_, by rw [Int.pow_succ, Int.mul_assoc], by omega⟩
  rcases Int.lt_or_le (j : Int) (24 - lenI M) with g | g
  · omega
  · exfalso
    have a : 2 ^ (lenI M - 1).toNat * 2 ^ j ≤ M * 2 ^ j := Int.mul_le_mul_of_nonneg_right l2 (Int.le_of_lt (pow2_pos j))
    rw [← Int.pow_add, show (lenI M - 1).toNat + j = 23 by omega] at a
    have e23 : (2 : Int) ^ 23 = 8388608 := by decide
    omega

theorem logat_end {M E m e : Int} (h : LogAt M E m e) (m0 : 0 < M) (m1 : M < 16777216) (c : ¬ m < 8388608) : m = M * 2 ^ (24 - lenI M).toNat ∧ e + 23 = E + (lenI M - 1) := by
  obtain ⟨j, hj, rfl, rfl⟩ := h.ok
  obtain ⟨l0, l1, l2, l3⟩ := len_two M m0 m1
  have hjj : (j : Int) = 24 - lenI M := by
    rcases Int.lt_or_le (j : Int) (24 - lenI M) with g | g
    · exfalso
      have a : M * 2 ^ j < 2 ^ (lenI M).toNat * 2 ^ j := Int.mul_lt_mul_of_pos_right l3 (pow2_pos j)
      rw [← Int.pow_add] at a
      have b : (2 : Int) ^ ((lenI M).toNat + j) ≤ 2 ^ 23 := pow2_le (by omega)
      have e23 : (2 : Int) ^ 23 = 8388608 := by decide
      omega
    · omega
  exact ⟨by rw [show (24 - lenI M).toNat = j by omega], by omega⟩

end Go.Proofs.Ytmipefapjehkaaa
