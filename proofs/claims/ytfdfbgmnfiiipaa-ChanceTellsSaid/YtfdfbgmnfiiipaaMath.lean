/- Whole numbers bit by bit: what the functions of package bits come to, and what holds of them. No program. -/
import Derived.Laws.BitsAll
import Derived.Laws.MathBits
import Derived.WalkKit
import Derived.Deep.QuietTactic
namespace Go.Proofs.Ytfdfbgmnfiiipaa
open Go.RowKit
set_option linter.unusedVariables false

theorem ret_vb {k : IntKind} {a b : Int} {p q : Bool} (h : a = b) (g : p = q) : Ending.returned (.tuple #[.int k a, .bool p]) = .returned (.tuple #[.int k b, .bool q]) := by rw [h, g]

theorem ret_vv {k j : IntKind} {a b c d : Int} (h : a = b) (g : c = d) : Ending.returned (.tuple #[.int k a, .int j c]) = .returned (.tuple #[.int k b, .int j d]) := by rw [h, g]

theorem ret_bool {p q : Bool} (g : p = q) : Ending.returned (.bool p) = .returned (.bool q) := by rw [g]

theorem quiet_same {P : Program} {f : FuncId} {args : Array Value} {w : World} {n : Nat} {v : Value}
    (h : Calls P f args (w.drewN n) fun e w' => e = .returned v ∧ w.drewN n = w') : Calls P f args (w.drewN n) fun e w'' => e = .returned v ∧ ∃ m, w'' = w.drewN m :=
  h.mono fun _ _ ⟨he, hm⟩ => ⟨he, n, hm.symm⟩

theorem ret_int {k : IntKind} {a b : Int} (h : a = b) : Ending.returned (.int k a) = .returned (.int k b) := by rw [h]

theorem pow2_pos (n : Nat) : (0 : Int) < 2 ^ n := Int.pow_pos (by decide)

theorem pow2_cast (n : Nat) : (2 : Int) ^ n = ((2 ^ n : Nat) : Int) := by simp

theorem pow2_le {a b : Nat} (h : a ≤ b) : (2 : Int) ^ a ≤ 2 ^ b := by rw [pow2_cast, pow2_cast]; exact Int.ofNat_le.2 (Nat.pow_le_pow_right (by decide) h)

theorem pow2_mono64 {n : Nat} (h : n ≤ 63) : (2 : Int) ^ n ≤ 9223372036854775808 := pow2_le (b := 63) h

theorem pow2_ge64 {n : Nat} (h : 64 ≤ n) : (18446744073709551616 : Int) ≤ 2 ^ n := pow2_le (a := 64) h

theorem emod_mul_r (b c a : Int) (h : 0 < a) : b * a % (c * a) = b % c * a := by rw [Int.mul_comm b, Int.mul_comm c, Int.mul_emod_mul_of_pos _ _ h, Int.mul_comm]

theorem u64w (x : Int) (h0 : 0 ≤ x) (h1 : x ≤ 18446744073709551615) : IntKind.u64.wrap x = x := by rw [IntKind.wrap_u64]; omega

/-! Cut -/
def cutI (v n : Int) : Int := v % 2 ^ n.toNat

theorem cut_low (v n : Int) (h : n < 1) : (0 : Int) = cutI v n := by
  unfold cutI; rw [show n.toNat = 0 by omega]; simp only [Int.pow_zero]; omega

theorem cut_high (v n : Int) (h0 : 0 ≤ v) (h1 : v ≤ 18446744073709551615) (h : 63 < n) : v = cutI v n := by
  unfold cutI; have := pow2_ge64 (n := n.toNat) (by omega); rw [Int.emod_eq_of_lt h0 (by omega)]

theorem and_mask (v : Int) (n : Nat) (h0 : 0 ≤ v) (h1 : v ≤ 18446744073709551615) (hn : n ≤ 63) : bits .and .u64 v (2 ^ n - 1) = v % 2 ^ n := by
  have hp := pow2_pos n
  have hm := pow2_mono64 hn
  rw [u64_and v _ h0 (by omega) (by omega) (by omega)]
  obtain ⟨V, rfl⟩ := Int.eq_ofNat_of_zero_le h0
  rw [pow2_cast n]
  have : (((2 ^ n : Nat) : Int) - 1).toNat = 2 ^ n - 1 := by omega
  rw [this, Int.toNat_natCast, Nat.and_two_pow_sub_one_eq_mod, Int.natCast_emod]

theorem cut_mid (v n : Int) (h0 : 0 ≤ v) (h1 : v ≤ 18446744073709551615) (hn : n ≤ 63) :
    bits .and .u64 v (IntKind.u64.wrap (IntKind.u64.wrap (2 ^ n.toNat) - 1)) = cutI v n := by
  have hp := pow2_pos n.toNat
  have hm := pow2_mono64 (n := n.toNat) (by omega)
  rw [u64w (2 ^ n.toNat) (by omega) (by omega), u64w _ (by omega) (by omega)]
  exact and_mask v n.toNat h0 h1 (by omega)

theorem cut_bd (v n : Int) (h0 : 0 ≤ v) (h1 : v ≤ 18446744073709551615) : 0 ≤ cutI v n ∧ cutI v n ≤ 18446744073709551615 := by
  unfold cutI
  have hp := pow2_pos n.toNat
  have := Int.emod_nonneg v (Int.ne_of_gt hp)
  have := Int.emod_lt_of_pos v hp
  by_cases h : v < 2 ^ n.toNat
  · rw [Int.emod_eq_of_lt h0 h]; omega
  · omega

/-! Shift -/
def shV (v n : Int) : Int := if n < 0 then v * 2 ^ (-n).toNat % 18446744073709551616 else v / 2 ^ n.toNat

def shO (v n : Int) : Bool := if n < 0 then decide (18446744073709551616 ≤ v * 2 ^ (-n).toNat) else decide (v % 2 ^ n.toNat ≠ 0)

theorem sh_far_v (v n : Int) (h0 : 0 ≤ v) (h1 : v ≤ 18446744073709551615) (h : n ≤ -64 ∨ 64 ≤ n) : (0 : Int) = shV v n := by
  unfold shV
  rcases h with h | h
  · rw [if_pos (by omega), show (-n).toNat = 64 + ((-n).toNat - 64) by omega, Int.pow_add]
    rw [← Int.mul_assoc, Int.mul_comm v, Int.mul_assoc]
    exact (Int.mul_emod_right _ _).symm
  · rw [if_neg (by omega)]
    have := pow2_ge64 (n := n.toNat) (by omega)
    exact (Int.ediv_eq_zero_of_lt h0 (by omega)).symm

theorem sh_far_o (v n : Int) (h0 : 0 ≤ v) (h1 : v ≤ 18446744073709551615) (h : n ≤ -64 ∨ 64 ≤ n) : (v != 0) = shO v n := by
  unfold shO
  rcases h with h | h
  · rw [if_pos (by omega)]
    have hp := pow2_ge64 (n := (-n).toNat) (by omega)
    rw [Bool.eq_iff_iff, bne_iff_ne, decide_eq_true_eq]
    constructor
    · intro hv
      have : 1 * 2 ^ (-n).toNat ≤ v * 2 ^ (-n).toNat := Int.mul_le_mul_of_nonneg_right (by omega) (by omega)
      omega
    · rintro hv rfl
      simp at hv
  · rw [if_neg (by omega)]
    have := pow2_ge64 (n := n.toNat) (by omega)
    rw [Int.emod_eq_of_lt h0 (by omega), Bool.eq_iff_iff, bne_iff_ne, decide_eq_true_eq]

theorem sh_left_v (v n : Int) (h : n < 0) : v * 2 ^ (-n).toNat % 18446744073709551616 = shV v n := by
  unfold shV; rw [if_pos h]

theorem sh_left_v' (v n : Int) (h : n < 0) : IntKind.u64.wrap (v * 2 ^ (-n).toNat) = shV v n := by rw [IntKind.wrap_u64]; exact sh_left_v v n h

theorem sh_right_v (v n : Int) (h : 0 ≤ n) : v / 2 ^ n.toNat = shV v n := by
  unfold shV; rw [if_neg (by omega)]

theorem sh_right_o (v n : Int) (h : 0 ≤ n) : (cutI v n != 0) = shO v n := by
  unfold shO cutI; rw [if_neg (by omega), Bool.eq_iff_iff, bne_iff_ne, decide_eq_true_eq]

/-- Back again differs just where something went out. -/
theorem sh_left_o (v n : Int) (h0 : 0 ≤ v) (h : n < 0) (h64 : -64 < n) :
    (v * 2 ^ (-n).toNat % 18446744073709551616 / 2 ^ (-n).toNat != v) = shO v n := by
  unfold shO; rw [if_pos h, Bool.eq_iff_iff, bne_iff_ne, decide_eq_true_eq]
  have hp := pow2_pos (-n).toNat
  have hv : 0 ≤ v * 2 ^ (-n).toNat := Int.mul_nonneg h0 (by omega)
  constructor
  · intro hne
    refine Int.not_lt.1 fun hlt => hne ?_
    rw [Int.emod_eq_of_lt hv hlt, Int.mul_ediv_cancel _ (by omega)]
  · intro hge he
    have h2 : v * 2 ^ (-n).toNat % 18446744073709551616 < 18446744073709551616 := Int.emod_lt_of_pos _ (by decide)
    have h3 := Int.ediv_mul_le (v * 2 ^ (-n).toNat % 18446744073709551616) (b := 2 ^ (-n).toNat) (by omega)
    rw [he] at h3
    omega

theorem sh_left_o' (v n : Int) (h0 : 0 ≤ v) (h : n < 0) (h64 : -64 < n) : (IntKind.u64.wrap (v * 2 ^ (-n).toNat) / 2 ^ (-n).toNat != v) = shO v n := by
  rw [IntKind.wrap_u64]; exact sh_left_o v n h0 h h64

theorem shV_bd (v n : Int) (h0 : 0 ≤ v) (h1 : v ≤ 18446744073709551615) : 0 ≤ shV v n ∧ shV v n ≤ 18446744073709551615 := by
  unfold shV
  split
  · omega
  · have hp := pow2_pos n.toNat
    have a := Int.ediv_nonneg h0 (Int.le_of_lt hp)
    have b := Int.ediv_le_self (2 ^ n.toNat) h0
    omega

/-! Signed -/
def sgnI (v n : Int) : Int := if n < 1 then 0 else if 63 < n then IntKind.i64.wrap v else if 2 ^ (n - 1).toNat ≤ cutI v n then cutI v n - 2 ^ n.toNat else cutI v n

theorem pow2_step (n : Int) (h : 1 ≤ n) : (2 : Int) ^ n.toNat = 2 * 2 ^ (n - 1).toNat := by
  rw [show n.toNat = (n - 1).toNat + 1 by omega, Int.pow_succ, Int.mul_comm]

theorem pow2_64 (n : Nat) (h : n ≤ 64) : (2 : Int) ^ n * 2 ^ (64 - n) = 18446744073709551616 := by
  rw [← Int.pow_add, show n + (64 - n) = 64 by omega]
  decide

theorem pow2_63 (n : Int) (h1 : 1 ≤ n) (h2 : n ≤ 63) : (2 : Int) ^ (n - 1).toNat * 2 ^ (64 - n).toNat = 9223372036854775808 := by
  rw [← Int.pow_add, show (n - 1).toNat + (64 - n).toNat = 63 by omega]
  decide

theorem sgn_code (v n : Int) (h0 : 0 ≤ v) (h1 : v ≤ 18446744073709551615) (c1 : 1 ≤ n) (c2 : n ≤ 63) :
    IntKind.i64.wrap (v * 2 ^ (64 - n).toNat % 18446744073709551616) / 2 ^ (64 - n).toNat = sgnI v n := by
  unfold sgnI
  rw [if_neg (by omega), if_neg (by omega)]
  have hA := pow2_pos (64 - n).toNat
  have hN := pow2_pos n.toNat
  have e1 := pow2_63 n c1 c2
  have e2 := pow2_step n c1
  have e3 : (2 : Int) ^ n.toNat * 2 ^ (64 - n).toNat = 18446744073709551616 := by rw [e2, Int.mul_assoc, e1]; decide
  have em : v * 2 ^ (64 - n).toNat % 18446744073709551616 = cutI v n * 2 ^ (64 - n).toNat := by
    unfold cutI
    rw [← e3, emod_mul_r _ _ _ hA]
  have b0 : 0 ≤ cutI v n := Int.emod_nonneg _ (Int.ne_of_gt hN)
  have b1 : cutI v n < 2 ^ n.toNat := Int.emod_lt_of_pos _ hN
  rw [em]
  generalize cutI v n = c at *
  generalize (2 : Int) ^ (64 - n).toNat = A at *
  generalize (2 : Int) ^ (n - 1).toNat = M at *
  rw [e2] at b1 e3 ⊢
  have hcA : 0 ≤ c * A := Int.mul_nonneg b0 (Int.le_of_lt hA)
  have hcA2 : c * A < 18446744073709551616 := by rw [← e3]; exact Int.mul_lt_mul_of_pos_right b1 hA
  split
  · rename_i hc
    have : M * A ≤ c * A := Int.mul_le_mul_of_nonneg_right hc (Int.le_of_lt hA)
    have hw : IntKind.i64.wrap (c * A) = (c - 2 * M) * A := by
      rw [IntKind.wrap_i64, Int.sub_mul, e3]; omega
    rw [hw, Int.mul_ediv_cancel _ (by omega)]
  · rename_i hc
    have h3 : (c + 1) * A ≤ M * A := Int.mul_le_mul_of_nonneg_right (by omega) (Int.le_of_lt hA)
    rw [Int.add_mul] at h3
    have hw : IntKind.i64.wrap (c * A) = c * A := by
      rw [IntKind.wrap_i64]; omega
    rw [hw, Int.mul_ediv_cancel _ (by omega)]

theorem wrap64_is (x : Int) : wrap64 x = IntKind.i64.wrap x := by rw [IntKind.wrap_i64]; unfold wrap64; omega

theorem sgn_code' (v n : Int) (h0 : 0 ≤ v) (h1 : v ≤ 18446744073709551615) (c1 : 1 ≤ n) (c2 : n ≤ 63) :
    wrap64 (IntKind.u64.wrap (v * 2 ^ (64 - n).toNat)) / 2 ^ (64 - n).toNat = sgnI v n := by
  rw [wrap64_is, IntKind.wrap_u64]; exact sgn_code v n h0 h1 c1 c2

theorem sgn_high' (v n : Int) (h : 63 < n) : wrap64 v = sgnI v n := by rw [wrap64_is]; unfold sgnI; rw [if_neg (by omega), if_pos h]

theorem sgn_low (v n : Int) (h : n < 1) : (0 : Int) = sgnI v n := by unfold sgnI; rw [if_pos h]

theorem sgn_high (v n : Int) (h : 63 < n) : IntKind.i64.wrap v = sgnI v n := by unfold sgnI; rw [if_neg (by omega), if_pos h]

theorem cut_lt (v n : Int) (h : n ≤ 63) : cutI v n < 9223372036854775808 := by
  have := Int.emod_lt_of_pos v (pow2_pos n.toNat)
  have := pow2_mono64 (n := n.toNat) (by omega)
  unfold cutI; omega

/-- The top bit of what is cut, as the reference asks it. -/
theorem top_bit (v n : Int) (c1 : 1 ≤ n) (c2 : n ≤ 63) : cutI v n / 2 ^ (n - 1).toNat = if 2 ^ (n - 1).toNat ≤ cutI v n then 1 else 0 := by
  have hM := pow2_pos (n - 1).toNat
  have b0 : 0 ≤ cutI v n := Int.emod_nonneg _ (Int.ne_of_gt (pow2_pos n.toNat))
  have b1 : cutI v n < 2 ^ n.toNat := Int.emod_lt_of_pos _ (pow2_pos n.toNat)
  rw [pow2_step n c1] at b1
  generalize cutI v n = c at *
  generalize (2 : Int) ^ (n - 1).toNat = M at *
  split
  · rename_i h
    have : c = (c - M) + 1 * M := by omega
    rw [this, Int.add_mul_ediv_right _ _ (by omega), Int.ediv_eq_zero_of_lt (by omega) (by omega)]; rfl
  · exact Int.ediv_eq_zero_of_lt b0 (by omega)

theorem sgn_ref_neg (v n : Int) (c1 : 1 ≤ n) (c2 : n ≤ 63) (h : 2 ^ (n - 1).toNat ≤ cutI v n) : cutI v n - 2 ^ (n - 1).toNat - 2 ^ (n - 1).toNat = sgnI v n := by
  unfold sgnI
  rw [if_neg (by omega), if_neg (by omega), if_pos h, pow2_step n c1]; omega

theorem sgn_ref_pos (v n : Int) (c1 : 1 ≤ n) (c2 : n ≤ 63) (h : ¬ 2 ^ (n - 1).toNat ≤ cutI v n) : cutI v n = sgnI v n := by
  unfold sgnI
  rw [if_neg (by omega), if_neg (by omega), if_neg h]

/-! Rotate -/
def rot1 (v : Int) : Int := v * 2 % 4294967296 + v / 2147483648

def rotN : Nat → Int → Int
  | 0, v => v
  | k + 1, v => rot1 (rotN k v)

def rotI (v n : Int) : Int := rotN (n % 32).toNat v

theorem rot1_bd (v : Int) (h0 : 0 ≤ v) (h1 : v ≤ 4294967295) : 0 ≤ rot1 v ∧ rot1 v ≤ 4294967295 := by unfold rot1; omega

theorem rotN_bd (k : Nat) (v : Int) (h0 : 0 ≤ v) (h1 : v ≤ 4294967295) : 0 ≤ rotN k v ∧ rotN k v ≤ 4294967295 := by
  induction k with
  | zero => exact ⟨h0, h1⟩
  | succ k ih => exact rot1_bd _ ih.1 ih.2

theorem rotI_bd (v n : Int) (h0 : 0 ≤ v) (h1 : v ≤ 4294967295) : 0 ≤ rotI v n ∧ rotI v n ≤ 4294967295 := rotN_bd _ v h0 h1

theorem rotN_add (a b : Nat) (v : Int) : rotN (a + b) v = rotN a (rotN b v) := by
  induction a with
  | zero => simp [rotN]
  | succ a ih => rw [show a + 1 + b = (a + b) + 1 by omega, rotN, ih, rotN]

/-- k turns of one bit are one turn of k bits. -/
theorem rotN_closed (k : Nat) (v : Int) (h0 : 0 ≤ v) (h1 : v ≤ 4294967295) (hk : k ≤ 32) :
    rotN k v = v * 2 ^ k % 4294967296 + v / 2 ^ (32 - k) := by
  induction k with
  | zero => simp [rotN]; omega
  | succ k ih =>
    rw [rotN, ih (by omega)]
    have eB : (2 : Int) ^ (32 - k) = 2 * 2 ^ (31 - k) := by rw [show 32 - k = (31 - k) + 1 by omega, Int.pow_succ, Int.mul_comm]
    have eK : (2 : Int) ^ (k + 1) = 2 * 2 ^ k := by rw [Int.pow_succ, Int.mul_comm]
    have eP : (2 : Int) ^ k * 2 ^ (31 - k) = 2147483648 := by rw [← Int.pow_add, show k + (31 - k) = 31 by omega]; decide
    rw [show 32 - (k + 1) = 31 - k by omega, eB, eK]
    have hK := pow2_pos k
    have hB := pow2_pos (31 - k)
    generalize (2 : Int) ^ k = K at *
    generalize (2 : Int) ^ (31 - k) = B at *
    have e32 : (4294967296 : Int) = 2 * B * K := by rw [Int.mul_assoc, Int.mul_comm B, eP]; decide
    have e32' : (4294967296 : Int) = B * (2 * K) := by rw [Int.mul_comm, Int.mul_assoc, eP]; decide
    have m1 : v * K % 4294967296 = (v % (2 * B)) * K := by rw [e32, emod_mul_r _ _ _ hK]
    have m2 : v * (2 * K) % 4294967296 = (v % B) * (2 * K) := by rw [e32', emod_mul_r _ _ _ (by omega)]
    rw [m1, m2]
    -- v = q * 2B + b * B + r
    have d1 : v / (2 * B) = v / B / 2 := by rw [Int.mul_comm, Int.ediv_ediv_of_nonneg (by omega)]
    have d2 : v % (2 * B) = v / B % 2 * B + v % B := by
      have a1 := Int.emod_add_mul_ediv v (2 * B)
      have a2 := Int.emod_add_mul_ediv v B
      have a3 := Int.emod_add_mul_ediv (v / B) 2
      rw [d1] at a1
      generalize v / B = Q at *
      generalize v % B = R at *
      generalize Q / 2 = q at *
      generalize Q % 2 = b at *
      generalize v % (2 * B) = S at *
      subst a3
      grind
    rw [d1, d2]
    have r0 : 0 ≤ v % B := Int.emod_nonneg _ (by omega)
    have r1 : v % B < B := Int.emod_lt_of_pos _ hB
    have q0 : 0 ≤ v / B := Int.ediv_nonneg h0 (by omega)
    have q1 : v / B < 2 * K := by
      apply Int.ediv_lt_of_lt_mul hB
      rw [Int.mul_assoc, eP]; omega
    generalize v / B = Q at *
    generalize v % B = R at *
    have hRK : 0 ≤ R * K := Int.mul_nonneg r0 (Int.le_of_lt hK)
    have hRK2 : (R + 1) * K ≤ B * K := Int.mul_le_mul_of_nonneg_right (by omega) (Int.le_of_lt hK)
    rw [Int.add_mul, Int.mul_comm B, eP] at hRK2
    have hb : Q % 2 = 0 ∨ Q % 2 = 1 := by omega
    rw [Int.add_mul, Int.mul_assoc, Int.mul_comm B, eP, show R * (2 * K) = 2 * (R * K) by grind]
    unfold rot1
    generalize R * K = X at *
    omega

theorem rot_32 (v : Int) (h0 : 0 ≤ v) (h1 : v ≤ 4294967295) : rotN 32 v = v := by
  rw [rotN_closed 32 v h0 h1 (by omega)]; simp

theorem rot_mul32 (m : Nat) (v : Int) (h0 : 0 ≤ v) (h1 : v ≤ 4294967295) : rotN (32 * m) v = v := by
  induction m with
  | zero => rfl
  | succ m ih => rw [show 32 * (m + 1) = 32 + 32 * m by omega, rotN_add, ih, rot_32 v h0 h1]

theorem rot_mod (k : Nat) (v : Int) (h0 : 0 ≤ v) (h1 : v ≤ 4294967295) : rotN k v = rotN (k % 32) v := by
  rw [show k = k % 32 + 32 * (k / 32) by omega, rotN_add, rot_mul32 _ v h0 h1]
  congr 1; omega

theorem rotI_add (v a b : Int) (h0 : 0 ≤ v) (h1 : v ≤ 4294967295) : rotI (rotI v a) b = rotI v (a + b) := by
  unfold rotI
  rw [← rotN_add, rot_mod _ v h0 h1]
  congr 1; omega

theorem rotI_zero (v n : Int) (h : n % 32 = 0) : rotI v n = v := by unfold rotI; rw [h]; rfl

theorem and31 (n : Int) : bits .and .i64 n 31 = n % 32 := by
  have e : (BitVec.ofInt 64 n &&& BitVec.ofInt 64 31).toNat = (n % 32).toNat := by
    rw [BitVec.toNat_and]
    have e1 : (BitVec.ofInt 64 31).toNat = 2 ^ 5 - 1 := by decide
    rw [e1, Nat.and_two_pow_sub_one_eq_mod]
    have e2 : (BitVec.ofInt 64 n).toNat = (n % 18446744073709551616).toNat := by simp [BitVec.toNat_ofInt]
    rw [e2]; omega
  show IntKind.i64.wrap ((BitVec.ofInt 64 n &&& BitVec.ofInt 64 31).toNat : Int) = _
  rw [e, IntKind.wrap_i64]; omega

theorem or_rot (v : Int) (k : Nat) (h0 : 0 ≤ v) (h1 : v ≤ 4294967295) (hk : k ≤ 31) :
    bits .or .u32 (v * 2 ^ k % 4294967296) (v / 2 ^ (32 - k)) = rotN k v := by
  rw [rotN_closed k v h0 h1 (by omega)]
  have hK := pow2_pos k
  have hB := pow2_pos (32 - k)
  have eP : (2 : Int) ^ k * 2 ^ (32 - k) = 4294967296 := by rw [← Int.pow_add, show k + (32 - k) = 32 by omega]; decide
  have q0 : 0 ≤ v / 2 ^ (32 - k) := Int.ediv_nonneg h0 (by omega)
  have q1 : v / 2 ^ (32 - k) < 2 ^ k := Int.ediv_lt_of_lt_mul hB (by omega)
  have hk2 : (2 : Int) ^ k ≤ 4294967296 := pow2_le (b := 32) (by omega)
  have m1 : v * 2 ^ k % 4294967296 = v % 2 ^ (32 - k) * 2 ^ k := by rw [← eP, Int.mul_comm (2 ^ k), emod_mul_r _ _ _ hK]
  rw [u32_or _ _ (by omega) (by omega) q0 (by omega), m1]
  have r0 : 0 ≤ v % 2 ^ (32 - k) := Int.emod_nonneg _ (by omega)
  obtain ⟨R, hR⟩ := Int.eq_ofNat_of_zero_le r0
  obtain ⟨Q, hQ⟩ := Int.eq_ofNat_of_zero_le q0
  rw [hQ, pow2_cast k] at q1
  have hq : Q < 2 ^ k := Int.ofNat_lt.1 q1
  rw [hR, hQ]
  rw [pow2_cast, ← Int.natCast_mul, Int.toNat_natCast, Int.toNat_natCast, Nat.mul_comm, ← Nat.two_pow_add_eq_or_of_lt hq, Int.natCast_add]

theorem rot_code (v n : Int) (h0 : 0 ≤ v) (h1 : v ≤ 4294967295) :
    bits .or .u32 (IntKind.u32.wrap (v * 2 ^ (n % 32).toNat)) (v / 2 ^ (32 - n % 32).toNat) = rotI v n := by
  unfold rotI
  rw [IntKind.wrap_u32, ← or_rot v _ h0 h1 (by omega), show 32 - (n % 32).toNat = (32 - n % 32).toNat by omega]

theorem or_rot1 (v : Int) (h0 : 0 ≤ v) (h1 : v ≤ 4294967295) : bits .or .u32 (IntKind.u32.wrap (v * 2)) (v / 2147483648) = rot1 v := by
  have := or_rot v 1 h0 h1 (by omega)
  simp only [rotN] at this
  rw [IntKind.wrap_u32, ← this]; rfl

/-! Len -/
def lenI (v : Int) : Int := bitLen v.toNat

theorem len_step (v : Int) (s : Nat) (h0 : 0 ≤ v) (h : v / 2 ^ s ≠ 0) : lenI v = s + lenI (v / 2 ^ s) := by
  obtain ⟨V, rfl⟩ := Int.eq_ofNat_of_zero_le h0
  unfold lenI
  rw [pow2_cast, ← Int.natCast_ediv] at h ⊢
  rw [Int.toNat_natCast, Int.toNat_natCast, bitLen_shift V s (by omega)]; simp

theorem len_zero : lenI 0 = 0 := by decide

theorem len_one : lenI 1 = 1 := by decide

theorem len_bit (v : Int) (h0 : 0 ≤ v) (h1 : v ≤ 1) : lenI v = v := by
  have : v = 0 ∨ v = 1 := by omega
  rcases this with rfl | rfl <;> decide

theorem len_half (v : Int) (h : 0 < v) : lenI v = lenI (v / 2) + 1 := by
  by_cases h1 : v = 1
  · subst h1; decide
  · have := len_step v 1 (by omega) (by simp; omega)
    rw [this]; simp; omega

theorem len_nonneg (v : Int) : 0 ≤ lenI v := by unfold lenI; omega

theorem len_bd (v : Int) (n : Nat) (h0 : 0 ≤ v) (h1 : v < 2 ^ n) : lenI v ≤ n := by
  obtain ⟨V, rfl⟩ := Int.eq_ofNat_of_zero_le h0
  unfold lenI
  rw [pow2_cast] at h1
  rw [Int.toNat_natCast]
  by_cases hv : V = 0
  · subst hv; simp [bitLen]
  · have h2 := (bitLen_spec V).2 hv
    have h3 : 2 ^ (bitLen V - 1) < 2 ^ n := by omega
    have := (Nat.pow_lt_pow_iff_right (a := 2) (by decide)).1 h3
    omega

theorem len_le64 (v : Int) (h0 : 0 ≤ v) (h1 : v ≤ 18446744073709551615) : lenI v ≤ 64 := len_bd v 64 h0 (by simpa using by omega)

theorem len_lt (v : Int) (h0 : 0 ≤ v) : v < 2 ^ (lenI v).toNat := by
  obtain ⟨V, rfl⟩ := Int.eq_ofNat_of_zero_le h0
  unfold lenI
  rw [Int.toNat_natCast, Int.toNat_natCast, pow2_cast]
  exact Int.ofNat_lt.2 (bitLen_spec V).1

/-- Where a length stands that is counted by halves: x is less than b, n bits are counted. -/
def LenAt (v x n b : Int) : Prop := 0 ≤ x ∧ x < b ∧ 0 ≤ n ∧ n + lenI x = lenI v

theorem lenAt_start (v : Int) (h0 : 0 ≤ v) (h1 : v ≤ 18446744073709551615) : LenAt v v 0 18446744073709551616 := ⟨h0, by omega, by omega, by omega⟩

theorem lenAt_yes {v x n b c s : Int} (h : LenAt v x n b) (hn : x / c ≠ 0) (hc : c = 2 ^ s.toNat) (hs : 0 ≤ s) (hb : b = c * c) : LenAt v (x / c) (n + s) c := by
  obtain ⟨h0, h1, h2, h3⟩ := h
  have hp : 0 < c := by rw [hc]; exact pow2_pos _
  refine ⟨Int.ediv_nonneg h0 (by omega), Int.ediv_lt_of_lt_mul hp (by omega), by omega, ?_⟩
  have := len_step x s.toNat h0 (by rw [← hc]; exact hn)
  rw [← hc] at this
  omega

theorem lenAt_no {v x n b c : Int} (h : LenAt v x n b) (hn : x / c = 0) (hc : 0 < c) : LenAt v x n c := by
  obtain ⟨h0, h1, h2, h3⟩ := h
  refine ⟨h0, ?_, h2, h3⟩
  have := Int.emod_add_mul_ediv x c
  have := Int.emod_lt_of_pos x hc
  rw [hn] at *
  simp at *; omega

theorem lenAt_y {v x n b : Int} (c s : Int) (h : LenAt v x n b) (hn : (x / c != 0) = true) (hc : c = 2 ^ s.toNat) (hs : 0 ≤ s) (hb : b = c * c) : LenAt v (x / c) (n + s) c :=
  lenAt_yes h (bne_iff_ne.1 hn) hc hs hb

theorem lenAt_n {v x n b : Int} (c : Int) (h : LenAt v x n b) (hn : (x / c != 0) = false) (hc : 0 < c) : LenAt v x n c :=
  lenAt_no h (by simpa using hn) hc

theorem lenAt_end {v x n : Int} (h : LenAt v x n 2) : n + x = lenI v := by
  obtain ⟨h0, h1, h2, h3⟩ := h
  have := len_bit x h0 (by omega)
  omega

theorem lenAt_half {v x n b : Int} (h : LenAt v x n b) (hx : 0 < x) : LenAt v (x / 2) (n + 1) b := by
  obtain ⟨h0, h1, h2, h3⟩ := h
  have := len_half x hx
  exact ⟨by omega, by omega, by omega, by omega⟩

theorem lenAt_bd {v x n b : Int} (h : LenAt v x n b) (h0 : 0 ≤ v) (h1 : v ≤ 18446744073709551615) : 0 ≤ x ∧ x < b ∧ 0 ≤ n ∧ n ≤ 64 := by
  have := len_le64 v h0 h1
  have := len_nonneg x
  exact ⟨h.1, h.2.1, h.2.2.1, by have := h.2.2.2; omega⟩

/-! Root -/
def isq : Nat → Nat
  | 0 => 0
  | n + 1 => if (isq n + 1) * (isq n + 1) ≤ n + 1 then isq n + 1 else isq n

theorem isq_le (n : Nat) : isq n * isq n ≤ n ∧ n < (isq n + 1) * (isq n + 1) := by
  induction n with
  | zero => decide
  | succ n ih =>
    unfold isq
    split
    · rename_i h
      refine ⟨h, ?_⟩
      have : (isq n + 1 + 1) * (isq n + 1 + 1) = (isq n + 1) * (isq n + 1) + 2 * (isq n + 1) + 1 := by grind
      omega
    · rename_i h
      exact ⟨by omega, by omega⟩

theorem isq_unique (n r : Nat) (h1 : r * r ≤ n) (h2 : n < (r + 1) * (r + 1)) : r = isq n := by
  obtain ⟨a, b⟩ := isq_le n
  rcases Nat.lt_trichotomy r (isq n) with h | h | h
  · have := Nat.mul_le_mul (show r + 1 ≤ isq n from h) (show r + 1 ≤ isq n from h); omega
  · exact h
  · have := Nat.mul_le_mul (show isq n + 1 ≤ r from h) (show isq n + 1 ≤ r from h); omega

def rootI (v : Int) : Int := isq v.toNat

theorem root_le (v : Int) (h0 : 0 ≤ v) : 0 ≤ rootI v ∧ rootI v * rootI v ≤ v ∧ v < (rootI v + 1) * (rootI v + 1) := by
  obtain ⟨V, rfl⟩ := Int.eq_ofNat_of_zero_le h0
  obtain ⟨a, b⟩ := isq_le V
  unfold rootI
  rw [Int.toNat_natCast]
  refine ⟨by omega, by exact_mod_cast a, by exact_mod_cast b⟩

theorem root_unique (v r : Int) (hr : 0 ≤ r) (h1 : r * r ≤ v) (h2 : v < (r + 1) * (r + 1)) : r = rootI v := by
  have h0 : 0 ≤ v := Int.le_trans (Int.mul_nonneg hr hr) h1
  obtain ⟨V, rfl⟩ := Int.eq_ofNat_of_zero_le h0
  obtain ⟨R, rfl⟩ := Int.eq_ofNat_of_zero_le hr
  unfold rootI
  rw [Int.toNat_natCast]
  exact_mod_cast isq_unique V R (by exact_mod_cast h1) (by exact_mod_cast h2)

theorem sq_lt_of (r B : Int) (hB : 0 ≤ B) (h : r * r < B * B) : r < B := by
  refine Int.not_le.1 fun hge => ?_
  have := Int.mul_le_mul hge hge hB (Int.le_trans hB hge)
  omega

theorem root_bd (v : Int) (h0 : 0 ≤ v) (h1 : v ≤ 18446744073709551615) : 0 ≤ rootI v ∧ rootI v ≤ 4294967295 := by
  obtain ⟨a, b, _⟩ := root_le v h0
  have := sq_lt_of (rootI v) 4294967296 (by decide) (by omega)
  omega

/-- Where a root stands that is tried from its upper bits down: k bits are not known yet. -/
def RootRel (v : Int) (k : Nat) (r : Int) : Prop := k ≤ 32 ∧ (∃ m : Nat, r = m * 2 ^ k) ∧ r * r ≤ v ∧ v < (r + 2 ^ k) * (r + 2 ^ k)

theorem rootRel_bd {v r : Int} {k : Nat} (h : RootRel v k r) (hv : v ≤ 18446744073709551615) : 0 ≤ r ∧ r + 2 ^ k ≤ 4294967296 := by
  obtain ⟨hk, ⟨m, rfl⟩, h1, h2⟩ := h
  have hp := pow2_pos k
  have e : (2 : Int) ^ k * 2 ^ (32 - k) = 4294967296 := by rw [← Int.pow_add, show k + (32 - k) = 32 by omega]; decide
  have r0 : 0 ≤ (m : Int) * 2 ^ k := Int.mul_nonneg (by omega) (Int.le_of_lt hp)
  have := sq_lt_of _ 4294967296 (by decide) (Int.lt_of_le_of_lt h1 (by omega))
  refine ⟨r0, ?_⟩
  generalize (2 : Int) ^ k = K at *
  generalize (2 : Int) ^ (32 - k) = B at *
  have hm : (m : Int) < B := by
    refine Int.not_le.1 fun hge => ?_
    have h3 := Int.mul_le_mul_of_nonneg_right hge (Int.le_of_lt hp)
    rw [Int.mul_comm B, e] at h3
    omega
  have h4 : ((m : Int) + 1) * K ≤ B * K := Int.mul_le_mul_of_nonneg_right (by omega) (Int.le_of_lt hp)
  rw [Int.mul_comm B, e, Int.add_mul] at h4
  omega

theorem or_pow (m k : Nat) (h : (m : Int) * 2 ^ (k + 1) + 2 ^ (k + 1) ≤ 4294967296) : bits .or .u64 ((m : Int) * 2 ^ (k + 1)) (2 ^ k) = m * 2 ^ (k + 1) + 2 ^ k := by
  have hp := pow2_pos k
  have hq := pow2_pos (k + 1)
  have hl : (2 : Int) ^ k ≤ 2 ^ (k + 1) := pow2_le (by omega)
  have r0 : 0 ≤ (m : Int) * 2 ^ (k + 1) := Int.mul_nonneg (by omega) (Int.le_of_lt hq)
  rw [u64_or _ _ r0 (by omega) (by omega) (by omega)]
  have e1 : ((m : Int) * 2 ^ (k + 1)).toNat = 2 ^ (k + 1) * m := by rw [pow2_cast, ← Int.natCast_mul, Int.toNat_natCast, Nat.mul_comm]
  have e2 : ((2 : Int) ^ k).toNat = 2 ^ k := by rw [pow2_cast, Int.toNat_natCast]
  rw [e1, e2, ← Nat.two_pow_add_eq_or_of_lt (Nat.pow_lt_pow_right (by decide) (by omega))]
  rw [pow2_cast, pow2_cast]
  simp only [Int.natCast_add, Int.natCast_mul, Int.mul_comm]

theorem rootRel_or {v r a : Int} (h : RootRel v (a + 1).toNat r) (ha : 0 ≤ a) (hv : v ≤ 18446744073709551615) :
    bits .or .u64 r (IntKind.u64.wrap (2 ^ a.toNat)) = r + 2 ^ a.toNat ∧ 0 ≤ r + 2 ^ a.toNat ∧ r + 2 ^ a.toNat ≤ 4294967295 := by
  have hb := rootRel_bd h hv
  obtain ⟨hk, ⟨m, rfl⟩, h1, h2⟩ := h
  rw [show (a + 1).toNat = a.toNat + 1 by omega] at *
  have hp := pow2_pos a.toNat
  have hs : (2 : Int) ^ (a.toNat + 1) = 2 * 2 ^ a.toNat := by rw [Int.pow_succ, Int.mul_comm]
  rw [u64w _ (by omega) (by omega)]
  exact ⟨or_pow m a.toNat hb.2, by omega, by omega⟩

theorem rootRel_yes {v r a : Int} (h : RootRel v (a + 1).toNat r) (ha : 0 ≤ a) (ht : (r + 2 ^ a.toNat) * (r + 2 ^ a.toNat) ≤ v) : RootRel v a.toNat (r + 2 ^ a.toNat) := by
  obtain ⟨hk, ⟨m, rfl⟩, h1, h2⟩ := h
  rw [show (a + 1).toNat = a.toNat + 1 by omega] at *
  have hs : (2 : Int) ^ (a.toNat + 1) = 2 * 2 ^ a.toNat := by rw [Int.pow_succ, Int.mul_comm]
  rw [hs] at h1 h2 ht ⊢
  refine ⟨by omega, ⟨2 * m + 1, by push_cast; grind⟩, ht, ?_⟩
  rw [show (m : Int) * (2 * 2 ^ a.toNat) + 2 ^ a.toNat + 2 ^ a.toNat = m * (2 * 2 ^ a.toNat) + 2 * 2 ^ a.toNat by omega]
  exact h2

theorem rootRel_no {v r a : Int} (h : RootRel v (a + 1).toNat r) (ha : 0 ≤ a) (ht : ¬ (r + 2 ^ a.toNat) * (r + 2 ^ a.toNat) ≤ v) : RootRel v a.toNat r := by
  obtain ⟨hk, ⟨m, rfl⟩, h1, h2⟩ := h
  rw [show (a + 1).toNat = a.toNat + 1 by omega] at *
  have hs : (2 : Int) ^ (a.toNat + 1) = 2 * 2 ^ a.toNat := by rw [Int.pow_succ, Int.mul_comm]
  rw [hs] at h1 h2 ht ⊢
  exact ⟨by omega, ⟨2 * m, by push_cast; grind⟩, h1, by omega⟩

theorem rootRel_end {v r : Int} (h : RootRel v 0 r) (hv : v ≤ 18446744073709551615) : r = rootI v :=
  root_unique v r (rootRel_bd h hv).1 h.2.2.1 (by simpa using h.2.2.2)

theorem rootRel_start {v : Int} (k : Nat) (hk : k ≤ 32) (h0 : 0 ≤ v) (h : v < 2 ^ (2 * k)) : RootRel v k 0 := by
  refine ⟨hk, ⟨0, by simp⟩, by simpa using h0, ?_⟩
  rw [Int.zero_add, ← Int.pow_add, show k + k = 2 * k by omega]; exact h

theorem u64w_bd (x : Int) : 0 ≤ IntKind.u64.wrap x ∧ IntKind.u64.wrap x ≤ 18446744073709551615 := by rw [IntKind.wrap_u64]; omega
/-! Product -/
def prodH (a b : Int) : Int := a * b / 18446744073709551616

def prodL (a b : Int) : Int := a * b % 18446744073709551616

theorem prod_code (x y : Int) (hx0 : 0 ≤ x) (hx : x ≤ 18446744073709551615) (hy0 : 0 ≤ y) (hy : y ≤ 18446744073709551615) :
    IntKind.u64.wrap
      (IntKind.u64.wrap
          (IntKind.u64.wrap (x / 4294967296 * (y / 4294967296)) +
            IntKind.u64.wrap
                (IntKind.u64.wrap (x / 4294967296 * (y % 4294967296)) +
                  IntKind.u64.wrap (x % 4294967296 * (y % 4294967296)) / 4294967296) /
              4294967296) +
        IntKind.u64.wrap
            (IntKind.u64.wrap (x % 4294967296 * (y / 4294967296)) +
              IntKind.u64.wrap
                  (IntKind.u64.wrap (x / 4294967296 * (y % 4294967296)) +
                    IntKind.u64.wrap (x % 4294967296 * (y % 4294967296)) / 4294967296) %
                4294967296) /
          4294967296) = prodH x y := by
  unfold prodH
  rw [← mul64_arith x y hx0 (by omega) hy0 (by omega)]
  simp only [IntKind.wrap_u64]
  generalize x / 4294967296 * (y / 4294967296) = A
  generalize x / 4294967296 * (y % 4294967296) = B
  generalize x % 4294967296 * (y % 4294967296) = C
  generalize x % 4294967296 * (y / 4294967296) = D
  omega

theorem prod_low (x y : Int) : IntKind.u64.wrap (x * y) = prodL x y := by rw [IntKind.wrap_u64]; rfl

theorem prod_ref (x y : Int) (hx0 : 0 ≤ x) (hx : x ≤ 18446744073709551615) (hy0 : 0 ≤ y) (hy : y ≤ 18446744073709551615) (p q r s mid : Int)
    (hp : p = x % 4294967296 * (y % 4294967296)) (hq : q = x / 4294967296 * (y % 4294967296)) (hr : r = x % 4294967296 * (y / 4294967296)) (hs : s = x / 4294967296 * (y / 4294967296))
    (hm : mid = p / 4294967296 + q % 4294967296 + r % 4294967296) :
    s + q / 4294967296 + r / 4294967296 + mid / 4294967296 = prodH x y ∧ p % 4294967296 + mid % 4294967296 * 4294967296 = prodL x y ∧
    0 ≤ p ∧ p ≤ 18446744065119617025 ∧ 0 ≤ q ∧ q ≤ 18446744065119617025 ∧ 0 ≤ r ∧ r ≤ 18446744065119617025 ∧ 0 ≤ s ∧ s ≤ 18446744065119617025 := by
  have ex : x = x / 4294967296 * 4294967296 + x % 4294967296 := by omega
  have ey : y = y / 4294967296 * 4294967296 + y % 4294967296 := by omega
  have b1 : 0 ≤ x / 4294967296 ∧ x / 4294967296 ≤ 4294967295 := by omega
  have b2 : 0 ≤ x % 4294967296 ∧ x % 4294967296 ≤ 4294967295 := by omega
  have b3 : 0 ≤ y / 4294967296 ∧ y / 4294967296 ≤ 4294967295 := by omega
  have b4 : 0 ≤ y % 4294967296 ∧ y % 4294967296 ≤ 4294967295 := by omega
  have pS := prod_bound _ _ b1.1 b1.2 b3.1 b3.2
  have pQ := prod_bound _ _ b1.1 b1.2 b4.1 b4.2
  have pP := prod_bound _ _ b2.1 b2.2 b4.1 b4.2
  have pR := prod_bound _ _ b2.1 b2.2 b3.1 b3.2
  have hxy : x * y = s * 18446744073709551616 + (q + r) * 4294967296 + p := by
    rw [hs, hq, hr, hp, ← split_mul, ← ex, ← ey]
  unfold prodH prodL
  rw [hxy]
  rw [← hs] at pS; rw [← hq] at pQ; rw [← hp] at pP; rw [← hr] at pR
  clear hs hq hr hp hxy ex ey b1 b2 b3 b4
  refine ⟨by omega, by omega, by omega, by omega, by omega, by omega, by omega, by omega, by omega, by omega⟩

theorem sq_wrap (x : Int) (h0 : 0 ≤ x) (h1 : x ≤ 4294967295) : IntKind.u64.wrap (x * x) = x * x := by
  have := prod_bound x x h0 h1 h0 h1
  rw [u64w _ (by omega) (by omega)]

theorem root_ret {v r a : Int} (h : RootRel v (a + 1).toNat r) (ha : a < 0) (ha2 : -1 ≤ a) (h0 : 0 ≤ v) (h1 : v ≤ 18446744073709551615) :
    r % 4294967296 = rootI v ∧ (IntKind.u64.wrap (r * r) == v) = (rootI v * rootI v == v) := by
  rw [show (a + 1).toNat = 0 by omega] at h
  have e := rootRel_end h h1
  have := root_bd v h0 h1
  subst e
  rw [sq_wrap _ this.1 this.2]
  exact ⟨by omega, rfl⟩

theorem root_at0 {v : Int} (h0 : 0 ≤ v) (h1 : v ≤ 18446744073709551615) : RootRel v ((lenI v + 1) / 2 - 1 + 1).toNat 0 := by
  have hl0 := len_nonneg v
  have hl1 := len_le64 v h0 h1
  refine rootRel_start _ (by omega) h0 (Int.lt_of_lt_of_le (len_lt v h0) (pow2_le (by omega)))

theorem root_at31 {v : Int} (h0 : 0 ≤ v) (h1 : v ≤ 18446744073709551615) : RootRel v ((31 : Int) + 1).toNat 0 :=
  rootRel_start _ (by decide) h0 (by rw [show 2 * ((31 : Int) + 1).toNat = 64 by decide]; omega)

theorem root_yes {v r a : Int} (h : RootRel v (a + 1).toNat r) (ha : 0 ≤ a) (b0 : 0 ≤ r + 2 ^ a.toNat) (b1 : r + 2 ^ a.toNat ≤ 4294967295) (h1 : v ≤ 18446744073709551615)
    (ht : IntKind.u64.wrap ((r + 2 ^ a.toNat) * (r + 2 ^ a.toNat)) ≤ v) : RootRel v (a - 1 + 1).toNat (r + 2 ^ a.toNat) := by
  rw [show a - 1 + 1 = a by omega]
  rw [sq_wrap _ b0 b1] at ht
  exact rootRel_yes h ha ht

theorem root_no {v r a : Int} (h : RootRel v (a + 1).toNat r) (ha : 0 ≤ a) (b0 : 0 ≤ r + 2 ^ a.toNat) (b1 : r + 2 ^ a.toNat ≤ 4294967295) (h1 : v ≤ 18446744073709551615)
    (ht : v < IntKind.u64.wrap ((r + 2 ^ a.toNat) * (r + 2 ^ a.toNat))) : RootRel v (a - 1 + 1).toNat r := by
  rw [show a - 1 + 1 = a by omega]
  rw [sq_wrap _ b0 b1] at ht
  exact rootRel_no h ha (by omega)

theorem or_low (hi lo : Int) (k : Nat) (h0 : 0 ≤ lo) (h1 : lo < 2 ^ k) (h2 : 0 ≤ hi) (h3 : hi * 2 ^ k + lo ≤ 18446744073709551615) : bits .or .u64 lo (hi * 2 ^ k) = hi * 2 ^ k + lo := by
  have hp := pow2_pos k
  have hh : 0 ≤ hi * 2 ^ k := Int.mul_nonneg h2 (Int.le_of_lt hp)
  rw [u64_or _ _ h0 (by omega) hh (by omega)]
  obtain ⟨A, rfl⟩ := Int.eq_ofNat_of_zero_le h2
  obtain ⟨B, rfl⟩ := Int.eq_ofNat_of_zero_le h0
  rw [pow2_cast] at h1
  rw [pow2_cast, ← Int.natCast_mul, Int.toNat_natCast, Int.toNat_natCast, Nat.or_comm, Nat.mul_comm, ← Nat.two_pow_add_eq_or_of_lt (Int.ofNat_lt.1 h1), Int.natCast_add]

theorem prod_ref_h (a b : Int) (h0 : 0 ≤ a) (h1 : a ≤ 18446744073709551615) (h2 : 0 ≤ b) (h3 : b ≤ 18446744073709551615) :
    IntKind.u64.wrap
      (IntKind.u64.wrap
          (IntKind.u64.wrap
              (IntKind.u64.wrap (a / 4294967296 * (b / 4294967296)) +
                IntKind.u64.wrap (a / 4294967296 * (b % 4294967296)) / 4294967296) +
            IntKind.u64.wrap (a % 4294967296 * (b / 4294967296)) / 4294967296) +
        IntKind.u64.wrap
            (IntKind.u64.wrap
                (IntKind.u64.wrap (a % 4294967296 * (b % 4294967296)) / 4294967296 +
                  bits BinOp.and IntKind.u64 (IntKind.u64.wrap (a / 4294967296 * (b % 4294967296))) 4294967295) +
              bits BinOp.and IntKind.u64 (IntKind.u64.wrap (a % 4294967296 * (b / 4294967296))) 4294967295) /
          4294967296) =
    prodH a b := by
  obtain ⟨e1, e2, p0, p1, q0, q1, r0, r1, s0, s1⟩ := prod_ref a b h0 h1 h2 h3 _ _ _ _ _ rfl rfl rfl rfl rfl
  rw [← e1]
  generalize a % 4294967296 * (b % 4294967296) = p at *
  generalize a / 4294967296 * (b % 4294967296) = q at *
  generalize a % 4294967296 * (b / 4294967296) = r at *
  generalize a / 4294967296 * (b / 4294967296) = s at *
  rw [u64w p p0 (by omega), u64w q q0 (by omega), u64w r r0 (by omega), u64w s s0 (by omega), and_low32 q q0 (by omega), and_low32 r r0 (by omega)]
  have H : s + q / 4294967296 + r / 4294967296 + (p / 4294967296 + q % 4294967296 + r % 4294967296) / 4294967296 ≤ 18446744073709551615 := by omega
  clear e1 e2
  rw [u64w (s + _) (by omega) (by omega), u64w (_ + r / _) (by omega) (by omega), u64w (p / _ + _) (by omega) (by omega), u64w (p / _ + _ + _) (by omega) (by omega), u64w _ (by omega) (by omega)]

theorem prod_ref_l (a b : Int) (h0 : 0 ≤ a) (h1 : a ≤ 18446744073709551615) (h2 : 0 ≤ b) (h3 : b ≤ 18446744073709551615) :
    bits BinOp.or IntKind.u64
      (bits BinOp.and IntKind.u64 (IntKind.u64.wrap (a % 4294967296 * (b % 4294967296))) 4294967295)
      (IntKind.u64.wrap
        (IntKind.u64.wrap
            (IntKind.u64.wrap
                (IntKind.u64.wrap (a % 4294967296 * (b % 4294967296)) / 4294967296 +
                  bits BinOp.and IntKind.u64 (IntKind.u64.wrap (a / 4294967296 * (b % 4294967296))) 4294967295) +
              bits BinOp.and IntKind.u64 (IntKind.u64.wrap (a % 4294967296 * (b / 4294967296))) 4294967295) *
          4294967296)) =
    prodL a b := by
  obtain ⟨e1, e2, p0, p1, q0, q1, r0, r1, s0, s1⟩ := prod_ref a b h0 h1 h2 h3 _ _ _ _ _ rfl rfl rfl rfl rfl
  rw [← e2]
  generalize a % 4294967296 * (b % 4294967296) = p at *
  generalize a / 4294967296 * (b % 4294967296) = q at *
  generalize a % 4294967296 * (b / 4294967296) = r at *
  clear e1 e2 s0 s1
  rw [u64w p p0 (by omega), u64w q q0 (by omega), u64w r r0 (by omega), and_low32 q q0 (by omega), and_low32 r r0 (by omega), and_low32 p p0 (by omega)]
  rw [u64w (p / _ + _) (by omega) (by omega), u64w (p / _ + _ + _) (by omega) (by omega)]
  have e : IntKind.u64.wrap ((p / 4294967296 + q % 4294967296 + r % 4294967296) * 4294967296) = (p / 4294967296 + q % 4294967296 + r % 4294967296) % 4294967296 * 2 ^ 32 := by
    rw [IntKind.wrap_u64]; omega
  rw [e, or_low _ _ 32 (by omega) (by omega) (by omega) (by omega)]
  omega

theorem prod_bd (a b : Int) (h0 : 0 ≤ a) (h1 : a ≤ 18446744073709551615) (h2 : 0 ≤ b) (h3 : b ≤ 18446744073709551615) :
    0 ≤ prodH a b ∧ prodH a b ≤ 18446744073709551615 ∧ 0 ≤ prodL a b ∧ prodL a b ≤ 18446744073709551615 := by
  have e := Int.mul_nonneg h0 h2
  have f : a * b ≤ 18446744073709551615 * 18446744073709551615 := Int.mul_le_mul h1 h3 h2 (by omega)
  unfold prodH prodL
  omega

theorem or_u64_sum (hi lo : Int) (h0 : 0 ≤ lo) (h1 : lo ≤ 1) (h2 : 0 ≤ hi) (h3 : hi % 2 = 0) (h4 : hi ≤ 18446744073709551615) : bits .or .u64 hi lo = hi + lo := by
  rw [u64_or _ _ h2 (by omega) h0 (by omega)]
  have e : hi.toNat = 2 ^ 1 * (hi / 2).toNat := by omega
  rw [e, ← Nat.two_pow_add_eq_or_of_lt (by omega)]
  omega

theorem prodH_comm (a b : Int) : prodH b a = prodH a b := by unfold prodH; rw [Int.mul_comm]

theorem prodL_comm (a b : Int) : prodL b a = prodL a b := by unfold prodL; rw [Int.mul_comm]

theorem prod_double (a b : Int) : a * b = 2 * (a * (b / 2)) + a * (b % 2) := by
  have : b = 2 * (b / 2) + b % 2 := by omega
  calc a * b = a * (2 * (b / 2) + b % 2) := by rw [← this]
    _ = _ := by grind

theorem prod_twice (a b : Int) (h0 : 0 ≤ a) (h1 : a ≤ 18446744073709551615) (h2 : 0 ≤ b) (h3 : b ≤ 18446744073709551615) :
    bits .or .u64 (IntKind.u64.wrap (prodH a (b / 2) * 2)) (prodL a (b / 2) / 9223372036854775808) = (2 * (a * (b / 2))) / 18446744073709551616
    ∧ IntKind.u64.wrap (prodL a (b / 2) * 2) = (2 * (a * (b / 2))) % 18446744073709551616 := by
  obtain ⟨p0, p1, p2, p3⟩ := prod_bd a (b / 2) h0 h1 (by omega) (by omega)
  have f : a * (b / 2) ≤ 18446744073709551615 * 9223372036854775807 := Int.mul_le_mul h1 (by omega) (by omega) (by omega)
  have e := Int.mul_nonneg h0 (show 0 ≤ b / 2 by omega)
  rw [or_u64_sum _ _ (by omega) (by omega) (u64w_bd _).1 (by rw [IntKind.wrap_u64]; omega) (u64w_bd _).2, IntKind.wrap_u64, IntKind.wrap_u64]
  unfold prodH prodL at *
  generalize a * (b / 2) = X at *
  omega
/-! there and back -/
theorem back_shift (v k : Int) (h0 : 0 ≤ v) (h1 : v ≤ 18446744073709551615) (k0 : 0 ≤ k) (k1 : k ≤ 63) :
    shO (shV v k) (-k) = false ∧ shV (shV v k) (-k) + cutI v k = v ∧ 0 ≤ shV (shV v k) (-k) := by
  have hp := pow2_pos k.toNat
  have e1 : shV v k = v / 2 ^ k.toNat := by unfold shV; rw [if_neg (by omega)]
  have ed := Int.emod_add_mul_ediv v (2 ^ k.toNat)
  have b0 : 0 ≤ v % 2 ^ k.toNat := Int.emod_nonneg _ (Int.ne_of_gt hp)
  have q0 : 0 ≤ v / 2 ^ k.toNat := Int.ediv_nonneg h0 (Int.le_of_lt hp)
  by_cases hk : k = 0
  · subst hk
    simp [shO, shV, cutI]
    exact h0
  · have e2 : shV (shV v k) (-k) = v / 2 ^ k.toNat * 2 ^ k.toNat % 18446744073709551616 := by
      rw [e1]; unfold shV; rw [if_pos (by omega), Int.neg_neg]
    have e3 : shO (shV v k) (-k) = decide (18446744073709551616 ≤ v / 2 ^ k.toNat * 2 ^ k.toNat) := by
      rw [e1]; unfold shO; rw [if_pos (by omega), Int.neg_neg]
    rw [e2, e3]
    unfold cutI
    rw [Int.mul_comm] at ed
    have m0 : 0 ≤ v / 2 ^ k.toNat * 2 ^ k.toNat := Int.mul_nonneg q0 (Int.le_of_lt hp)
    generalize v / 2 ^ k.toNat * 2 ^ k.toNat = M at *
    generalize v % 2 ^ k.toNat = R at *
    refine ⟨decide_eq_false (by omega), by omega, by omega⟩

theorem back_signed (v : Int) (h0 : 0 ≤ v) (h1 : v ≤ 18446744073709551615) : IntKind.u64.wrap (sgnI v 64) = v := by
  have : sgnI v 64 = IntKind.i64.wrap v := by unfold sgnI; rw [if_neg (by omega), if_pos (by omega)]
  rw [this, IntKind.wrap_i64, IntKind.wrap_u64]; omega

theorem cut_wrap (x k : Int) (k1 : k ≤ 63) : cutI (IntKind.u64.wrap x) k = x % 2 ^ k.toNat := by
  unfold cutI
  rw [IntKind.wrap_u64]
  have hd : (2 : Int) ^ k.toNat ∣ 18446744073709551616 := by
    rw [← pow2_64 k.toNat (by omega)]; exact Int.dvd_mul_right _ _
  exact Int.emod_emod_of_dvd _ hd

theorem back_cut (v k : Int) (k0 : 0 ≤ k) (k1 : k ≤ 63) : cutI (IntKind.u64.wrap (sgnI v k)) k = cutI v k := by
  rw [cut_wrap _ _ k1]
  have hc : cutI v k % 2 ^ k.toNat = cutI v k := by unfold cutI; exact Int.emod_emod_of_dvd _ (Int.dvd_refl _)
  by_cases hk : k < 1
  · have : k = 0 := by omega
    subst this
    simp [sgnI, cutI, Int.emod_one]
  · unfold sgnI
    rw [if_neg (by omega), if_neg (by omega)]
    split
    · rw [Int.sub_emod_right]; exact hc
    · exact hc
/-! the reference of Shift: one bit after another -/
def RightAt (v : Int) (j : Nat) (x : Int) (o : Bool) : Prop := x = v / 2 ^ j ∧ o = decide (v % 2 ^ j ≠ 0)

theorem rightAt_start (v : Int) : RightAt v 0 v false := ⟨by simp, by simp⟩

theorem and_one (x : Int) (h0 : 0 ≤ x) (h1 : x ≤ 18446744073709551615) : bits .and .u64 x 1 = x % 2 := by
  have := and_mask x 1 h0 h1 (by omega)
  simpa using this

theorem rightAt_bd {v x : Int} {j : Nat} {o : Bool} (h : RightAt v j x o) (h0 : 0 ≤ v) (h1 : v ≤ 18446744073709551615) : 0 ≤ x ∧ x ≤ 18446744073709551615 := by
  rw [h.1]
  have hp := pow2_pos j
  exact ⟨Int.ediv_nonneg h0 (Int.le_of_lt hp), Int.le_trans (Int.ediv_le_self _ h0) h1⟩

theorem rightAt_step {v x : Int} {j : Nat} {o : Bool} (h : RightAt v j x o) : RightAt v (j + 1) (x / 2) (o || x % 2 == 1) := by
  obtain ⟨rfl, rfl⟩ := h
  have hp := pow2_pos j
  have e : (2 : Int) ^ (j + 1) = 2 ^ j * 2 := Int.pow_succ _ _
  refine ⟨by rw [e, Int.ediv_ediv_of_nonneg (Int.le_of_lt hp)], ?_⟩
  have a1 := Int.emod_add_mul_ediv v (2 ^ (j + 1))
  have a2 := Int.emod_add_mul_ediv v (2 ^ j)
  have a3 := Int.emod_add_mul_ediv (v / 2 ^ j) 2
  have d1 : v / 2 ^ (j + 1) = v / 2 ^ j / 2 := by rw [e, Int.ediv_ediv_of_nonneg (Int.le_of_lt hp)]
  have b0 : 0 ≤ v % 2 ^ j := Int.emod_nonneg _ (Int.ne_of_gt hp)
  have b1 : v / 2 ^ j % 2 = 0 ∨ v / 2 ^ j % 2 = 1 := by omega
  rw [d1, e] at a1
  rw [e]
  generalize v / 2 ^ j = Q at *
  generalize v % 2 ^ j = R at *
  generalize (2 : Int) ^ j = P at *
  generalize v % (P * 2) = S at *
  generalize Q / 2 = q at *
  generalize Q % 2 = b at *
  have hS : S = b * P + R := by subst a3; grind
  rw [hS, Bool.eq_iff_iff]
  rcases b1 with rfl | rfl
  · simp
  · simp; omega

theorem rightAt_end {v x n : Int} {o : Bool} (h : RightAt v n.toNat x o) (hn : 0 ≤ n) : x = shV v n ∧ o = shO v n := by
  unfold shV shO; rw [if_neg (by omega), if_neg (by omega)]; exact h

def LeftAt (v : Int) (j : Nat) (x : Int) (o : Bool) : Prop := x = v * 2 ^ j % 18446744073709551616 ∧ o = decide (18446744073709551616 ≤ v * 2 ^ j)

theorem leftAt_start (v : Int) (h0 : 0 ≤ v) (h1 : v ≤ 18446744073709551615) : LeftAt v 0 v false := ⟨by simp; omega, by simp; omega⟩

theorem leftAt_bd {v x : Int} {j : Nat} {o : Bool} (h : LeftAt v j x o) : 0 ≤ x ∧ x ≤ 18446744073709551615 := by
  rw [h.1]; omega

theorem leftAt_step {v x : Int} {j : Nat} {o : Bool} (h : LeftAt v j x o) (h0 : 0 ≤ v) : LeftAt v (j + 1) (IntKind.u64.wrap (x * 2)) (o || x / 9223372036854775808 == 1) := by
  obtain ⟨rfl, rfl⟩ := h
  have hp : 0 ≤ v * 2 ^ j := Int.mul_nonneg h0 (Int.le_of_lt (pow2_pos j))
  unfold LeftAt
  rw [IntKind.wrap_u64, Int.pow_succ, ← Int.mul_assoc]
  generalize v * 2 ^ j = X at *
  refine ⟨by omega, ?_⟩
  rw [Bool.eq_iff_iff]
  simp
  omega

theorem leftAt_end {v x n : Int} {o : Bool} (h : LeftAt v (-n).toNat x o) (hn : n < 0) : x = shV v n ∧ o = shO v n := by
  unfold shV shO; rw [if_pos hn, if_pos hn]; exact h

/-- m moves as n does. -/
def Alike (v n m : Int) : Prop := shV v m = shV v n ∧ shO v m = shO v n

theorem alike_same (v n : Int) : Alike v n n := ⟨rfl, rfl⟩

theorem alike_far (v n m : Int) (h0 : 0 ≤ v) (h1 : v ≤ 18446744073709551615) (h : n ≤ -64 ∨ 64 ≤ n) (g : m ≤ -64 ∨ 64 ≤ m) : Alike v n m := by
  unfold Alike
  rw [← sh_far_v v n h0 h1 h, ← sh_far_o v n h0 h1 h, ← sh_far_v v m h0 h1 g, ← sh_far_o v m h0 h1 g]
  exact ⟨rfl, rfl⟩

def RightRel (v n m k x : Int) (o : Bool) : Prop := Alike v n m ∧ 0 ≤ m ∧ k ≤ m ∧ RightAt v (m - k).toNat x o

theorem rightRel_bd {v n m k x : Int} {o : Bool} (h : RightRel v n m k x o) (h0 : 0 ≤ v) (h1 : v ≤ 18446744073709551615) : 0 ≤ x ∧ x ≤ 18446744073709551615 := rightAt_bd h.2.2.2 h0 h1

theorem rightRel_start {v n m : Int} (h : Alike v n m) (h0 : 0 ≤ m) : RightRel v n m m v false := ⟨h, h0, by omega, by rw [show (m - m).toNat = 0 by omega]; exact rightAt_start v⟩

theorem rightRel_step {v n m k x : Int} {o : Bool} (h : RightRel v n m k x o) (b : Bool) (hb : b = (o || x % 2 == 1)) : RightRel v n m (k - 1) (x / 2) b := by
  obtain ⟨h1, h2, h3, h4⟩ := h
  refine ⟨h1, h2, by omega, ?_⟩
  rw [show (m - (k - 1)).toNat = (m - k).toNat + 1 by omega, hb]
  exact rightAt_step h4

theorem rightRel_end {v n m k x : Int} {o : Bool} (h : RightRel v n m k x o) (hk : k = 0) : x = shV v n ∧ o = shO v n := by
  obtain ⟨h1, h2, h3, h4⟩ := h
  subst hk
  rw [show (m - 0).toNat = m.toNat by omega] at h4
  obtain ⟨a, b⟩ := rightAt_end h4 h2
  exact ⟨a.trans h1.1, b.trans h1.2⟩

def LeftRel (v n m k x : Int) (o : Bool) : Prop := Alike v n m ∧ m < 0 ∧ m ≤ k ∧ LeftAt v (k - m).toNat x o

theorem leftRel_bd {v n m k x : Int} {o : Bool} (h : LeftRel v n m k x o) : 0 ≤ x ∧ x ≤ 18446744073709551615 := leftAt_bd h.2.2.2

theorem leftRel_start {v n m : Int} (h : Alike v n m) (h0 : m < 0) (g0 : 0 ≤ v) (g1 : v ≤ 18446744073709551615) : LeftRel v n m m v false := ⟨h, h0, by omega, by rw [show (m - m).toNat = 0 by omega]; exact leftAt_start v g0 g1⟩

theorem leftRel_step {v n m k x : Int} {o : Bool} (h : LeftRel v n m k x o) (g0 : 0 ≤ v) (b : Bool) (hb : b = (o || x / 9223372036854775808 == 1)) : LeftRel v n m (k + 1) (IntKind.u64.wrap (x * 2)) b := by
  obtain ⟨h1, h2, h3, h4⟩ := h
  refine ⟨h1, h2, by omega, ?_⟩
  rw [show (k + 1 - m).toNat = (k - m).toNat + 1 by omega, hb]
  exact leftAt_step h4 g0

theorem leftRel_end {v n m k x : Int} {o : Bool} (h : LeftRel v n m k x o) (hk : k = 0) : x = shV v n ∧ o = shO v n := by
  obtain ⟨h1, h2, h3, h4⟩ := h
  subst hk
  rw [show (0 - m).toNat = (-m).toNat by omega] at h4
  obtain ⟨a, b⟩ := leftAt_end h4 h2
  exact ⟨a.trans h1.1, b.trans h1.2⟩
/-! the references of Rotate and Signed -/
def RotRel (v n X K : Int) : Prop := 0 ≤ X ∧ X ≤ 4294967295 ∧ rotN K.toNat X = rotI v n

theorem rotRel_step {v n X K : Int} (h : RotRel v n X K) (hk : 0 < K) : RotRel v n (bits .or .u32 (IntKind.u32.wrap (X * 2)) (X / 2147483648)) (K - 1) := by
  obtain ⟨h0, h1, h2⟩ := h
  rw [or_rot1 X h0 h1]
  have hb := rot1_bd X h0 h1
  refine ⟨hb.1, hb.2, ?_⟩
  rw [← h2, show K.toNat = (K - 1).toNat + 1 by omega, rotN_add]
  rfl

theorem rotRel_end {v n X K : Int} (h : RotRel v n X K) (hk : K ≤ 0) : X = rotI v n := by
  have := h.2.2
  rw [show K.toNat = 0 by omega] at this
  exact this

theorem tmod32_neg (n : Int) (h : n.tmod 32 < 0) : n.tmod 32 + 32 = n % 32 := by
  rw [Int.tmod_eq_emod] at *
  simp at *
  split at h <;> rename_i c <;> simp [c] at * <;> omega

theorem tmod32_pos (n : Int) (h : 0 ≤ n.tmod 32) : n.tmod 32 = n % 32 := by
  rw [Int.tmod_eq_emod] at *
  simp at *
  split at h <;> rename_i c <;> simp [c] at * <;> omega

theorem tmod32_bd (n : Int) : -32 ≤ n.tmod 32 ∧ n.tmod 32 ≤ 31 := by
  have g0 : 0 ≤ n % 32 := Int.emod_nonneg n (by decide)
  have g1 : n % 32 < 32 := Int.emod_lt_of_pos n (by decide)
  by_cases h : n.tmod 32 < 0
  · have e := tmod32_neg n h
    rw [← e] at g0 g1
    generalize n.tmod 32 = t at *
    exact ⟨by omega, by omega⟩
  · have e := tmod32_pos n (Int.not_lt.1 h)
    rw [← e] at g0 g1
    generalize n.tmod 32 = t at *
    exact ⟨by omega, by omega⟩

theorem rotRel_neg (v n : Int) (h0 : 0 ≤ v) (h1 : v ≤ 4294967295) (h : n.tmod 32 < 0) : RotRel v n v (n.tmod 32 + 32) := ⟨h0, h1, by rw [tmod32_neg n h]; rfl⟩

theorem rotRel_pos (v n : Int) (h0 : 0 ≤ v) (h1 : v ≤ 4294967295) (h : 0 ≤ n.tmod 32) : RotRel v n v (n.tmod 32) := ⟨h0, h1, by rw [tmod32_pos n h]; rfl⟩

theorem rsgn_neg (v n : Int) (c1 : 1 ≤ n) (c2 : n ≤ 63) (h : 2 ^ (n.toNat - 1) ≤ cutI v n) :
    wrap64 (wrap64 (cutI v n - wrap64 (2 ^ (n.toNat - 1))) - wrap64 (2 ^ (n.toNat - 1))) = sgnI v n := by
  have hb := cut_lt v n c2
  have e : (n - 1).toNat = n.toNat - 1 := by omega
  rw [← e] at h ⊢
  have hp := pow2_pos (n - 1).toNat
  rw [← sgn_ref_neg v n c1 c2 h]
  have hl : (2 : Int) ^ (n - 1).toNat ≤ 4611686018427387904 := pow2_le (b := 62) (by omega)
  generalize cutI v n = c at *
  generalize (2 : Int) ^ (n - 1).toNat = M at *
  unfold wrap64; omega

theorem rsgn_pos (v n : Int) (c1 : 1 ≤ n) (c2 : n ≤ 63) (h : ¬ 2 ^ (n - 1).toNat ≤ cutI v n) : wrap64 (cutI v n) = sgnI v n := by
  have hb := cut_lt v n c2
  have h0 : 0 ≤ cutI v n := Int.emod_nonneg _ (Int.ne_of_gt (pow2_pos n.toNat))
  rw [← sgn_ref_pos v n c1 c2 h]; unfold wrap64; omega

theorem rsgn_high (v n : Int) (h0 : 0 ≤ v) (h1 : v ≤ 18446744073709551615) (h : 63 < n) : wrap64 (cutI v n) = sgnI v n := by
  rw [← cut_high v n h0 h1 h, sgn_high' v n h]

theorem rsgn_low (v n : Int) (h : n < 1) : wrap64 (cutI v n) = sgnI v n := by
  rw [← cut_low v n h, ← sgn_low v n h]; simp [wrap64]

theorem top_bit' (v n : Int) (c1 : 1 ≤ n) (c2 : n ≤ 63) : (cutI v n / 2 ^ (n.toNat - 1) == 1) = decide (2 ^ (n.toNat - 1) ≤ cutI v n) := by
  have := top_bit v n c1 c2
  rw [show (n - 1).toNat = n.toNat - 1 by omega] at this
  rw [this]; split <;> simp [*]
end Go.Proofs.Ytfdfbgmnfiiipaa
