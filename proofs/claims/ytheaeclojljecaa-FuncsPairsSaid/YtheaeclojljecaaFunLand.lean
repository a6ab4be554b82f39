/- The landed functions' own ways as plain numbers: a number moved near 1 by its whole bits, signs laid on and taken off (no program here). -/
import Derived.Test.YtheaeclojljecaaFunSig
namespace Go.Proofs.Ytheaeclojljecaa
open Go.RowKit
set_option linter.unusedVariables false
set_option linter.unusedSimpArgs false

theorem len_land (M : Int) (m0 : 0 < M) (m1 : M < 16777216) : 1 ≤ lenI M ∧ lenI M ≤ 24 ∧ 2 ^ (lenI M - 1).toNat ≤ M ∧ M < 2 ^ (lenI M).toNat := by
  obtain ⟨X, rfl⟩ := Int.eq_ofNat_of_zero_le (Int.le_of_lt m0)
  have hl := len_log (X : Int) m0
  rw [Int.toNat_natCast] at hl
  have h1 := Nat.log2_self_le (n := X) (by omega)
  have h2 := Nat.lt_log2_self (n := X)
  have h3 : X.log2 < 24 := (Nat.log2_lt (by omega)).2 (by omega)
  rw [hl, show ((X.log2 : Int) + 1 - 1).toNat = X.log2 by omega, show ((X.log2 : Int) + 1).toNat = X.log2 + 1 by omega, pow2_cast, pow2_cast]
  exact ⟨by omega, by omega, by omega, by omega⟩

/-- A number's bits, moved up until there are 24. -/
theorem up_bits (M : Int) (m0 : 0 < M) (m1 : M < 16777216) : ∃ j : Nat, (j : Int) = 24 - lenI M ∧ (24 - lenI M).toNat = j ∧ j ≤ 23 ∧ 8388608 ≤ M * 2 ^ j ∧ M * 2 ^ j < 16777216 := by
  obtain ⟨l0, l1, l2, l3⟩ := len_land M m0 m1
  refine ⟨(24 - lenI M).toNat, by omega, rfl, by omega, ?_, ?_⟩
  · have a : 2 ^ (lenI M - 1).toNat * 2 ^ (24 - lenI M).toNat ≤ M * 2 ^ (24 - lenI M).toNat := Int.mul_le_mul_of_nonneg_right l2 (Int.le_of_lt (pow2_pos _))
    rw [← Int.pow_add, show (lenI M - 1).toNat + (24 - lenI M).toNat = 23 by omega] at a
    have e23 : (2 : Int) ^ 23 = 8388608 := by decide
    omega
  · have a : M * 2 ^ (24 - lenI M).toNat < 2 ^ (lenI M).toNat * 2 ^ (24 - lenI M).toNat := Int.mul_lt_mul_of_pos_right l3 (pow2_pos _)
    rw [← Int.pow_add, show (lenI M).toNat + (24 - lenI M).toNat = 24 by omega] at a
    have e24 : (2 : Int) ^ 24 = 16777216 := by decide
    omega

theorem move_pow (X j T : Nat) (h : j ≤ T) : X * 2 ^ T = (X * 2 ^ j) * 2 ^ (T - j) := by
  rw [Nat.mul_assoc, ← Nat.pow_add, show j + (T - j) = T by omega]

/-- Whole numbers of at most 24 bits are Singles just as they are. -/
theorem frm_word_is (M : Int) (m0 : 0 < M) (m1 : M < 16777216) (j : Nat) (hj : (j : Int) = 24 - lenI M) (hb0 : 8388608 ≤ M * 2 ^ j) (hb1 : M * 2 ^ j < 16777216) (x : Int) (hx : x = (-(j : Int) + 149) * 8388608 + M * 2 ^ j) :
    frmV M = x := by
  obtain ⟨l0, l1, _, _⟩ := len_land M m0 m1
  obtain ⟨p0, p1, p2', p3, p4, p5⟩ := word_parts (-(j : Int)) (M * 2 ^ j) x hx (by omega) (by omega) hb0 hb1
  have hm := mag_num x (by omega) (by omega) p5
  unfold numN at hm
  rw [p2', p3] at hm
  obtain ⟨T, hT⟩ : ∃ T : Nat, T = 10100 := ⟨_, rfl⟩
  have hv : (M * 2 ^ j).toNat * 2 ^ (-(j : Int) + 10100).toNat = valN (clampE 0) M false := by
    unfold valN
    rw [show (clampE 0 + 10100).toNat = T by rw [hT]; decide, show (-(j : Int) + 10100).toNat = T - j by omega]
    obtain ⟨X, rfl⟩ := Int.eq_ofNat_of_zero_le (Int.le_of_lt m0)
    rw [Int.toNat_natCast, show ((X : Int) * 2 ^ j).toNat = X * 2 ^ j by rw [pow2_cast, ← Int.natCast_mul, Int.toNat_natCast], move_pow X j T (by omega)]
    rfl
  rw [hv] at hm
  unfold frmV fromE
  rw [if_neg (by omega)]
  show zerI 2 false + _ = x
  rw [show zerI 2 false = 0 by rfl, Int.zero_add]
  exact hm

theorem sca_word_is (e m n x y : Int) (hx : x = (e + 149) * 8388608 + m) (hy : y = (e + n + 149) * 8388608 + m) (e0 : -149 ≤ e) (e1 : e ≤ 104) (f0 : -149 ≤ e + n) (f1 : e + n ≤ 104) (n0 : -150 ≤ n) (n1 : n ≤ 128) (m0 : 8388608 ≤ m) (m1 : m < 16777216) :
    scaV x n = y := by
  obtain ⟨p0, p1, p2', p3, p4, p5⟩ := word_parts e m x hx e0 e1 m0 m1
  obtain ⟨q0, q1, q2, q3, q4, q5⟩ := word_parts (e + n) m y hy f0 f1 m0 m1
  have hm := mag_num y (by omega) (by omega) q5
  unfold numN at hm
  rw [q2, q3] at hm
  rw [sca_val x n p5 p4 n0 n1, p2', p3]
  exact hm

theorem amt_move (X a b c : Nat) (h : a + b = c) : X * 2 ^ a * 2 ^ b = X * 2 ^ c := by
  subst h; rw [Nat.mul_assoc, ← Nat.pow_add]

theorem half_amt (m : Int) (m0 : 0 ≤ m) : amtE (-23 + -24) (m * 8388608) = amtE (-24) m := by
  unfold amtE
  obtain ⟨X, rfl⟩ := Int.eq_ofNat_of_zero_le m0
  obtain ⟨b, hb⟩ : ∃ b : Nat, (-23 + -24 + 298 : Int).toNat = b := ⟨_, rfl⟩
  obtain ⟨c, hc⟩ : ∃ c : Nat, (-24 + 298 : Int).toNat = c := ⟨_, rfl⟩
  have hbc : 23 + b = c := by omega
  rw [hb, hc]
  clear hb hc
  have h1 : ((X : Int) * 8388608).toNat = X * 8388608 := by omega
  rw [h1, Int.toNat_natCast, show (8388608 : Nat) = 2 ^ 23 by decide]
  exact amt_move X 23 _ _ hbc

/-- What nearOne makes of a number above nought. -/
theorem near_is (x : Int) (m0 : 0 < unM 2 x) : 0 ≤ frmV (unM 2 x) ∧ frmV (unM 2 x) ≤ 4294967295 ∧ unE 2 (frmV (unM 2 x)) = lenI (unM 2 x) - 24 ∧ 1 ≤ lenI (unM 2 x) ∧ lenI (unM 2 x) ≤ 24
    ∧ scaV (frmV (unM 2 x)) (1 - lenI (unM 2 x)) = logM x ∧ scaV (logM x) (-1) = mulV (logM x) 1056964608 ∧ 1065353216 ≤ logM x ∧ logM x < 1073741824 := by
  obtain ⟨_, m1⟩ := unM_bd 2 x
  unfold logM
  generalize unM 2 x = M at m0 m1
  obtain ⟨j, hj, hj2, hj3, b0, b1⟩ := up_bits M m0 m1
  rw [hj2]
  obtain ⟨l0, l1, _, _⟩ := len_land M m0 m1
  have hf := frm_word_is M m0 m1 j hj b0 b1 _ rfl
  obtain ⟨p0, p1, p2', p3, p4, p5⟩ := word_parts (-(j : Int)) (M * 2 ^ j) _ rfl (by omega) (by omega) b0 b1
  have hs := sca_word_is (-(j : Int)) (M * 2 ^ j) (1 - lenI M) _ (126 * 8388608 + M * 2 ^ j) rfl (by omega) (by omega) (by omega) (by omega) (by omega) (by omega) (by omega) b0 b1
  have hw := word_parts (-23) (M * 2 ^ j) (1065353216 + M * 2 ^ j % 8388608) (by omega) (by omega) (by omega) b0 b1
  have hh := sca_word_is (-23) (M * 2 ^ j) (-1) (1065353216 + M * 2 ^ j % 8388608) (125 * 8388608 + M * 2 ^ j) (by omega) (by omega) (by omega) (by omega) (by omega) (by omega) (by omega) (by omega) b0 b1
  obtain ⟨q0, q1, q2, q3, q4, q5⟩ := hw
  obtain ⟨d0, d1, d2, d3, d4, d5⟩ := word_parts (-24) (M * 2 ^ j) (125 * 8388608 + M * 2 ^ j) (by omega) (by omega) (by omega) b0 b1
  rw [hf]
  refine ⟨by omega, by omega, by rw [p2']; omega, l0, l1, by rw [hs]; omega, ?_, by omega, by omega⟩
  rw [hh]
  generalize 1065353216 + M * 2 ^ j % 8388608 = x' at q0 q1 q2 q3 q4 q5
  generalize 125 * 8388608 + M * 2 ^ j = d at d0 d1 d2 d3 d4 d5
  generalize M * 2 ^ j = m at b0 b1 q3 d3
  have hsp : sP x' 1056964608 = sV d := by
    unfold sP sV sgP amtP
    rw [q4, d4, q2, q3, d2, d3, show fS 2 1056964608 = false by decide, show unE 2 1056964608 = -24 by decide, show unM 2 1056964608 = 8388608 by decide]
    exact congrArg (sg false) (half_amt m (by omega))
  have hrd := rk_self d (by omega) (by omega) d5
  have hkd := kz_pos d (by omega)
  have hk := mul_kz x' 1056964608 q5 (by decide)
  rw [hsp, hrd, hkd] at hk
  clear hrd hkd hsp
  obtain ⟨w0, w1⟩ := mul_word x' 1056964608
  generalize mulV x' 1056964608 = Y at hk w0 w1 ⊢
  unfold kz at hk; split at hk <;> omega

theorem neg_zer (s : Bool) (m : Int) (m0 : 0 ≤ m) (m1 : m ≤ 2139095040) : negV (zerI 2 s + m) = zerI 2 (!s) + m := by
  have e0 : zerI 2 false = 0 := rfl
  have e1 : zerI 2 true = 2147483648 := rfl
  cases s
  · rw [Bool.not_false, e0, e1]
    have := (neg_is (0 + m) (by omega) (by omega) ((nan_kz _ (by omega) (by omega)).2 (by rw [kz_pos _ (by omega)]; omega))).2.2 (by omega)
    omega
  · rw [Bool.not_true, e0, e1]
    have := (neg_is (2147483648 + m) (by omega) (by omega) ((nan_kz _ (by omega) (by omega)).2 (by unfold kz; rw [if_pos (by omega)]; omega))).1
    rw [this]; unfold xorI
    rw [show sgb 2 = 2147483648 by rfl, xor32 _ 31 (b := 2147483648) (by omega) (by omega) (by decide) (by decide), if_pos (by omega)]
    omega

theorem pack_neg (s : Bool) (V : Nat) : valI (PackE 2 0 (!s) V) = negV (valI (PackE 2 0 s V)) := by
  have h := mag_top V
  show rdV 2 0 (!s) V = negV (rdV 2 0 s V)
  unfold rdV
  rw [mag_sign, mag_sign s, neg_zer s _ (by omega) (by omega)]

/-- A product's sign is turned by either factor's. -/
theorem mul_neg_is (a b : Int) (b0 : 0 ≤ b) (b1 : b ≤ 4294967295) : mulV a (xorI 2 b) = negV (mulV a b) := by
  obtain ⟨x1, x2, x3, x4, x5⟩ := xor_parts 2 b b0 b1
  have hc : clsI 2 (xorI 2 b) = clsI 2 b := by unfold clsI; rw [x1, x2]
  have h1 : nanB 2 (xorI 2 b) = nanB 2 b := by unfold nanB; rw [hc]
  have h2 : infB 2 (xorI 2 b) = infB 2 b := by unfold infB; rw [hc]
  have h3 : nouB 2 (xorI 2 b) = nouB 2 b := by unfold nouB; rw [hc]
  have h4 : badB 2 a (xorI 2 b) = badB 2 a b := by unfold badB; rw [h2, h3]
  have h5 : sgP 2 a (xorI 2 b) = !sgP 2 a b := by unfold sgP; rw [x3]; cases fS 2 a <;> cases fS 2 b <;> rfl
  have h6 : amtP 2 a (xorI 2 b) = amtP 2 a b := by
    have hu : unE 2 (xorI 2 b) = unE 2 b ∧ unM 2 (xorI 2 b) = unM 2 b := by unfold unE unM; rw [x1, x2]; exact ⟨rfl, rfl⟩
    unfold amtP; rw [hu.1, hu.2]
  have hnan : nanI 2 = negV (nanI 2) := by decide
  unfold mulV mulE
  rw [h1, h2, h4, h5, h6]
  split
  · exact hnan
  · split
    · exact hnan
    · split
      · show infI 2 (!sgP 2 a b) = negV (infI 2 (sgP 2 a b))
        unfold infI
        have : topx 2 * hid 2 = 2139095040 := rfl
        rw [neg_zer _ _ (by omega) (by omega)]
      · exact pack_neg _ _

theorem or_land (t : Int) (t0 : 0 ≤ t) (t1 : t < 2147483648) : bits .or .u32 t 2147483648 = t + 2147483648 ∧ bits .or .u32 t 0 = t := by
  have e : sgb 2 = 2147483648 := rfl
  have h := or_zer 2 t true t0 (by rw [e]; exact t1)
  have g := or_zer 2 t false t0 (by rw [e]; exact t1)
  refine ⟨h, ?_⟩
  have : bits .or .u32 t (zerI 2 false) = t + zerI 2 false := g
  rw [show zerI 2 false = 0 by rfl, Int.add_zero] at this
  exact this

/-- A sign alone. -/
theorem sign_land (x : Int) (x0 : 0 ≤ x) (x1 : x ≤ 4294967295) : bits .and .u32 x 2147483648 = if 2147483648 ≤ x then 2147483648 else 0 := by
  rw [and_bit32 x 31 (b := 2147483648) x0 x1 (by decide) (by decide)]
  split <;> omega

/-- What Tanh has when the sign is laid on. -/
theorem tan_land (x : Int) (x0 : 0 ≤ x) (x1 : x ≤ 4294967295) (hn : nanB 2 x = false) : (nouB 2 x = true ↔ absI x = 0) ∧ (absI x = 0 → tanI x = x) ∧ (¬ absI x = 0 → tanI x = bits .or .u32 (tanB (absI x)) (bits .and .u32 x 2147483648)) := by
  have hk := (nan_kz x x0 x1).1 hn
  have ha : 0 ≤ absI x ∧ absI x ≤ 2139095040 := by unfold absI; unfold kz at hk; split at hk <;> omega
  refine ⟨by rw [nou_a, a_two]; rfl, fun z => by unfold tanI; rw [hn, if_neg (by decide), if_pos z], fun z => ?_⟩
  obtain ⟨b0, b1⟩ := tanB_bd (absI x) (by omega) ha.2
  obtain ⟨o1, o2⟩ := or_land (tanB (absI x)) b0 (by omega)
  unfold tanI
  rw [hn, if_neg (by decide), if_neg z, sign_land x x0 x1]
  by_cases c : 2147483648 ≤ x
  · rw [if_pos c, if_pos c, o1]
    exact (neg_is _ b0 (by omega) ((nan_kz _ b0 (by omega)).2 (by rw [kz_pos _ (by omega)]; omega))).2.2 (by omega)
  · rw [if_neg c, if_neg c, o2]

theorem inf_not (x : Int) (hn : nanB 2 x = false) : infB 2 x = !finI 2 x := by
  rcases three_kinds 2 x with ⟨a, b, c⟩ | ⟨a, b, c, _⟩ | ⟨a, b, c, _⟩
  · rw [a] at hn; exact absurd hn (by decide)
  · rw [b, c]; rfl
  · rw [b, c]; rfl

theorem below_nought (x : Int) (x0 : 0 ≤ x) (x1 : x ≤ 4294967295) (hn : nanB 2 x = false) (hz : nouB 2 x = false) : lesB 2 x 0 = fS 2 x := by
  have hk : ¬ kz x = 0 := fun h => by
    have : nouB 2 x = true := (nou_a 2 x).2 (by rw [a_two]; unfold kz at h; split at h <;> omega)
    rw [this] at hz; exact absurd hz (by decide)
  rw [nan_fin' x x0 x1 0 (by omega) (by omega) hn (by decide) hk, fS_two x x0 x1, show kz 0 = 0 by decide]
  unfold kz at hk ⊢
  by_cases c : 2147483648 ≤ x
  · rw [if_pos c] at hk ⊢; rw [decide_eq_true c, decide_eq_true (by omega)]
  · rw [if_neg c] at hk ⊢; rw [decide_eq_false c, decide_eq_false (by omega)]

theorem no_land (x : Int) (x0 : 0 ≤ x) (x1 : x ≤ 4294967295) : bits .andNot .u32 x 2147483648 = x % 2147483648 := by
  have h := no_sign 2 x x0 x1
  rw [low_is 2 x x0 (by rw [show msk 2 = 4294967295 by rfl]; exact x1)] at h
  exact h

theorem abs_land (x : Int) (x0 : 0 ≤ x) (x1 : x ≤ 4294967295) : bits .andNot .u32 x 2147483648 = absI x := no_land x x0 x1

theorem tan_word (x : Int) (x0 : 0 ≤ x) (x1 : x ≤ 4294967295) : 0 ≤ tanI x ∧ tanI x ≤ 4294967295 := by
  unfold tanI
  have hb : 0 ≤ tanB (absI x) ∧ tanB (absI x) ≤ 4294967295 := by
    unfold tanB
    split
    · omega
    · exact sub_word _ _
  split
  · omega
  · split
    · omega
    · split
      · exact neg_word _ hb.1 hb.2
      · exact hb

theorem along_word (p r c d e : Int) : 0 ≤ alongV p r [c, d, e] ∧ alongV p r [c, d, e] ≤ 4294967295 := by
  exact fma_word _ _ _
end Go.Proofs.Ytheaeclojljecaa
