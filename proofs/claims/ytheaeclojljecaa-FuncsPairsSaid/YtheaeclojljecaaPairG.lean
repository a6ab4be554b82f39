/- Log there and Exp back: all numbers from a quarter to below 4 (no program here). Log there and Exp back: what FuncsPairs asks of any number from a quarter to below 4 (no program here). -/
import Derived.Test.YtheaeclojljecaaPairE
import Derived.KernelRfl
namespace Go.Proofs.Ytheaeclojljecaa
open Go.RowKit
set_option linter.unusedVariables false
set_option linter.unusedSimpArgs false

theorem len24 (M : Int) (m0 : 8388608 ≤ M) (m1 : M < 16777216) : lenI M = 24 := by
  obtain ⟨l0, l1, l2, l3⟩ := len_land M (by omega) m1
  rcases Int.lt_or_le (lenI M) 24 with g | g
  · exfalso
    have b : (2 : Int) ^ (lenI M).toNat ≤ 2 ^ 23 := pow2_le (by omega)
    have e23 : (2 : Int) ^ 23 = 8388608 := by decide
    omega
  · omega

/-- Any of them is a number near 1 by a power. -/
theorem pair_decode (x : Int) (x0 : 1048576000 ≤ x) (x1 : x ≤ 1082130431) : ∃ m k, logV x = m ∧ logK x = k ∧ x = m + k * 8388608 ∧ 1060439284 ≤ m ∧ m ≤ 1068827891 ∧ -2 ≤ k ∧ k ≤ 2
    ∧ nanB 2 x = false ∧ nouB 2 x = false ∧ fS 2 x = false ∧ infB 2 x = false ∧ finI 2 x = true := by
  obtain ⟨_, _, hu, hm, hs, hf⟩ := word_parts (x / 8388608 - 150) (x % 8388608 + 8388608) x (by omega) (by omega) (by omega) (by omega) (by omega)
  have hl := len24 (x % 8388608 + 8388608) (by omega) (by omega)
  have hM : logM x = 1065353216 + x % 8388608 := by
    unfold logM; rw [hm, hl, show (24 - 24 : Int).toNat = 0 by decide, Int.pow_zero, Int.mul_one]; omega
  have hE : logE x = x / 8388608 - 127 := by unfold logE; rw [hu, hm, hl]; omega
  obtain ⟨_, _, _, _, _, _, hh, _, _⟩ := near_is x (by rw [hm]; omega)
  rw [hM] at hh
  have hsc := sca_word_is (-23) (x % 8388608 + 8388608) (-1) (1065353216 + x % 8388608) (1056964608 + x % 8388608) (by omega) (by omega) (by omega) (by omega) (by omega) (by omega) (by omega) (by omega) (by omega) (by omega)
  rw [hsc] at hh
  obtain ⟨n1, n2⟩ := fin_kinds x hf
  have hz : nouB 2 x = false := by
    cases h' : nouB 2 x
    · rfl
    · have := (nou_a 2 x).1 h'; rw [a_two] at this; omega
  have hle : lesB 2 1068827891 (1065353216 + x % 8388608) = decide (1068827891 < 1065353216 + x % 8388608) := by
    rw [nan_fin' 1068827891 (by omega) (by omega) (1065353216 + x % 8388608) (by omega) (by omega) (by decide) ((nan_kz _ (by omega) (by omega)).2 (by rw [kz_pos _ (by omega)]; omega)) (by decide), kz_pos _ (by omega), kz_pos _ (by omega)]
  unfold logV logK
  rw [hM, hE, hle, ← hh]
  by_cases c : 1068827891 < 1065353216 + x % 8388608
  · rw [decide_eq_true c, if_pos rfl, if_pos rfl]
    exact ⟨_, _, rfl, rfl, by omega, by omega, by omega, by omega, by omega, n1, hz, hs, n2, hf⟩
  · rw [decide_eq_false c, if_neg (by decide), if_neg (by decide)]
    exact ⟨_, _, rfl, rfl, by omega, by omega, by omega, by omega, by omega, n1, hz, hs, n2, hf⟩

theorem exp_open (l : Int) (l0 : 0 ≤ l) (l1 : l ≤ 4294967295) (b0 : -1120924085 ≤ kz l) (b1 : kz l ≤ 1118925336) : expI l = scaV (expP l) (expN l) := by
  have hn : nanB 2 l = false := (nan_kz l l0 l1).2 (by omega)
  have h1 := nan_fin' 1118925336 (by omega) (by omega) l l0 l1 (by decide) hn (by decide)
  have h2 := nan_fin l l0 l1 3268407733 (by omega) (by omega) hn (by decide) (by decide)
  rw [show kz 1118925336 = 1118925336 by decide, decide_eq_false (by omega)] at h1
  rw [show kz 3268407733 = -1120924085 by decide, decide_eq_false (by omega)] at h2
  unfold expI
  rw [hn, h1, h2, if_neg (by decide), if_neg (by decide), if_neg (by decide)]

/-- What is asked of a power's ends. -/
structure Ends (k K N a b c d : Int) : Prop where
  frm : frmV k = K
  neg : negV K = N
  fK : finI 2 K = true
  fN : finI 2 N = true
  vK : rv K = (k : Rat)
  vN : rv N = -(k : Rat)
  lo1 : fmaV K 901758606 3199300115 = a
  lo2 : fmaV K 1060205056 a = c
  lo3 : expN c = k
  hi1 : fmaV K 901758606 1051816468 = b
  hi2 : fmaV K 1060205056 b = d
  hi3 : expN d = k
  fa : finI 2 a = true
  fb : finI 2 b = true
  kc : -1080000000 ≤ kz c ∧ kz c ≤ 1080000000
  kd : -1080000000 ≤ kz d ∧ kz d ≤ 1080000000

theorem k_facts (k : Int) (k0 : -2 ≤ k) (k1 : k ≤ 2) : ∃ K N a b c d, Ends k K N a b c d := by
  rcases (show k = -2 ∨ k = -1 ∨ k = 0 ∨ k = 1 ∨ k = 2 by omega) with rfl | rfl | rfl | rfl | rfl
  · obtain ⟨h1, h2, h3, h4, h5, h6, h7, h8, h9, h10⟩ := kp_m2
    exact ⟨_, _, _, _, _, _, h1, h2, by decide, by decide, h3.trans (by decide +kernel), h4.trans (by decide +kernel), h5, h6, h7, h8, h9, h10, by decide, by decide, by decide, by decide⟩
  · obtain ⟨h1, h2, h3, h4, h5, h6, h7, h8, h9, h10⟩ := kp_m1
    exact ⟨_, _, _, _, _, _, h1, h2, by decide, by decide, h3.trans (by decide +kernel), h4.trans (by decide +kernel), h5, h6, h7, h8, h9, h10, by decide, by decide, by decide, by decide⟩
  · obtain ⟨h1, h2, h3, h4, h5, h6, h7, h8, h9, h10⟩ := kp_p0
    exact ⟨_, _, _, _, _, _, h1, h2, by decide, by decide, h3.trans (by decide +kernel), h4.trans (by decide +kernel), h5, h6, h7, h8, h9, h10, by decide, by decide, by decide, by decide⟩
  · obtain ⟨h1, h2, h3, h4, h5, h6, h7, h8, h9, h10⟩ := kp_p1
    exact ⟨_, _, _, _, _, _, h1, h2, by decide, by decide, h3.trans (by decide +kernel), h4.trans (by decide +kernel), h5, h6, h7, h8, h9, h10, by decide, by decide, by decide, by decide⟩
  · obtain ⟨h1, h2, h3, h4, h5, h6, h7, h8, h9, h10⟩ := kp_p2
    exact ⟨_, _, _, _, _, _, h1, h2, by decide, by decide, h3.trans (by decide +kernel), h4.trans (by decide +kernel), h5, h6, h7, h8, h9, h10, by decide, by decide, by decide, by decide⟩

theorem fma_up (K C y z : Int) (fK : finI 2 K = true) (fC : finI 2 C = true) (fy : finI 2 y = true) (fz : finI 2 z = true) (y0 : 0 ≤ y) (y1 : y ≤ 4294967295) (z0 : 0 ≤ z) (z1 : z ≤ 4294967295) (h : kz y ≤ kz z) : kz (fmaV K C y) ≤ kz (fmaV K C z) := by
  have := (kz_line y z y0 y1 z0 z1 fy fz).1 h
  rw [fma_kz _ _ _ fK fC fy, fma_kz _ _ _ fK fC fz]
  exact rk_mono (by omega)

/-- Exp takes out just the powers that were laid on. -/
theorem n_const {k K N a b c d : Int} (h : Ends k K N a b c d) (y : Int) (fy : finI 2 y = true) (y0 : 0 ≤ y) (y1 : y ≤ 4294967295) (q0 : -1051816467 ≤ kz y) (q1 : kz y ≤ 1051816468) :
    -1080000000 ≤ kz (logT K y) ∧ kz (logT K y) ≤ 1080000000 ∧ expN (logT K y) = k := by
  have hl : finI 2 901758606 = true := by decide
  have hh : finI 2 1060205056 = true := by decide
  have ka : kz 3199300115 = -1051816467 := by decide
  have kb : kz 1051816468 = 1051816468 := by decide
  obtain ⟨i0, i1⟩ := fma_word K 901758606 y
  have u1 := fma_up K 901758606 3199300115 y h.fK hl (by decide) fy (by omega) (by omega) y0 y1 (by omega)
  have u2 := fma_up K 901758606 y 1051816468 h.fK hl fy (by decide) y0 y1 (by omega) (by omega) (by omega)
  rw [h.lo1] at u1
  rw [h.hi1] at u2
  obtain ⟨a0, a1⟩ := fma_word K 901758606 3199300115
  rw [h.lo1] at a0 a1
  obtain ⟨b0, b1⟩ := fma_word K 901758606 1051816468
  rw [h.hi1] at b0 b1
  have ga := (fin_kz a a0 a1).1 h.fa
  have gb := (fin_kz b b0 b1).1 h.fb
  unfold logT
  have fi : finI 2 (fmaV K 901758606 y) = true := fin_of_kz _ i0 i1 (by omega) (by omega)
  have v1 := fma_up K 1060205056 a (fmaV K 901758606 y) h.fK hh h.fa fi a0 a1 i0 i1 u1
  have v2 := fma_up K 1060205056 (fmaV K 901758606 y) b h.fK hh fi h.fb i0 i1 b0 b1 u2
  rw [h.lo2] at v1
  rw [h.hi2] at v2
  obtain ⟨l0, l1⟩ := fma_word K 1060205056 (fmaV K 901758606 y)
  obtain ⟨c0, c1⟩ := fma_word K 1060205056 a
  rw [h.lo2] at c0 c1
  obtain ⟨d0, d1⟩ := fma_word K 1060205056 b
  rw [h.hi2] at d0 d1
  generalize fmaV K 1060205056 (fmaV K 901758606 y) = l at *
  obtain ⟨kc0, kc1⟩ := h.kc
  obtain ⟨kd0, kd1⟩ := h.kd
  have m1 := expN_mono c l c0 c1 l0 l1 (by omega) (by omega) (by omega) (by omega) v1
  have m2 := expN_mono l d l0 l1 d0 d1 (by omega) (by omega) (by omega) (by omega) v2
  rw [h.lo3] at m1
  rw [h.hi3] at m2
  exact ⟨by omega, by omega, by omega⟩

theorem y_consts : rv 1065353219 = 1 + 3 / 8388608 ∧ rv 1068827886 = 11863278 / 8388608 ∧ rv 1065353210 = 1 - 6 / 16777216 ∧ rv 1060439289 = 11863289 / 16777216 ∧ rv 3199300115 = -(11629075 / 33554432) ∧ rv 1051816468 = 11629076 / 33554432 := by
  refine ⟨?_, ?_, ?_, ?_, ?_, ?_⟩ <;> decide +kernel

theorem y_up (v σ y : Rat) (v0 : 1 + 3 / 8388608 ≤ v) (v1 : v ≤ 11863278 / 8388608) (hE : Bd (σ * (1 + v) - (v - 1)) (2 / 10000000)) (hy : Nr y (pe pY σ) (9 / 100000000)) : 0 < y ∧ y ≤ 11629076 / 33554432 := by
  have s1 : 7 / 100000000 ≤ σ := Rat.le_of_mul_le_mul_right (c := 1 + v) (by unfold Bd at hE; grind) (by grind)
  have s2 : σ ≤ 17157277 / 100000000 := Rat.le_of_mul_le_mul_right (c := 1 + v) (by unfold Bd at hE; grind) (by grind)
  have hb := bd_more (pe_bd pY σ (17157277 / 100000000) (by unfold Bd; constructor <;> grind)) (show _ ≤ 34657338 / 100000000 by decide +kernel)
  have z0 := Rat.mul_nonneg (a := σ) (b := σ) (by grind) (by grind)
  have hl : 2 * σ ≤ pe pY σ := by
    rw [pY_is]
    generalize σ * σ = Z at z0 ⊢
    have q1 := Rat.mul_nonneg (a := 14913081 / 67108864) (b := Z) (by decide +kernel) z0
    have q2 := Rat.mul_nonneg (a := 14913081 / 67108864 * Z + 9586981 / 33554432) (b := Z) (by grind) z0
    have q3 := Rat.mul_nonneg (a := (14913081 / 67108864 * Z + 9586981 / 33554432) * Z + 13421773 / 33554432) (b := Z) (by grind) z0
    have q4 := Rat.mul_nonneg (a := ((14913081 / 67108864 * Z + 9586981 / 33554432) * Z + 13421773 / 33554432) * Z + 11184811 / 16777216) (b := Z) (by grind) z0
    have q5 := Rat.mul_nonneg (a := σ) (b := (((14913081 / 67108864 * Z + 9586981 / 33554432) * Z + 13421773 / 33554432) * Z + 11184811 / 16777216) * Z) (by grind) q4
    clear q1 q2 q3 q4 hE hy hb
    grind
  unfold Bd at hb
  unfold Nr at hy
  clear hE
  constructor <;> grind

theorem pY_odd (s : Rat) : pe pY (-s) = -pe pY s := by
  rw [pY_is, pY_is]
  grind

theorem y_down (v σ y : Rat) (v0 : 11863289 / 16777216 ≤ v) (v1 : v ≤ 1 - 6 / 16777216) (hE : Bd (σ * (1 + v) - (v - 1)) (2 / 10000000)) (hy : Nr y (pe pY σ) (9 / 100000000)) : y < 0 ∧ -(11629075 / 33554432) ≤ y := by
  obtain ⟨τ, hτ⟩ : ∃ τ : Rat, τ = -σ := ⟨_, rfl⟩
  have hσ : σ = -τ := by grind
  subst hσ
  clear hτ
  rw [pY_odd] at hy
  have s1 : 7 / 100000000 ≤ τ := Rat.le_of_mul_le_mul_right (c := 1 + v) (by unfold Bd at hE; grind) (by grind)
  have s2 : τ ≤ 171572756 / 1000000000 := Rat.le_of_mul_le_mul_right (c := 1 + v) (by unfold Bd at hE; grind) (by grind)
  have hb := bd_more (pe_bd pY τ (171572756 / 1000000000) (by unfold Bd; constructor <;> grind)) (show _ ≤ 34657335 / 100000000 by decide +kernel)
  have z0 := Rat.mul_nonneg (a := τ) (b := τ) (by grind) (by grind)
  have hl : 2 * τ ≤ pe pY τ := by
    rw [pY_is]
    generalize τ * τ = Z at z0 ⊢
    have q1 := Rat.mul_nonneg (a := 14913081 / 67108864) (b := Z) (by decide +kernel) z0
    have q2 := Rat.mul_nonneg (a := 14913081 / 67108864 * Z + 9586981 / 33554432) (b := Z) (by grind) z0
    have q3 := Rat.mul_nonneg (a := (14913081 / 67108864 * Z + 9586981 / 33554432) * Z + 13421773 / 33554432) (b := Z) (by grind) z0
    have q4 := Rat.mul_nonneg (a := ((14913081 / 67108864 * Z + 9586981 / 33554432) * Z + 13421773 / 33554432) * Z + 11184811 / 16777216) (b := Z) (by grind) z0
    have q5 := Rat.mul_nonneg (a := τ) (b := (((14913081 / 67108864 * Z + 9586981 / 33554432) * Z + 13421773 / 33554432) * Z + 11184811 / 16777216) * Z) (by grind) q4
    clear q1 q2 q3 q4 hE hy hb
    grind
  unfold Bd at hb
  unfold Nr at hy
  clear hE
  constructor <;> grind

/-- Log's series lies between its ends, and on its number's side of nought. -/
theorem y_facts (m : Int) (m0 : 1060439285 ≤ m) (m1 : m ≤ 1068827890) :
    -1051816467 ≤ kz (logY (logS (subV m 1065353216))) ∧ kz (logY (logS (subV m 1065353216))) ≤ 1051816468
    ∧ (1065353216 < m → 0 < kz (logY (logS (subV m 1065353216)))) ∧ (m < 1065353216 → kz (logY (logS (subV m 1065353216))) < 0) ∧ (m = 1065353216 → kz (logY (logS (subV m 1065353216))) = 0) := by
  rcases (show m = 1060439285 ∨ m = 1060439286 ∨ m = 1060439287 ∨ m = 1060439288 ∨ m = 1065353211 ∨ m = 1065353212 ∨ m = 1065353213 ∨ m = 1065353214 ∨ m = 1065353215 ∨ m = 1065353216 ∨ m = 1065353217 ∨ m = 1065353218
    ∨ m = 1068827887 ∨ m = 1068827888 ∨ m = 1068827889 ∨ m = 1068827890 ∨ (1065353219 ≤ m ∧ m ≤ 1068827886) ∨ (1060439289 ≤ m ∧ m ≤ 1065353210) by omega) with rfl | rfl | rfl | rfl | rfl | rfl | rfl | rfl | rfl | rfl | rfl | rfl | rfl | rfl | rfl | rfl | ⟨g0, g1⟩ | ⟨g0, g1⟩
  · rw [ym_1060439285]; decide
  · rw [ym_1060439286]; decide
  · rw [ym_1060439287]; decide
  · rw [ym_1060439288]; decide
  · rw [ym_1065353211]; decide
  · rw [ym_1065353212]; decide
  · rw [ym_1065353213]; decide
  · rw [ym_1065353214]; decide
  · rw [ym_1065353215]; decide
  · rw [ym_1065353216]; decide
  · rw [ym_1065353217]; decide
  · rw [ym_1065353218]; decide
  · rw [ym_1068827887]; decide
  · rw [ym_1068827888]; decide
  · rw [ym_1068827889]; decide
  · rw [ym_1068827890]; decide
  all_goals
    obtain ⟨c1, c2, c3, c4, c5, c6⟩ := y_consts
    have fm : finI 2 m = true := fin_of_kz m (by omega) (by omega) (by rw [kz_pos m (by omega)]; omega) (by rw [kz_pos m (by omega)]; omega)
    obtain ⟨fs, hE, hS⟩ := quo_step m (by omega) (by omega)
    generalize logS (subV m 1065353216) = s at *
    obtain ⟨fy, hy⟩ := log_chain s fs hS
    have hw : 0 ≤ logY s ∧ logY s ≤ 4294967295 := fma_word _ _ _
    obtain ⟨w0, w1⟩ := hw
    generalize logY s = y at *
  · have v0 := (rv_line 1065353219 m (by omega) (by omega) (by omega) (by omega) (by decide) fm).1 (by rw [kz_pos m (by omega), kz_pos _ (by omega)]; omega)
    have v1 := (rv_line m 1068827886 (by omega) (by omega) (by omega) (by omega) fm (by decide)).1 (by rw [kz_pos m (by omega), kz_pos _ (by omega)]; omega)
    rw [c1] at v0
    rw [c2] at v1
    obtain ⟨y0, y1⟩ := y_up _ _ _ v0 v1 hE hy
    obtain ⟨_, _, ky⟩ := pos_of_rv y w0 w1 fy y0
    have k1 := (rv_line y 1051816468 w0 w1 (by omega) (by omega) fy (by decide)).2 (by rw [c6]; exact y1)
    rw [show kz 1051816468 = 1051816468 by decide] at k1
    exact ⟨by omega, by omega, fun _ => by omega, fun _ => by omega, fun _ => by omega⟩
  · have v0 := (rv_line 1060439289 m (by omega) (by omega) (by omega) (by omega) (by decide) fm).1 (by rw [kz_pos m (by omega), kz_pos _ (by omega)]; omega)
    have v1 := (rv_line m 1065353210 (by omega) (by omega) (by omega) (by omega) fm (by decide)).1 (by rw [kz_pos m (by omega), kz_pos _ (by omega)]; omega)
    rw [c4] at v0
    rw [c3] at v1
    obtain ⟨y0, y1⟩ := y_down _ _ _ v0 v1 hE hy
    have k1 := (rv_line 3199300115 y (by omega) (by omega) w0 w1 (by decide) fy).2 (by rw [c5]; exact y1)
    rw [show kz 3199300115 = -1051816467 by decide] at k1
    have k2 : ¬ 0 ≤ kz y := fun g => by
      have := (rv_line 0 y (by omega) (by omega) w0 w1 (by decide) fy).1 (by rw [show kz 0 = 0 by decide]; exact g)
      rw [rv_zero] at this
      grind
    exact ⟨by omega, by omega, fun _ => by omega, fun _ => by omega, fun _ => by omega⟩

theorem rS_scale (n T : Int) : rS (n * T) = (n : Rat) * rS T := by unfold rS; rw [Rat.intCast_mul]; grind

theorem rv_low (w : Int) (w0 : 1056964608 ≤ w) (w1 : w < 1065353216) : rv w = ((w - 1048576000 : Int) : Rat) / 16777216 := by
  obtain ⟨h, _⟩ := sV_word (w - 1048576000).toNat 274 w (by omega) (by omega) (by omega) (by omega) (by omega)
  have u : rS ((2 ^ 274 : Nat) : Int) = 1 / 16777216 := by decide +kernel
  unfold rv
  rw [h, Int.natCast_mul, rS_scale, u, Int.toNat_of_nonneg (by omega)]
  clear h u
  grind

theorem rv_high (w : Int) (w0 : 1065353216 ≤ w) (w1 : w < 1073741824) : rv w = ((w - 1056964608 : Int) : Rat) / 8388608 := by
  obtain ⟨h, _⟩ := sV_word (w - 1056964608).toNat 275 w (by omega) (by omega) (by omega) (by omega) (by omega)
  have u : rS ((2 ^ 275 : Nat) : Int) = 1 / 8388608 := by decide +kernel
  unfold rv
  rw [h, Int.natCast_mul, rS_scale, u, Int.toNat_of_nonneg (by omega)]
  clear h u
  grind

theorem apart_low (p m : Int) (p0 : 1056964608 ≤ p) (p1 : p < 1073741824) (m0 : 1056964608 ≤ m) (m1 : m < 1073741824) (h : m + 64 ≤ p) : rv m + 64 / 16777216 ≤ rv p := by
  have hc := Rat.intCast_le_intCast.2 h
  rw [Rat.intCast_add] at hc
  by_cases a : p < 1065353216
  · rw [rv_low p p0 a, rv_low m m0 (by omega), Rat.intCast_sub, Rat.intCast_sub]
    have : ((64 : Int) : Rat) = 64 := rfl
    rw [this] at hc
    grind
  · have ha := Rat.intCast_le_intCast.2 (show 1065353216 ≤ p by omega)
    have e64 : ((64 : Int) : Rat) = 64 := rfl
    have e1 : ((1065353216 : Int) : Rat) = 1065353216 := rfl
    have e2 : ((1056964608 : Int) : Rat) = 1056964608 := rfl
    have e3 : ((1048576000 : Int) : Rat) = 1048576000 := rfl
    rw [e64] at hc
    rw [e1] at ha
    by_cases b : m < 1065353216
    · rw [rv_high p (by omega) p1, rv_low m m0 b, Rat.intCast_sub, Rat.intCast_sub, e2, e3]
      grind
    · rw [rv_high p (by omega) p1, rv_high m (by omega) m1, Rat.intCast_sub, Rat.intCast_sub, e2]
      grind

theorem m_consts : rv 1073741823 = 16777215 / 8388608 ∧ rv 1056964608 = 1 / 2 := by constructor <;> decide +kernel

/-- What is near is few places apart. -/
theorem few_apart (p m : Int) (p0 : 0 ≤ p) (p1 : p ≤ 4294967295) (fp : finI 2 p = true) (m0 : 1060439284 ≤ m) (m1 : m ≤ 1068827891) (h : Nr (rv p) (rv m) (18 / 10000000)) :
    1056964608 ≤ p ∧ p < 1073741824 ∧ -64 < p - m ∧ p - m < 64 := by
  obtain ⟨w1, w2, w3, w4, w5, w6, w7, w8, w9⟩ := rv_wid
  obtain ⟨c1, c2⟩ := m_consts
  have fm : finI 2 m = true := fin_of_kz m (by omega) (by omega) (by rw [kz_pos m (by omega)]; omega) (by rw [kz_pos m (by omega)]; omega)
  have v0 := (rv_line 1060439284 m (by omega) (by omega) (by omega) (by omega) (by decide) fm).1 (by rw [kz_pos m (by omega), kz_pos _ (by omega)]; exact m0)
  have v1 := (rv_line m 1068827891 (by omega) (by omega) (by omega) (by omega) fm (by decide)).1 (by rw [kz_pos m (by omega), kz_pos _ (by omega)]; exact m1)
  replace v0 := Rat.le_trans w2 v0
  replace v1 := Rat.le_trans v1 w3
  unfold Nr at h
  obtain ⟨h1, h2⟩ := h
  obtain ⟨_, _, kp⟩ := pos_of_rv p p0 p1 fp (by grind)
  have a0 := (rv_line 1056964608 p (by omega) (by omega) p0 p1 (by decide) fp).2 (by rw [c2]; grind)
  have a1 := (rv_line p 1073741823 p0 p1 (by omega) (by omega) fp (by decide)).2 (by rw [c1]; grind)
  rw [kp, kz_pos _ (by omega)] at a0 a1
  refine ⟨a0, by omega, ?_, ?_⟩
  · rcases Int.lt_or_le (-64) (p - m) with g | g
    · exact g
    · exfalso
      have := apart_low m p (by omega) (by omega) a0 (by omega) (by omega)
      grind
  · rcases Int.lt_or_le (p - m) 64 with g | g
    · exact g
    · exfalso
      have := apart_low p m a0 (by omega) (by omega) (by omega) (by omega)
      grind

theorem key_of_pos (v : Int) (v0 : 0 ≤ v) (v1 : v < 2147483648) : keyI 2 v = v := by
  have hl := low_parts 2 v
  rw [show sgb 2 = 2147483648 by rfl] at hl
  rw [key_parts, ← hl, fS_two v v0 (by omega), decide_eq_false (by omega), if_neg (by decide)]; omega

theorem les_nought (l : Int) (l0 : 0 ≤ l) (l1 : l ≤ 4294967295) (fl : finI 2 l = true) : lesB 2 l 0 = decide (kz l < 0) := by
  have hn := (fin_kinds l fl).1
  by_cases c : kz l = 0
  · have : nouB 2 l = true := (nou_a 2 l).2 (by rw [a_two]; unfold kz at c; split at c <;> omega)
    rw [c, decide_eq_false (by omega)]
    cases h : lesB 2 l 0
    · rfl
    · exact absurd ((les_is 2 l 0).1 h).2.2.1 (by rw [this]; decide)
  · rw [nan_fin' l l0 l1 0 (by omega) (by omega) hn (by decide) c, show kz 0 = 0 by decide]

/-- What FuncsPairs asks of a number. -/
def PairOk (x : Int) : Prop := finI 2 (logI x) = true ∧ -64 < keyI 2 (expI (logI x)) - keyI 2 x ∧ keyI 2 (expI (logI x)) - keyI 2 x < 64 ∧ lesB 2 x 1065353216 = lesB 2 (logI x) 0

theorem l_sign (k v l Y : Rat) (hk : Bd k 2) (hY : Bd Y (347 / 1000)) (h : Nr l (k * (11629056 / 16777216) + (k * (12566158 / 8796093022208) + Y)) (352 / 1000000000)) : (1 ≤ k → 0 < l) ∧ (k ≤ -1 → l < 0) := by
  unfold Bd Nr at *
  constructor
  · intro g; grind
  · intro g; grind

set_option maxHeartbeats 1000000 in
theorem pairs_mid (x m k : Int) (hv : logV x = m) (hk : logK x = k) (hx : x = m + k * 8388608) (m0 : 1060439285 ≤ m) (m1 : m ≤ 1068827890) (k0 : -2 ≤ k) (k1 : k ≤ 2)
    (h1 : nanB 2 x = false) (h2 : nouB 2 x = false) (h3 : fS 2 x = false) (h4 : infB 2 x = false) (x0 : 1048576000 ≤ x) (x1 : x ≤ 1082130431) : PairOk x := by
  obtain ⟨K, N, a, b, c, d, hE⟩ := k_facts k k0 k1
  have kc0 := Rat.intCast_le_intCast.2 k0
  have kc1 := Rat.intCast_le_intCast.2 k1
  have hkb : Bd (k : Rat) 2 := ⟨kc0, kc1⟩
  obtain ⟨fy, hy, fl, hl, fp, hp⟩ := pair_near m K N k (by omega) (by omega) hE.fK hE.fN hE.vK hE.vN hkb
  obtain ⟨y0, y1, y2, y3, y4⟩ := y_facts m m0 m1
  obtain ⟨_, _, hS⟩ := quo_step m (by omega) (by omega)
  have hYb := pY_bd _ hS
  have hlog : logI x = logT K (logY (logS (subV m 1065353216))) := by
    unfold logI
    rw [h1, h2, h3, h4, hv, hk, hE.frm, if_neg (by decide), if_neg (by decide), if_neg (by decide), if_neg (by decide)]
  have hw : 0 ≤ logY (logS (subV m 1065353216)) ∧ logY (logS (subV m 1065353216)) ≤ 4294967295 := fma_word _ _ _
  obtain ⟨w0, w1⟩ := hw
  obtain ⟨n0, n1, n2⟩ := n_const hE _ fy w0 w1 y0 y1
  have hw2 : 0 ≤ logT K (logY (logS (subV m 1065353216))) ∧ logT K (logY (logS (subV m 1065353216))) ≤ 4294967295 := fma_word _ _ _
  obtain ⟨l0, l1⟩ := hw2
  have hsg := l_sign _ 0 _ _ hkb hYb hl
  have hk0 : k = 0 → kz (logT K (logY (logS (subV m 1065353216)))) = kz (logY (logS (subV m 1065353216))) := fun g => by
    have eK : K = 0 := by rw [← hE.frm, g]; kernel_rfl
    have z1 : sP 0 901758606 = 0 := by kernel_rfl
    have z2 : sP 0 1060205056 = 0 := by kernel_rfl
    have f0 : finI 2 0 = true := by decide
    unfold logT
    rw [eK]
    have e1 := fma_kz 0 901758606 _ f0 (show finI 2 901758606 = true by decide) fy
    rw [z1, Int.zero_add, rk_self _ w0 w1 fy] at e1
    obtain ⟨i0, i1⟩ := fma_word 0 901758606 (logY (logS (subV m 1065353216)))
    have fi : finI 2 (fmaV 0 901758606 (logY (logS (subV m 1065353216)))) = true := fin_of_kz _ i0 i1 (by omega) (by omega)
    have e2 := fma_kz 0 1060205056 _ f0 (show finI 2 1060205056 = true by decide) fi
    rw [z2, Int.zero_add, rk_self _ i0 i1 fi] at e2
    rw [e2, e1]
  unfold PairOk
  rw [hlog]
  generalize hly : logY (logS (subV m 1065353216)) = y at *
  generalize hll : logT K y = l at *
  have hexp : expI l = scaV (expP l) k := by rw [exp_open l l0 l1 (by omega) (by omega), n2]
  have hP : expP l = alongV 985008993 (fmaV N 901758606 (fmaV N 1060205056 l)) [1007192201, 1026206379, 1042983595, 1056964608, 1065353216, 1065353216] := by
    unfold expP expR
    rw [n2, hE.frm, hE.neg]
  rw [← hP] at fp hp
  have hpw : 0 ≤ expP l ∧ expP l ≤ 4294967295 := by rw [hP, along_is]; exact fma_word _ _ _
  obtain ⟨p0, p1⟩ := hpw
  generalize expP l = p at *
  obtain ⟨r0, r1, r2, r3⟩ := few_apart p m p0 p1 fp (by omega) (by omega) hp
  have hsc : scaV p k = p + k * 8388608 := by
    by_cases g : p < 1065353216
    · exact sca_word_is (-24) (p - 1048576000) k p _ (by omega) (by omega) (by omega) (by omega) (by omega) (by omega) (by omega) (by omega) (by omega) (by omega)
    · exact sca_word_is (-23) (p - 1056964608) k p _ (by omega) (by omega) (by omega) (by omega) (by omega) (by omega) (by omega) (by omega) (by omega) (by omega)
  rw [hexp, hsc, key_of_pos x (by omega) (by omega), key_of_pos (p + k * 8388608) (by omega) (by omega), les_nought l l0 l1 fl]
  refine ⟨fl, by omega, by omega, ?_⟩
  rw [nan_fin x (by omega) (by omega) 1065353216 (by omega) (by omega) h1 (by decide) (by decide), kz_pos x (by omega), show kz 1065353216 = 1065353216 by decide]
  have hneg : (k : Rat) ≤ -1 → kz l < 0 := fun g => by
    rcases Int.lt_or_le (kz l) 0 with u | u
    · exact u
    · exfalso
      have := (rv_line 0 l (by omega) (by omega) l0 l1 (by decide) fl).1 (by rw [show kz 0 = 0 by decide]; exact u)
      rw [rv_zero] at this
      have := hsg.2 g
      grind
  have hpos : 1 ≤ (k : Rat) → 0 < kz l := fun g => by
    rcases Int.lt_or_le 0 (kz l) with u | u
    · exact u
    · exfalso
      have := (rv_line l 0 l0 l1 (by omega) (by omega) fl (by decide)).1 (by rw [show kz 0 = 0 by decide]; exact u)
      rw [rv_zero] at this
      have := hsg.1 g
      grind
  rcases (show k ≤ -1 ∨ k = 0 ∨ 1 ≤ k by omega) with g | g | g
  · have := hneg (Rat.intCast_le_intCast.2 g)
    rw [decide_eq_true this, decide_eq_true (by omega)]
  · have e := hk0 g
    rw [e]
    rcases (show m < 1065353216 ∨ m = 1065353216 ∨ 1065353216 < m by omega) with u | u | u
    · have := y3 u
      rw [decide_eq_true this, decide_eq_true (by omega)]
    · have := y4 u
      rw [decide_eq_false (by omega), decide_eq_false (by omega)]
    · have := y2 u
      rw [decide_eq_false (by omega), decide_eq_false (by omega)]
  · have := hpos (Rat.intCast_le_intCast.2 g)
    rw [decide_eq_false (by omega), decide_eq_false (by omega)]

/-- All that FuncsPairs asks, of any number from a quarter to below 4. -/
theorem pairs_all (x : Int) (x0 : 1048576000 ≤ x) (x1 : x ≤ 1082130431) : PairOk x := by
  obtain ⟨m, k, hv, hk, hx, m0, m1, k0, k1, h1, h2, h3, h4, _⟩ := pair_decode x x0 x1
  by_cases c : m = 1060439284
  · rcases (show x = 1052050676 ∨ x = 1060439284 ∨ x = 1068827892 ∨ x = 1077216500 by omega) with rfl | rfl | rfl | rfl
    · unfold PairOk; rw [lx_1052050676, ex_1052050676]; decide
    · unfold PairOk; rw [lx_1060439284, ex_1060439284]; decide
    · unfold PairOk; rw [lx_1068827892, ex_1068827892]; decide
    · unfold PairOk; rw [lx_1077216500, ex_1077216500]; decide
  · by_cases d : m = 1068827891
    · rcases (show x = 1052050675 ∨ x = 1060439283 ∨ x = 1068827891 ∨ x = 1077216499 by omega) with rfl | rfl | rfl | rfl
      · unfold PairOk; rw [lx_1052050675, ex_1052050675]; decide
      · unfold PairOk; rw [lx_1060439283, ex_1060439283]; decide
      · unfold PairOk; rw [lx_1068827891, ex_1068827891]; decide
      · unfold PairOk; rw [lx_1077216499, ex_1077216499]; decide
    · exact pairs_mid x m k hv hk hx (by omega) (by omega) k0 k1 h1 h2 h3 h4 x0 x1

theorem log_word (x : Int) : 0 ≤ logI x ∧ logI x ≤ 4294967295 := by
  unfold logI
  split
  · omega
  · split
    · omega
    · split
      · omega
      · split
        · omega
        · exact fma_word _ _ _

theorem exp_word (x : Int) (x0 : 0 ≤ x) (x1 : x ≤ 4294967295) : 0 ≤ expI x ∧ expI x ≤ 4294967295 := by
  unfold expI
  split
  · omega
  · split
    · omega
    · split
      · omega
      · have : 0 ≤ expP x ∧ expP x ≤ 4294967295 := by unfold expP; rw [along_is]; exact fma_word _ _ _
        exact sca_word _ _ this.1 this.2
end Go.Proofs.Ytheaeclojljecaa
