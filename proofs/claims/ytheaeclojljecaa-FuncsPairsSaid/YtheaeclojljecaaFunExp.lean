/- Exp's bounds (no program here). -/
import Derived.Test.YtheaeclojljecaaFunBd
import Derived.Test.YtheaeclojljecaaFunMath
namespace Go.Proofs.Ytheaeclojljecaa
open Go.RowKit
set_option linter.unusedVariables false
set_option linter.unusedSimpArgs false

theorem sV_pos (x : Int) (x0 : 0 ≤ x) (x1 : x ≤ 4294967295) (h : finI 2 x = true) : 0 ≤ kz x ↔ 0 ≤ sV x := by
  have := kz_line 0 x (by omega) (by omega) x0 x1 (by decide) h
  rw [show kz 0 = 0 by decide, show sV 0 = 0 by decide] at this; exact this

theorem sV_neg (x : Int) (x0 : 0 ≤ x) (x1 : x ≤ 4294967295) (h : finI 2 x = true) : kz x ≤ 0 ↔ sV x ≤ 0 := by
  have := kz_line x 0 x0 x1 (by omega) (by omega) h (by decide)
  rw [show kz 0 = 0 by decide, show sV 0 = 0 by decide] at this; exact this

/-- One step of the polynomial: between its ends. -/
theorem step_bd (C c p r lo hi : Int) (hC : finI 2 C = true) (hc : finI 2 c = true) (hp : finI 2 p = true) (hr : finI 2 r = true)
    (C0 : 0 ≤ C) (C1 : C ≤ 4294967295) (p0 : 0 ≤ p) (p1 : p ≤ 4294967295) (r0 : 0 ≤ r) (r1 : r ≤ 4294967295)
    (q0 : 0 ≤ kz p) (q1 : kz p ≤ kz C) (s0 : -1056964608 ≤ kz r) (s1 : kz r ≤ 1056964608)
    (hlo : kz (fmaV C 3204448256 c) = lo) (hhi : kz (fmaV C 1056964608 c) = hi) : lo ≤ kz (fmaV p r c) ∧ kz (fmaV p r c) ≤ hi := by
  obtain ⟨T, hT⟩ : ∃ T : Nat, T = 298 := ⟨_, rfl⟩
  have fH : finI 2 1056964608 = true := by decide
  have fM : finI 2 3204448256 = true := by decide
  have kH : kz 1056964608 = 1056964608 := by decide
  have kM : kz 3204448256 = -1056964608 := by decide
  have a1 := (sV_pos p p0 p1 hp).1 q0
  have a2 := (kz_line _ _ p0 p1 C0 C1 hp hC).1 q1
  have a3 := (kz_line _ _ (by omega) (by omega) r0 r1 fM hr).1 (by omega)
  have a4 := (kz_line _ _ r0 r1 (by omega) (by omega) hr fH).1 (by omega)
  have hm : sV 3204448256 = -sV 1056964608 := by kernel_rfl
  have hh : 0 ≤ sV 1056964608 := (sV_pos _ (by omega) (by omega) fH).1 (by omega)
  have e1 := sP_mul p r T hT
  have e2 := sP_mul C 1056964608 T hT
  have e3 := sP_mul C 3204448256 T hT
  have hpT : (0 : Int) < ((2 ^ T : Nat) : Int) := by have := p2 T; omega
  rw [hm] at a3 e3
  have b1 : sV p * sV r ≤ sV C * sV 1056964608 :=
    Int.le_trans (Int.mul_le_mul_of_nonneg_left a4 a1) (Int.mul_le_mul_of_nonneg_right a2 hh)
  have b2 : sV C * -sV 1056964608 ≤ sV p * sV r := by
    have x1 : sV p * -sV 1056964608 ≤ sV p * sV r := Int.mul_le_mul_of_nonneg_left a3 a1
    have x2 : sV p * sV 1056964608 ≤ sV C * sV 1056964608 := Int.mul_le_mul_of_nonneg_right a2 hh
    rw [Int.mul_neg] at x1 ⊢
    omega
  rw [← e1, ← e2] at b1
  rw [← e1, ← e3] at b2
  have c1 := Int.le_of_mul_le_mul_right b1 hpT
  have c2 := Int.le_of_mul_le_mul_right b2 hpT
  rw [fma_kz _ _ _ hp hr hc, ← hlo, ← hhi, fma_kz _ _ _ hC fM hc, fma_kz _ _ _ hC fH hc]
  exact ⟨rk_mono (by omega), rk_mono (by omega)⟩

def pC (i : Nat) : Int := match i with | 0 => 985008993 | 1 => 1007937855 | 2 => 1027418067 | 3 => 1044533157 | 4 => 1058556405 | 5 => 1067848317 | _ => 1070795070

theorem pC_is : kz (fmaV 985008993 3204448256 1007192201) = 1006260134 ∧ kz (fmaV 985008993 1056964608 1007192201) = 1007937855 ∧ kz (fmaV 1007937855 3204448256 1026206379) = 1024994691 ∧ kz (fmaV 1007937855 1056964608 1026206379) = 1027418067
    ∧ kz (fmaV 1027418067 3204448256 1042983595) = 1041434033 ∧ kz (fmaV 1027418067 1056964608 1042983595) = 1044533157 ∧ kz (fmaV 1044533157 3204448256 1056964608) = 1053781015 ∧ kz (fmaV 1044533157 1056964608 1056964608) = 1058556405
    ∧ kz (fmaV 1058556405 3204448256 1065353216) = 1060363014 ∧ kz (fmaV 1058556405 1056964608 1065353216) = 1067848317 ∧ kz (fmaV 1067848317 3204448256 1065353216) = 1051974406 ∧ kz (fmaV 1067848317 1056964608 1065353216) = 1070795070 ∧ kz (fmaV 1065353216 3204448256 1065353216) = 1056964608 := by
  refine ⟨?_, ?_, ?_, ?_, ?_, ?_, ?_, ?_, ?_, ?_, ?_, ?_, ?_⟩ <;> kernel_rfl

/-- The polynomial of what is left: from a half to 2, on its side of 1. -/
theorem poly_bd (r : Int) (r0 : 0 ≤ r) (r1 : r ≤ 4294967295) (hr : finI 2 r = true) (s0 : -1056964608 ≤ kz r) (s1 : kz r ≤ 1056964608) :
    ∃ p, alongV 985008993 r [1007192201, 1026206379, 1042983595, 1056964608, 1065353216, 1065353216] = p ∧ 0 ≤ p ∧ p ≤ 4294967295 ∧ finI 2 p = true ∧ 1056964608 ≤ kz p ∧ kz p ≤ 1073741824
      ∧ (0 ≤ kz r → 1065353216 ≤ kz p) ∧ (kz r ≤ 0 → kz p ≤ 1065353216) := by
  obtain ⟨x1, y1, x2, y2, x3, y3, x4, y4, x5, y5, x6, y6, x7⟩ := pC_is
  have hz : finI 2 1065353216 = true := by decide
  obtain ⟨w10, w11⟩ := fma_word 985008993 r 1007192201
  obtain ⟨l1, h1⟩ := step_bd 985008993 1007192201 985008993 r _ _ (by decide) (by decide) (by decide) hr (by omega) (by omega) (by omega) (by omega) r0 r1 (by decide) (by omega) s0 s1 x1 y1
  obtain ⟨p1, hp1⟩ : ∃ p1, fmaV 985008993 r 1007192201 = p1 := ⟨_, rfl⟩
  rw [hp1] at w10 w11 l1 h1
  have f1 := fin_of_kz p1 w10 w11 (by omega) (by omega)
  obtain ⟨w20, w21⟩ := fma_word p1 r 1026206379
  obtain ⟨l2, h2⟩ := step_bd 1007937855 1026206379 p1 r _ _ (by decide) (by decide) f1 hr (by omega) (by omega) w10 w11 r0 r1 (by omega) (by rw [show kz 1007937855 = 1007937855 by decide]; exact h1) s0 s1 x2 y2
  obtain ⟨p2, hp2⟩ : ∃ p2, fmaV p1 r 1026206379 = p2 := ⟨_, rfl⟩
  rw [hp2] at w20 w21 l2 h2
  have f2 := fin_of_kz p2 w20 w21 (by omega) (by omega)
  obtain ⟨w30, w31⟩ := fma_word p2 r 1042983595
  obtain ⟨l3, h3⟩ := step_bd 1027418067 1042983595 p2 r _ _ (by decide) (by decide) f2 hr (by omega) (by omega) w20 w21 r0 r1 (by omega) (by rw [show kz 1027418067 = 1027418067 by decide]; exact h2) s0 s1 x3 y3
  obtain ⟨p3, hp3⟩ : ∃ p3, fmaV p2 r 1042983595 = p3 := ⟨_, rfl⟩
  rw [hp3] at w30 w31 l3 h3
  have f3 := fin_of_kz p3 w30 w31 (by omega) (by omega)
  obtain ⟨w40, w41⟩ := fma_word p3 r 1056964608
  obtain ⟨l4, h4⟩ := step_bd 1044533157 1056964608 p3 r _ _ (by decide) (by decide) f3 hr (by omega) (by omega) w30 w31 r0 r1 (by omega) (by rw [show kz 1044533157 = 1044533157 by decide]; exact h3) s0 s1 x4 y4
  obtain ⟨p4, hp4⟩ : ∃ p4, fmaV p3 r 1056964608 = p4 := ⟨_, rfl⟩
  rw [hp4] at w40 w41 l4 h4
  have f4 := fin_of_kz p4 w40 w41 (by omega) (by omega)
  obtain ⟨w50, w51⟩ := fma_word p4 r 1065353216
  obtain ⟨l5, h5⟩ := step_bd 1058556405 1065353216 p4 r _ _ (by decide) (by decide) f4 hr (by omega) (by omega) w40 w41 r0 r1 (by omega) (by rw [show kz 1058556405 = 1058556405 by decide]; exact h4) s0 s1 x5 y5
  have k5 := fma_kz p4 r 1065353216 f4 hr hz
  obtain ⟨p5, hp5⟩ : ∃ p5, fmaV p4 r 1065353216 = p5 := ⟨_, rfl⟩
  rw [hp5] at w50 w51 l5 h5 k5
  have f5 := fin_of_kz p5 w50 w51 (by omega) (by omega)
  obtain ⟨w60, w61⟩ := fma_word p5 r 1065353216
  obtain ⟨l6, h6⟩ := step_bd 1067848317 1065353216 p5 r _ _ (by decide) (by decide) f5 hr (by omega) (by omega) w50 w51 r0 r1 (by omega) (by rw [show kz 1067848317 = 1067848317 by decide]; exact h5) s0 s1 x6 y6
  have k6 := fma_kz p5 r 1065353216 f5 hr hz
  obtain ⟨T, hT⟩ : ∃ T : Nat, T = 298 := ⟨_, rfl⟩
  have hpT : (0 : Int) < ((2 ^ T : Nat) : Int) := by have := Go.Proofs.Ytheaeclojljecaa.p2 T; omega
  have one : rk (sV 1065353216) = 1065353216 := by
    rw [rk_self _ (by omega) (by omega) hz]; decide
  have q4 := (sV_pos p4 w40 w41 f4).1 (by omega)
  have q5 := (sV_pos p5 w50 w51 f5).1 (by omega)
  have e4 := sP_mul p4 r T hT
  have e5 := sP_mul p5 r T hT
  have up : 0 ≤ kz r → 1065353216 ≤ kz (fmaV p5 r 1065353216) := fun g => by
    have hr0 := (sV_pos r r0 r1 hr).1 g
    have m : 0 ≤ sV p5 * sV r := Int.mul_nonneg q5 hr0
    rw [← e5] at m
    have : 0 ≤ sP p5 r := Int.le_of_mul_le_mul_right (by rw [Int.zero_mul]; exact m) hpT
    rw [k6]
    have := rk_mono (show sV 1065353216 ≤ sP p5 r + sV 1065353216 by omega)
    omega
  have down : kz r ≤ 0 → kz (fmaV p5 r 1065353216) ≤ 1065353216 ∧ 1056964608 ≤ kz (fmaV p5 r 1065353216) := fun g => by
    have hr0 := (sV_neg r r0 r1 hr).1 g
    have m4 : sV p4 * sV r ≤ 0 := Int.mul_nonpos_of_nonneg_of_nonpos q4 hr0
    have m5 : sV p5 * sV r ≤ 0 := Int.mul_nonpos_of_nonneg_of_nonpos q5 hr0
    rw [← e4] at m4
    rw [← e5] at m5
    have n4 : sP p4 r ≤ 0 := Int.le_of_mul_le_mul_right (by rw [Int.zero_mul]; exact m4) hpT
    have n5 : sP p5 r ≤ 0 := Int.le_of_mul_le_mul_right (by rw [Int.zero_mul]; exact m5) hpT
    have a := rk_mono (show sP p4 r + sV 1065353216 ≤ sV 1065353216 by omega)
    have b := rk_mono (show sP p5 r + sV 1065353216 ≤ sV 1065353216 by omega)
    rw [← k5, one] at a
    rw [← k6, one] at b
    refine ⟨b, ?_⟩
    exact (step_bd 1065353216 1065353216 p5 r _ _ hz hz f5 hr (by omega) (by omega) w50 w51 r0 r1 (by omega) (by rw [show kz 1065353216 = 1065353216 by decide]; exact a) s0 s1 x7 rfl).1
  have e : alongV 985008993 r [1007192201, 1026206379, 1042983595, 1056964608, 1065353216, 1065353216] = fmaV p5 r 1065353216 := by
    unfold alongV; simp only [List.foldl_cons, List.foldl_nil]; rw [hp1, hp2, hp3, hp4, hp5]
  refine ⟨_, e, w60, w61, fin_of_kz _ w60 w61 (by omega) (by omega), ?_, by omega, up, fun g => (down g).1⟩
  rcases Int.le_total 0 (kz r) with g | g
  · have := up g; omega
  · exact (down g).2

/-! Scaling. -/
theorem sca_val (p n : Int) (hp : finI 2 p = true) (hs : fS 2 p = false) (n0 : -150 ≤ n) (n1 : n ≤ 128) : scaV p n = (magN 2 0 false ((unM 2 p).toNat * 2 ^ (unE 2 p + n + 10100).toNat) : Int) := by
  obtain ⟨a, b⟩ := fin_kinds p hp
  obtain ⟨u0, u1⟩ := unE_bd 2 p
  have hl : limI n = n := by unfold limI; rw [if_neg (by omega), if_neg (by omega)]
  have hv : valN (clampE (unE 2 p + limI n)) (unM 2 p) false = (unM 2 p).toNat * 2 ^ (unE 2 p + n + 10100).toNat := by
    unfold valN
    rw [hl, show clampE (unE 2 p + n) = unE 2 p + n by unfold clampE; rw [if_neg (by omega), if_neg (by omega)], Bool.toNat_false, Nat.add_zero]
  unfold scaV scaE
  rw [a, hp, hs, hv, if_neg (by decide), if_neg (by decide)]
  show zerI 2 false + _ = _
  rw [show zerI 2 false = 0 by rfl, Int.zero_add]

theorem mag_num (x : Int) (h0 : 0 ≤ x) (h1 : x < 2147483648) (h : finI 2 x = true) : (magN 2 0 false (numN 2 x) : Int) = x := by
  have := rkN_self x h0 (by omega) h
  unfold rkN at this
  rw [up_num] at this
  omega

theorem num_mono (x y : Int) (x0 : 0 ≤ x) (x1 : x < 2147483648) (y0 : 0 ≤ y) (y1 : y < 2147483648) (hx : finI 2 x = true) (hy : finI 2 y = true) (h : x ≤ y) : numN 2 x ≤ numN 2 y := by
  rw [num_line 2 x y hx hy, a_two, a_two]; omega

theorem num_twos : numN 2 1065353216 = numN 2 1056964608 * 2 ∧ numN 2 1073741824 = numN 2 1065353216 * 2 := by constructor <;> kernel_rfl

theorem sca_zero (p : Int) (p0 : 0 ≤ p) (p1 : p < 2147483648) (hp : finI 2 p = true) (hs : fS 2 p = false) : scaV p 0 = p := by
  rw [sca_val p 0 hp hs (by omega) (by omega), Int.add_zero]
  exact mag_num p p0 p1 hp

theorem sca_up (p n : Int) (p0 : 1056964608 ≤ p) (p1 : p < 2147483648) (hp : finI 2 p = true) (hs : fS 2 p = false) (n0 : 1 ≤ n) (n1 : n ≤ 128) : 1065353216 ≤ scaV p n ∧ scaV p n ≤ 2139095040 := by
  obtain ⟨u0, u1⟩ := unE_bd 2 p
  have hm := num_mono 1056964608 p (by omega) (by omega) (by omega) p1 (by decide) hp p0
  have hv : numN 2 1065353216 ≤ (unM 2 p).toNat * 2 ^ (unE 2 p + n + 10100).toNat := by
    rw [num_twos.1]
    have e : (unM 2 p).toNat * 2 ^ (unE 2 p + n + 10100).toNat = numN 2 p * 2 ^ n.toNat := by
      unfold numN; rw [Nat.mul_assoc, ← Nat.pow_add, show (unE 2 p + 10100).toNat + n.toNat = (unE 2 p + n + 10100).toNat by omega]
    rw [e]
    exact Nat.mul_le_mul hm (Nat.pow_le_pow_right (n := 2) (by decide) (show 1 ≤ n.toNat by omega))
  have h1 := mag_mono 2 0 false hv
  have h2 := mag_num 1065353216 (by omega) (by omega) (by decide)
  have h3 := mag_top ((unM 2 p).toNat * 2 ^ (unE 2 p + n + 10100).toNat)
  rw [sca_val p n hp hs (by omega) n1]
  omega

theorem sca_down (p n : Int) (p0 : 0 ≤ p) (p1 : p ≤ 1073741824) (hp : finI 2 p = true) (hs : fS 2 p = false) (n0 : -150 ≤ n) (n1 : n ≤ -1) : 0 ≤ scaV p n ∧ scaV p n ≤ 1065353216 := by
  obtain ⟨u0, u1⟩ := unE_bd 2 p
  have hm := num_mono p 1073741824 p0 (by omega) (by omega) (by omega) hp (by decide) p1
  have hv : (unM 2 p).toNat * 2 ^ (unE 2 p + n + 10100).toNat ≤ numN 2 1065353216 := by
    rw [num_twos.2] at hm
    have e : numN 2 p = (unM 2 p).toNat * 2 ^ (unE 2 p + n + 10100).toNat * 2 ^ (-n).toNat := by
      unfold numN; rw [Nat.mul_assoc, ← Nat.pow_add, show (unE 2 p + n + 10100).toNat + (-n).toNat = (unE 2 p + 10100).toNat by omega]
    rw [e] at hm
    have h2 : 2 ^ 1 ≤ 2 ^ (-n).toNat := Nat.pow_le_pow_right (n := 2) (by decide) (show 1 ≤ (-n).toNat by omega)
    generalize (unM 2 p).toNat * 2 ^ (unE 2 p + n + 10100).toNat = V at hm ⊢
    have h3 : V * 2 ^ 1 ≤ V * 2 ^ (-n).toNat := Nat.mul_le_mul_left _ h2
    omega
  have h1 := mag_mono 2 0 false hv
  have h2 := mag_num 1065353216 (by omega) (by omega) (by decide)
  rw [sca_val p n hp hs n0 (by omega)]
  omega

theorem frm_nought : redK 0 = 2147483648 ∧ expN 0 = 0 := by constructor <;> kernel_rfl

/-- What isn't halved is left as it is. -/
theorem red_nought (x : Int) (x0 : 0 ≤ x) (x1 : x ≤ 4294967295) (hx : finI 2 x = true) (hn : expN x = 0) : kz (expR x) = kz x := by
  obtain ⟨T, hT⟩ : ∃ T : Nat, T = 298 := ⟨_, rfl⟩
  have hpT : (0 : Int) < ((2 ^ T : Nat) : Int) := by have := p2 T; omega
  have hz : ∀ c, sP 2147483648 c = 0 := fun c => by
    have e := sP_mul 2147483648 c T hT
    rw [show sV 2147483648 = 0 by decide, Int.zero_mul] at e
    rcases Int.mul_eq_zero.1 e with h | h
    · exact h
    · omega
  have hk : expR x = redR (redK 0) x := by unfold expR redR redI redK; rw [hn]
  have f0 : finI 2 2147483648 = true := by decide
  have hb := (fin_kz x x0 x1).1 hx
  obtain ⟨u0, u1⟩ := fma_word 2147483648 1060205056 x
  have e1 : kz (fmaV 2147483648 1060205056 x) = kz x := by rw [fma_kz _ _ _ f0 (by decide) hx, hz, Int.zero_add, rk_self x x0 x1 hx]
  have f1 : finI 2 (fmaV 2147483648 1060205056 x) = true := fin_of_kz _ u0 u1 (by omega) (by omega)
  rw [hk, frm_nought.1]
  unfold redR redI
  rw [fma_kz _ _ _ f0 (by decide) f1, hz, Int.zero_add, rk_self _ u0 u1 f1, e1]

/-- Exp of anything that is a number: from nought to infinity, on its side of 1. -/
theorem expI_bd (x : Int) (x0 : 0 ≤ x) (x1 : x ≤ 4294967295) (hn : nanB 2 x = false) :
    0 ≤ expI x ∧ expI x ≤ 2139095040 ∧ (0 ≤ kz x → 1065353216 ≤ expI x) ∧ (kz x ≤ 0 → expI x ≤ 1065353216) := by
  have h1 := nan_fin' 1118925336 (by omega) (by omega) x x0 x1 (by decide) hn (by decide)
  have h2 := nan_fin x x0 x1 3268407733 (by omega) (by omega) hn (by decide) (by decide)
  rw [show kz 1118925336 = 1118925336 by decide] at h1
  rw [show kz 3268407733 = -1120924085 by decide] at h2
  unfold expI
  rw [hn, if_neg (by decide), h1, h2]
  by_cases c1 : 1118925336 < kz x
  · rw [decide_eq_true c1, if_pos rfl]; exact ⟨by omega, by omega, by omega, by omega⟩
  · by_cases c2 : kz x < -1120924085
    · rw [decide_eq_false c1, decide_eq_true c2, if_neg (by decide), if_pos rfl]; exact ⟨by omega, by omega, by omega, by omega⟩
    · rw [decide_eq_false c1, decide_eq_false c2, if_neg (by decide), if_neg (by decide)]
      obtain ⟨n0, n1, fr, s0, s1⟩ := red_bd x x0 x1 (by omega) (by omega)
      obtain ⟨w0, w1⟩ := fma_word (negV (frmV (expN x))) 901758606 (fmaV (negV (frmV (expN x))) 1060205056 x)
      obtain ⟨p, hp, p0, p1, fp, l1, l2, l3, l4⟩ := poly_bd (expR x) w0 w1 fr s0 s1
      have hp' : expP x = p := hp
      rw [hp']
      have fx : finI 2 x = true := fin_of_kz x x0 x1 (by omega) (by omega)
      have pp : p < 2147483648 := by unfold kz at l1; split at l1 <;> omega
      have kp : kz p = p := by unfold kz; rw [if_neg (by omega)]
      have sp : fS 2 p = false := by rw [fS_two p p0 p1]; exact decide_eq_false (by omega)
      rw [kp] at l1 l2 l3 l4
      have hm0 : 0 ≤ kz x → 0 ≤ expN x := fun g => by
        have := expN_mono 0 x (by omega) (by omega) x0 x1 (by decide) (by decide) (by omega) (by omega) (by rw [show kz 0 = 0 by decide]; exact g)
        rw [frm_nought.2] at this; exact this
      have hm1 : kz x ≤ 0 → expN x ≤ 0 := fun g => by
        have := expN_mono x 0 x0 x1 (by omega) (by omega) (by omega) (by omega) (by decide) (by decide) (by rw [show kz 0 = 0 by decide]; exact g)
        rw [frm_nought.2] at this; exact this
      have hz : expN x = 0 → kz (expR x) = kz x := red_nought x x0 x1 fx
      obtain ⟨n, hnn⟩ : ∃ n, expN x = n := ⟨_, rfl⟩
      rw [hnn] at n0 n1 hm0 hm1 hz ⊢
      rcases (show n ≤ -1 ∨ n = 0 ∨ 1 ≤ n by omega) with g | g | g
      · have := sca_down p n p0 l2 fp sp n0 g
        exact ⟨by omega, by omega, fun k => by have := hm0 k; omega, fun _ => this.2⟩
      · subst g
        have e := hz rfl
        rw [sca_zero p p0 pp fp sp]
        exact ⟨by omega, by omega, fun k => l3 (by omega), fun k => l4 (by omega)⟩
      · have := sca_up p n l1 pp fp sp g n1
        exact ⟨by omega, by omega, fun _ => this.1, fun k => by have := hm1 k; omega⟩
end Go.Proofs.Ytheaeclojljecaa
