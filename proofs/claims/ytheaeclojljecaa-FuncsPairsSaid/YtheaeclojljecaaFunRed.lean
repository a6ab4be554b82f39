/- What Exp takes of its number: how many halvings, and what is left (no program here). -/
import Derived.Test.YtheaeclojljecaaFunMath
namespace Go.Proofs.Ytheaeclojljecaa
open Go.RowKit
set_option linter.unusedVariables false
set_option linter.unusedSimpArgs false

def tw : Nat := 298

/-- V units made whole, to the nearest. -/
def wN (V : Nat) : Nat := V / 2 ^ tw + (growB 0 false (V / 2 ^ tw) (catU tw V)).toNat

theorem wN_mono {V W : Nat} (h : V ≤ W) : wN V ≤ wN W := by
  have hd : V / 2 ^ tw ≤ W / 2 ^ tw := Nat.div_le_div_right h
  have g1 := Bool.toNat_le (growB 0 false (V / 2 ^ tw) (catU tw V))
  unfold wN
  by_cases e : V / 2 ^ tw = W / 2 ^ tw
  · have a := Nat.div_add_mod V (2 ^ tw)
    have b := Nat.div_add_mod W (2 ^ tw)
    rw [e] at a
    have hc : catU tw V ≤ catU tw W := by
      apply cat_mono
      generalize 2 ^ tw * (W / 2 ^ tw) = Q at a b
      omega
    have := grow_mono 0 false (W / 2 ^ tw) _ _ hc
    rw [e]; omega
  · omega

theorem wN_zero : wN 0 = 0 := by
  unfold wN catU; simp [growB]

theorem grow_even (s : Bool) (k c : Nat) : growB 0 s k c = growB 0 false k c := by cases s <;> rfl

theorem who_is (a : Int) : whN 2 0 a = wN (amtE (unE 2 a) (unM 2 a)) := by
  obtain ⟨u0, u1⟩ := unE_bd 2 a
  have htw : tw = 298 := rfl
  unfold whN wN amtE
  generalize (unM 2 a).toNat = M
  by_cases c : 0 ≤ unE 2 a
  · rw [if_pos c, show (unE 2 a + 298).toNat = (unE 2 a).toNat + tw by omega, Nat.pow_add, ← Nat.mul_assoc, Nat.mul_div_cancel _ (p2 tw)]
    have hc : catU tw (M * 2 ^ (unE 2 a).toNat * 2 ^ tw) = 0 := by unfold catU; rw [Nat.mul_mod_left, if_pos rfl]
    rw [hc, grow_zero]; simp
  · obtain ⟨k, hk⟩ : ∃ k : Nat, k = (-unE 2 a).toNat := ⟨_, rfl⟩
    obtain ⟨E, hE⟩ : ∃ E : Nat, E = (unE 2 a + 298).toNat := ⟨_, rfl⟩
    rw [if_neg c, ← hk, ← hE, show tw = k + E by omega, cat_scale, Nat.pow_add, Nat.mul_div_mul_right _ _ (p2 E), grow_even]

theorem to_is (a : Int) (h : finI 2 a = true) (hw : wN (amtE (unE 2 a) (unM 2 a)) < 2147483648) : toV a = sg (fS 2 a) (wN (amtE (unE 2 a) (unM 2 a))) := by
  have hn : noInt 2 0 a = false := by
    unfold noInt; rw [h, who_is, decide_eq_false (by omega), decide_eq_false (by omega)]; rfl
  unfold toV toE
  rw [hn, if_neg (by decide), who_is]
  rfl

def wI (S : Int) : Int := if S < 0 then -(wN S.natAbs : Int) else (wN S.natAbs : Int)

theorem wI_mono {S T : Int} (h : S ≤ T) : wI S ≤ wI T := by
  by_cases s : S < 0
  · by_cases t : T < 0
    · have := wN_mono (show T.natAbs ≤ S.natAbs by omega)
      unfold wI; rw [if_pos s, if_pos t]; omega
    · unfold wI; rw [if_pos s, if_neg t]; omega
  · have := wN_mono (show S.natAbs ≤ T.natAbs by omega)
    unfold wI; rw [if_neg s, if_neg (by omega)]; omega

theorem wI_sg (n : Bool) (A : Nat) : wI (sg n A) = sg n (wN A) := by
  unfold wI sg
  by_cases z : A = 0
  · subst z; cases n <;> simp [wN_zero]
  · cases n
    · simp only [Bool.false_eq_true, if_false]; rw [if_neg (by omega), Int.natAbs_natCast]
    · simp only [if_true]; rw [if_pos (by omega), Int.natAbs_neg, Int.natAbs_natCast]

theorem to_wI (a : Int) (h : finI 2 a = true) (hw : -2147483648 < wI (sV a) ∧ wI (sV a) < 2147483648) : toV a = wI (sV a) := by
  have e : wI (sV a) = sg (fS 2 a) (wN (amtE (unE 2 a) (unM 2 a))) := wI_sg _ _
  rw [e] at hw ⊢
  apply to_is a h
  unfold sg at hw
  split at hw <;> omega

/-- The bits that stand at a place. -/
def wd (k : Int) : Int := if k < 0 then 2147483648 - k else k

theorem wd_kz (k : Int) (h0 : -2147483648 < k) (h1 : k < 2147483648) : kz (wd k) = k ∧ 0 ≤ wd k ∧ wd k ≤ 4294967295 := by
  unfold wd kz; (repeat' split) <;> omega

theorem op_word {e : Ending} (h : ShapeE e) : 0 ≤ valI e ∧ valI e ≤ 4294967295 := by
  obtain ⟨_, _, _, _, _, _, a, b⟩ := op_val h (V := valI e) rfl
  exact ⟨a, b⟩

theorem fma_word (a b c : Int) : 0 ≤ fmaV a b c ∧ fmaV a b c ≤ 4294967295 := op_word (fma_shape 2 0 a b c)

theorem mul_word (a b : Int) : 0 ≤ mulV a b ∧ mulV a b ≤ 4294967295 := op_word (mul_shape 2 0 a b)

theorem add_word (a b : Int) : 0 ≤ addV a b ∧ addV a b ≤ 4294967295 := op_word (add_shapeE 2 0 a b)

theorem sub_word (a b : Int) : 0 ≤ subV a b ∧ subV a b ≤ 4294967295 := op_word (sub_shapeE 2 0 a b)

theorem div_word (a b : Int) : 0 ≤ divV a b ∧ divV a b ≤ 4294967295 := op_word (div_shape 2 0 a b)

theorem frm_word (n : Int) : 0 ≤ frmV n ∧ frmV n ≤ 4294967295 := op_word (from_shapeE 2 0 n)

theorem sca_word (a n : Int) (a0 : 0 ≤ a) (a1 : a ≤ 4294967295) : 0 ≤ scaV a n ∧ scaV a n ≤ 4294967295 := op_word (sca_shapeE 2 0 a n a0 a1)

theorem neg_word (a : Int) (a0 : 0 ≤ a) (a1 : a ≤ 4294967295) : 0 ≤ negV a ∧ negV a ≤ 4294967295 := min_bd 2 a a0 a1

/-- A product by a number above nought keeps the order. -/
theorem sP_mono (x y c : Int) (hc : 0 ≤ sV c) (h : sV x ≤ sV y) : sP x c ≤ sP y c := by
  obtain ⟨T, hT⟩ : ∃ T : Nat, T = 298 := ⟨_, rfl⟩
  have a := sP_mul x c T hT
  have b := sP_mul y c T hT
  have m : sV x * sV c ≤ sV y * sV c := Int.mul_le_mul_of_nonneg_right h hc
  rw [← a, ← b] at m
  exact Int.le_of_mul_le_mul_right m (by have := p2 T; omega)

/-- The greatest number that Exp takes apart, by its amount. -/
theorem red_ends : expN 3268407733 = -150 ∧ expN 1120924085 = 150 ∧ kz (mulV 3268407733 1069066811) = -1125515265 ∧ kz (mulV 1120924085 1069066811) = 1125515265 := by
  refine ⟨?_, ?_, ?_, ?_⟩ <;> kernel_rfl

theorem mulL_fin (x : Int) (x0 : 0 ≤ x) (x1 : x ≤ 4294967295) (b0 : -1120924085 ≤ kz x) (b1 : kz x ≤ 1120924085) :
    finI 2 x = true ∧ finI 2 (mulV x 1069066811) = true ∧ -1125515265 ≤ kz (mulV x 1069066811) ∧ kz (mulV x 1069066811) ≤ 1125515265 := by
  have hf : finI 2 x = true := (fin_kz x x0 x1).2 (by omega)
  have hL : finI 2 1069066811 = true := by decide
  have f1 : finI 2 1120924085 = true := by decide
  have f2 : finI 2 3268407733 = true := by decide
  have k1 : kz 1120924085 = 1120924085 := by decide
  have k2 : kz 3268407733 = -1120924085 := by decide
  have hs : 0 ≤ sV 1069066811 := by
    have := (kz_line 0 1069066811 (by omega) (by omega) (by omega) (by omega) (by decide) hL).1 (by decide)
    have z : sV 0 = 0 := by decide
    omega
  have a := rk_mono (sP_mono x 1120924085 1069066811 hs ((kz_line _ _ x0 x1 (by omega) (by omega) hf f1).1 (by omega)))
  have b := rk_mono (sP_mono 3268407733 x 1069066811 hs ((kz_line _ _ (by omega) (by omega) x0 x1 f2 hf).1 (by omega)))
  rw [← mul_kz _ _ hf hL] at a b
  rw [← mul_kz _ _ f1 hL, red_ends.2.2.2] at a
  rw [← mul_kz _ _ f2 hL, red_ends.2.2.1] at b
  obtain ⟨w0, w1⟩ := mul_word x 1069066811
  exact ⟨hf, (fin_kz _ w0 w1).2 (by omega), b, a⟩

/-- How often it is halved keeps the order. -/
theorem expN_mono (x y : Int) (x0 : 0 ≤ x) (x1 : x ≤ 4294967295) (y0 : 0 ≤ y) (y1 : y ≤ 4294967295) (b0 : -1120924085 ≤ kz x) (b1 : kz x ≤ 1120924085) (c0 : -1120924085 ≤ kz y) (c1 : kz y ≤ 1120924085) (h : kz x ≤ kz y) : expN x ≤ expN y := by
  have hL : finI 2 1069066811 = true := by decide
  have hs : 0 ≤ sV 1069066811 := by
    have := (kz_line 0 1069066811 (by omega) (by omega) (by omega) (by omega) (by decide) hL).1 (by decide)
    have z : sV 0 = 0 := by decide
    omega
  obtain ⟨fx, gx, l1, l2⟩ := mulL_fin x x0 x1 b0 b1
  obtain ⟨fy, gy, l3, l4⟩ := mulL_fin y y0 y1 c0 c1
  obtain ⟨w0, w1⟩ := mul_word x 1069066811
  obtain ⟨w2, w3⟩ := mul_word y 1069066811
  have hxy := (kz_line _ _ x0 x1 y0 y1 fx fy).1 h
  have hk := rk_mono (sP_mono x y 1069066811 hs hxy)
  rw [← mul_kz _ _ fx hL, ← mul_kz _ _ fy hL] at hk
  have hm := wI_mono ((kz_line _ _ w0 w1 w2 w3 gx gy).1 hk)
  have e1 : wI (sV 1125515265) = 150 := by kernel_rfl
  have e2 : wI (sV 3272998913) = -150 := by kernel_rfl
  have top : ∀ z, 0 ≤ z → z ≤ 4294967295 → finI 2 z = true → -1125515265 ≤ kz z → kz z ≤ 1125515265 → -150 ≤ wI (sV z) ∧ wI (sV z) ≤ 150 := by
    intro z z0 z1 fz p q
    have a := wI_mono ((kz_line z 1125515265 z0 z1 (by omega) (by omega) fz (by decide)).1 (by rw [show kz 1125515265 = 1125515265 by decide]; exact q))
    have b := wI_mono ((kz_line 3272998913 z (by omega) (by omega) z0 z1 (by decide) fz).1 (by rw [show kz 3272998913 = -1125515265 by decide]; exact p))
    omega
  have tx := top _ w0 w1 gx l1 l2
  have ty := top _ w2 w3 gy l3 l4
  unfold expN
  rw [to_wI _ gx (by omega), to_wI _ gy (by omega)]
  exact hm

/-- What is left of x behind n halvings. -/
def redI (k x : Int) : Int := fmaV k 1060205056 x

def redR (k x : Int) : Int := fmaV k 901758606 (redI k x)

def redK (n : Int) : Int := negV (frmV n)
end Go.Proofs.Ytheaeclojljecaa
