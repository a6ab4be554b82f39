/- What is left of any number that Exp takes, by how far each step lies from what is exact (no program here). -/
import Derived.Test.YtheaeclojljecaaErr
namespace Go.Proofs.Ytheaeclojljecaa
open Go.RowKit
set_option linter.unusedVariables false
set_option linter.unusedSimpArgs false

theorem red_consts : rv 1069066811 = 12102203 / 8388608 ∧ rv 1060205056 = 11629056 / 16777216 ∧ rv 901758606 = 12566158 / 8796093022208 ∧ rv 3268407733 ≤ 0 ∧ -104 ≤ rv 3268407733 ∧ rv 1118925336 ≤ 89 ∧ rv 1056964608 = 1 / 2 ∧ rv 3204448256 = -1 / 2 := by
  refine ⟨?_, ?_, ?_, ?_, ?_, ?_, ?_, ?_⟩ <;> decide +kernel

theorem red_lin1 (v q n F : Rat) (q1 : -(151 / 8000000) ≤ q - v * (12102203 / 8388608)) (q2 : q - v * (12102203 / 8388608) ≤ 151 / 8000000) (h1 : -(1 / 2) ≤ n - q) (h2 : n - q ≤ 1 / 2) (m0 : -150 ≤ n) (m1 : n ≤ 128)
    (k1 : -(150 / 8000000) ≤ F - n) (k2 : F - n ≤ 150 / 8000000) : -(4 / 10) ≤ -F * (11629056 / 16777216) + v ∧ -F * (11629056 / 16777216) + v ≤ 4 / 10 := by
  constructor <;> grind

theorem red_lin2 (A F I n : Rat) (m0 : -150 ≤ n) (m1 : n ≤ 128) (k1 : -(150 / 8000000) ≤ F - n) (k2 : F - n ≤ 150 / 8000000) (a0 : -(4 / 10) ≤ A) (a1 : A ≤ 4 / 10)
    (i1 : -((4 / 10) / 8000000) ≤ I - A) (i2 : I - A ≤ (4 / 10) / 8000000) : -(45 / 100) ≤ -F * (12566158 / 8796093022208) + I ∧ -F * (12566158 / 8796093022208) + I ≤ 45 / 100 := by
  constructor <;> grind

theorem red_lin3 (B R : Rat) (b0 : -(45 / 100) ≤ B) (b1 : B ≤ 45 / 100) (r1 : -((45 / 100) / 8000000) ≤ R - B) (r2 : R - B ≤ (45 / 100) / 8000000) : -1 / 2 ≤ R ∧ R ≤ 1 / 2 := by
  constructor <;> grind

/-- How often it is halved. -/
theorem expN_whole (x : Int) (x0 : 0 ≤ x) (x1 : x ≤ 4294967295) (b0 : -1120924085 ≤ kz x) (b1 : kz x ≤ 1118925336) :
    -150 ≤ expN x ∧ expN x ≤ 128 ∧ expN x = wI (sV (mulV x 1069066811)) := by
  obtain ⟨fx, gx, l1, l2⟩ := mulL_fin x x0 x1 b0 (by omega)
  obtain ⟨w0, w1⟩ := mul_word x 1069066811
  have e1 : wI (sV 1125515265) = 150 := by kernel_rfl
  have e2 : wI (sV 3272998913) = -150 := by kernel_rfl
  have a := wI_mono ((kz_line (mulV x 1069066811) 1125515265 w0 w1 (by omega) (by omega) gx (by decide)).1 (by rw [show kz 1125515265 = 1125515265 by decide]; exact l2))
  have b := wI_mono ((kz_line 3272998913 (mulV x 1069066811) (by omega) (by omega) w0 w1 (by decide) gx).1 (by rw [show kz 3272998913 = -1125515265 by decide]; exact l1))
  have e : expN x = wI (sV (mulV x 1069066811)) := by unfold expN; exact to_wI _ gx (by omega)
  have t : expN 1118925336 = 128 := by kernel_rfl
  have k : kz 1118925336 = 1118925336 := by decide
  have m := expN_mono x 1118925336 x0 x1 (by omega) (by omega) b0 (by omega) (by omega) (by omega) (by omega)
  exact ⟨by omega, by omega, e⟩

/-- What is left of any number that isn't beyond: at most a half, of either sign. -/
theorem red_bd (x : Int) (x0 : 0 ≤ x) (x1 : x ≤ 4294967295) (b0 : -1120924085 ≤ kz x) (b1 : kz x ≤ 1118925336) :
    -150 ≤ expN x ∧ expN x ≤ 128 ∧ finI 2 (expR x) = true ∧ -1056964608 ≤ kz (expR x) ∧ kz (expR x) ≤ 1056964608 := by
  obtain ⟨n0, n1, hn⟩ := expN_whole x x0 x1 b0 b1
  obtain ⟨cL, cH, cl, c4, c5, c6, c7, c8⟩ := red_consts
  obtain ⟨fx, gx, l1, l2⟩ := mulL_fin x x0 x1 b0 (by omega)
  have v0 := (rv_line 3268407733 x (by omega) (by omega) x0 x1 (by decide) fx).1 (by rw [show kz 3268407733 = -1120924085 by decide]; exact b0)
  have v1 := (rv_line x 1118925336 x0 x1 (by omega) (by omega) fx (by decide)).1 (by rw [show kz 1118925336 = 1118925336 by decide]; exact b1)
  have vb : -151 ≤ rv x * (12102203 / 8388608) ∧ rv x * (12102203 / 8388608) ≤ 151 := by
    generalize rv x = v at *
    generalize rv 3268407733 = c at *
    generalize rv 1118925336 = d at *
    clear hn fx gx l1 l2
    constructor <;> grind
  obtain ⟨q0, q1, q2⟩ := mul_err x 1069066811 151 fx (by decide) (by decide +kernel) (by decide +kernel) (by rw [cL]; exact vb.1) (by rw [cL]; exact vb.2)
  rw [cL] at q1 q2
  obtain ⟨h1, h2⟩ := wI_half (sV (mulV x 1069066811))
  rw [← hn] at h1 h2
  replace h1 : -(1 / 2) ≤ (expN x : Rat) - rv (mulV x 1069066811) := h1
  replace h2 : (expN x : Rat) - rv (mulV x 1069066811) ≤ 1 / 2 := h2
  have m0 : (-150 : Rat) ≤ (expN x : Rat) := by have := Rat.intCast_le_intCast.2 n0; exact this
  have m1 : (expN x : Rat) ≤ 128 := by have := Rat.intCast_le_intCast.2 n1; exact this
  obtain ⟨f0, f1⟩ := frm_word (expN x)
  obtain ⟨k0, k1, k2⟩ := rv_err (expN x * ((2 ^ tw : Nat) : Int)) _ f0 f1 (frm_kz (expN x) tw rfl) 150 (by decide +kernel) (by decide +kernel) (by rw [rS_tw]; exact m0) (by rw [rS_tw]; exact Rat.le_trans m1 (by decide +kernel))
  rw [rS_tw] at k1 k2
  have hK := rv_neg _ f0 f1
  have fK : finI 2 (negV (frmV (expN x))) = true := by rw [← frm_neg, (xor_sV _ f0 f1).2]; exact k0
  rw [frm_neg] at hK
  unfold expR
  generalize negV (frmV (expN x)) = K at hK fK ⊢
  obtain ⟨a0, a1⟩ := red_lin1 _ _ _ _ q1 q2 h1 h2 m0 m1 k1 k2
  obtain ⟨i0, i1, i2⟩ := fma_err K 1060205056 x (4 / 10) fK (by decide) fx (by decide +kernel) (by decide +kernel) (by rw [cH, hK]; exact a0) (by rw [cH, hK]; exact a1)
  rw [cH, hK] at i1 i2
  generalize fmaV K 1060205056 x = I at *
  obtain ⟨d0, d1⟩ := red_lin2 _ _ _ _ m0 m1 k1 k2 a0 a1 i1 i2
  obtain ⟨r0, r1, r2⟩ := fma_err K 901758606 I (45 / 100) fK (by decide) i0 (by decide +kernel) (by decide +kernel) (by rw [cl, hK]; exact d0) (by rw [cl, hK]; exact d1)
  rw [cl, hK] at r1 r2
  obtain ⟨g0, g1⟩ := red_lin3 _ _ d0 d1 r1 r2
  obtain ⟨z0, z1⟩ := fma_word K 901758606 I
  generalize fmaV K 901758606 I = R at *
  refine ⟨n0, n1, r0, ?_, ?_⟩
  · have := (rv_line 3204448256 R (by omega) (by omega) z0 z1 (by decide) r0).2 (by rw [c8]; exact g0)
    rw [show kz 3204448256 = -1056964608 by decide] at this; exact this
  · have := (rv_line R 1056964608 z0 z1 (by omega) (by omega) r0 (by decide)).2 (by rw [c7]; exact g1)
    rw [show kz 1056964608 = 1056964608 by decide] at this; exact this
end Go.Proofs.Ytheaeclojljecaa
