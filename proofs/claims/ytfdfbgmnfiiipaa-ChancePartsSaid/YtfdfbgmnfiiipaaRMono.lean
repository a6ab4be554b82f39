/- A greater number isn't rounded to a lesser one (no program here). -/
import Derived.Test.YtfdfbgmnfiiipaaRdMath
namespace Go.Proofs.Ytfdfbgmnfiiipaa
open Go.RowKit
set_option linter.unusedVariables false

theorem log_mono {a b : Nat} (h : a ≤ b) : a.log2 ≤ b.log2 := by
  by_cases ha : a = 0
  · subst ha; simp
  · rw [Nat.le_log2 (by omega)]; exact Nat.le_trans (Nat.log2_self_le ha) h

theorem grow_mono (mode : Int) (neg : Bool) (k c d : Nat) (h : c ≤ d) : (growB mode neg k c).toNat ≤ (growB mode neg k d).toNat := by
  have key : growB mode neg k c = true → growB mode neg k d = true := by
    unfold growB
    (repeat' split) <;> cases neg <;> simp <;> omega
  cases hc : growB mode neg k c
  · simp
  · rw [key hc]; decide

theorem cat_mono (u V W : Nat) (h : V % 2 ^ u ≤ W % 2 ^ u) : catU u V ≤ catU u W := by
  unfold catU
  (repeat' split) <;> omega

theorem plc_mono (f mode : Int) (neg : Bool) {V W : Nat} (h : V ≤ W) : plcN f mode neg V ≤ plcN f mode neg W := by
  have hl := log_mono h
  have hd : dN f V ≤ dN f W := by unfold dN; omega
  have hkV := kept_bd f V
  have hkW := kept_bd f W
  have g1 : (growB mode neg (keptN f V) (catN f V)).toNat ≤ 1 := Bool.toNat_le _
  by_cases e : dN f V = dN f W
  · have hk : keptN f V ≤ keptN f W := by unfold keptN; rw [e]; exact Nat.div_le_div_right h
    unfold plcN
    rw [e]
    by_cases ek : keptN f V = keptN f W
    · have hc : catN f V ≤ catN f W := by
        unfold catN; rw [e]
        apply cat_mono
        unfold keptN at ek; rw [e] at ek
        have a := Nat.div_add_mod V (2 ^ (luN f + dN f W))
        have b := Nat.div_add_mod W (2 ^ (luN f + dN f W))
        rw [ek] at a; omega
      have := grow_mono mode neg (keptN f W) _ _ hc
      rw [ek]; omega
    · omega
  · have h1 : (dN f V + 1) * 2 ^ fn f ≤ dN f W * 2 ^ fn f := Nat.mul_le_mul_right _ (by omega)
    have h2 := hkW.2 (by omega)
    have h3 := hkV.1
    rw [Nat.pow_succ] at h3
    rw [Nat.add_mul] at h1
    unfold plcN
    omega

theorem mag_mono (f mode : Int) (neg : Bool) {V W : Nat} (h : V ≤ W) : magN f mode neg V ≤ magN f mode neg W := by
  have := plc_mono f mode neg h
  unfold magN
  (repeat' split) <;> omega

theorem val_mono (e x y : Int) (m n : Bool) (x0 : 0 ≤ x) (h : x < y ∨ (x = y ∧ (m = true → n = true))) (e0 : -10000 ≤ e) : valN e x m ≤ valN e y n := by
  have hm : m.toNat ≤ 1 := Bool.toNat_le _
  have hp := p2 (e + 10100).toNat
  unfold valN
  rcases h with h | ⟨rfl, h⟩
  · have : (x.toNat + 1) * 2 ^ (e + 10100).toNat ≤ y.toNat * 2 ^ (e + 10100).toNat := Nat.mul_le_mul_right _ (by omega)
    rw [Nat.add_mul] at this
    omega
  · cases m
    · simp
    · rw [h rfl]; omega
end Go.Proofs.Ytfdfbgmnfiiipaa
