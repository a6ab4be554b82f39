/- Quotients and roots, cut at any place that is far enough: they are rounded alike (no program here). -/
import Derived.Test.YtianheeefhemhaaAddMath
namespace Go.Proofs.Ytianheeefhemhaa
open Go.RowKit
set_option linter.unusedVariables false
set_option linter.unusedSimpArgs false

/-- A quotient cut behind k bits; whether more is behind. -/
def quoN (M N k : Nat) : Nat := M * 2 ^ k / N

def quoB (M N k : Nat) : Bool := decide (M * 2 ^ k % N ≠ 0)

/-- The quotient M / N times 2 to e, rounded. -/
def quoE (f mode : Int) (s : Bool) (e : Int) (M N : Nat) : Ending := PackE f mode s (quoN M N 100 * 2 ^ (e - 100 + 10100).toNat + (quoB M N 100).toNat)

theorem quo_cut (M N k d : Nat) (hN : 0 < N) : quoN M N (k + d) / 2 ^ d = quoN M N k ∧ (quoB M N k = true ↔ (quoN M N (k + d) % 2 ^ d ≠ 0 ∨ quoB M N (k + d) = true)) := by
  have hd := np2 d
  unfold quoN quoB
  rw [Nat.pow_add, ← Nat.mul_assoc]
  generalize M * 2 ^ k = A
  have e1 : A * 2 ^ d / N / 2 ^ d = A / N := by
    rw [Nat.div_div_eq_div_mul, Nat.mul_div_mul_right _ _ hd]
  refine ⟨e1, ?_⟩
  simp only [decide_eq_true_eq]
  have a := Nat.div_add_mod A N
  have b := Nat.div_add_mod (A * 2 ^ d) N
  have c := Nat.div_add_mod (A * 2 ^ d / N) (2 ^ d)
  rw [e1] at c
  have la := Nat.mod_lt A hN
  have lb := Nat.mod_lt (A * 2 ^ d) hN
  constructor
  · intro h
    by_cases g : A * 2 ^ d / N % 2 ^ d = 0
    · right
      intro h2
      apply h
      rw [g, Nat.add_zero] at c
      rw [h2, Nat.add_zero, ← c] at b
      have : N * (A / N) * 2 ^ d = A * 2 ^ d := by rw [← b, Nat.mul_assoc, Nat.mul_comm (A / N)]
      have := Nat.eq_of_mul_eq_mul_right hd this
      omega
    · exact .inl g
  · intro h h0
    rw [h0, Nat.add_zero] at a
    have e2 : A * 2 ^ d = N * (A / N * 2 ^ d) := by rw [← Nat.mul_assoc, a]
    rcases h with h | h
    · apply h
      rw [e2, Nat.mul_div_cancel_left _ hN, Nat.mul_mod_left]
    · apply h
      rw [e2, Nat.mul_mod_right]

/-- What is cut at k bits is rounded as what is cut d bits later. -/
theorem cut_alike (f mode : Int) (s : Bool) (X Y : Nat) (p q : Bool) (d E : Nat) (hX : Y / 2 ^ d = X) (hp : p = true ↔ (Y % 2 ^ d ≠ 0 ∨ q = true)) (hE : 1 ≤ E) (hb : 2 ^ (fn f + 3) ≤ X) :
    PackE f mode s (X * 2 ^ (d + E) + p.toNat) = PackE f mode s (Y * 2 ^ E + q.toNat) := by
  have hd := np2 d
  have h2 : 2 ≤ 2 ^ E := Nat.pow_le_pow_right (n := 2) (by decide) hE
  have hq : q.toNat ≤ 1 := Bool.toNat_le _
  have hm := Nat.mod_lt Y hd
  have hY := Nat.div_add_mod Y (2 ^ d)
  rw [hX] at hY
  have e : Y * 2 ^ E + q.toNat = X * 2 ^ (d + E) + (Y % 2 ^ d * 2 ^ E + q.toNat) := by
    rw [← hY, Nat.pow_add, Nat.add_mul, ← Nat.mul_assoc, Nat.mul_comm (2 ^ d) X]
    have : (2 ^ d * X + Y % 2 ^ d) % 2 ^ d = Y % 2 ^ d := by rw [hY]
    rw [Nat.mul_comm X (2 ^ d), this]; omega
  rw [e]
  refine sticky_sum f mode s X (d + E) _ p hb ?_ ?_ (by omega)
  · have h1 : (Y % 2 ^ d + 1) * 2 ^ E ≤ 2 ^ d * 2 ^ E := Nat.mul_le_mul_right _ hm
    rw [Nat.add_mul] at h1
    rw [Nat.pow_add]; omega
  · rw [hp]
    have z := mul_nz (Y % 2 ^ d) _ (np2 E)
    cases q
    · simp only [Bool.false_eq_true, or_false, Bool.toNat_false, Nat.add_zero]; exact z.symm
    · simp

/-- The quotient, cut wherever it has bits enough. -/
theorem quo_is (f mode : Int) (s : Bool) (e : Int) (M N k : Nat) (hN : 0 < N) (hk : k ≤ 100) (h0 : -9000 ≤ e) (h1 : e ≤ 9000) (hb : 2 ^ (fn f + 3) ≤ quoN M N k) :
    PackE f mode s (valN (clampE (e - k)) (quoN M N k : Int) (quoB M N k)) = quoE f mode s e M N := by
  obtain ⟨d, hd⟩ : ∃ d, k + d = 100 := ⟨100 - k, by omega⟩
  obtain ⟨a, b⟩ := quo_cut M N k d hN
  rw [hd] at a b
  unfold quoE
  rw [toNat_val (e - k) _ _ (quoN M N k) (d + (e - 100 + 10100).toNat) (by rw [clamp_in _ (by omega) (by omega)]; omega) rfl]
  exact cut_alike f mode s _ _ _ _ d _ a b (by omega) hb

theorem quo_scale (M N i j k : Nat) (hN : 0 < N) (h : j ≤ i + k) : quoN (M * 2 ^ i) (N * 2 ^ j) k = quoN M N (i + k - j) ∧ quoB (M * 2 ^ i) (N * 2 ^ j) k = quoB M N (i + k - j) := by
  have e : M * 2 ^ i * 2 ^ k = M * 2 ^ (i + k - j) * 2 ^ j := by
    rw [Nat.mul_assoc, ← Nat.pow_add, Nat.mul_assoc, ← Nat.pow_add]; congr 2; omega
  unfold quoN quoB
  rw [e, Nat.mul_div_mul_right _ _ (np2 j), Nat.mul_mod_mul_right]
  refine ⟨rfl, ?_⟩
  congr 1
  rw [eq_iff_iff, Nat.mul_ne_zero_iff]
  have := np2 j
  omega

/-! Roots. -/
/-- The root of a whole number, cut. -/
def IsRoot (M R : Nat) : Prop := R * R ≤ M ∧ M < (R + 1) * (R + 1)

theorem root_one (M R S : Nat) (h : IsRoot M R) (g : IsRoot M S) : R = S := by
  obtain ⟨a, b⟩ := h
  obtain ⟨c, d⟩ := g
  rcases Nat.lt_trichotomy R S with x | x | x
  · exfalso
    have : (R + 1) * (R + 1) ≤ S * S := Nat.mul_le_mul x x
    omega
  · exact x
  · exfalso
    have : (S + 1) * (S + 1) ≤ R * R := Nat.mul_le_mul x x
    omega

theorem root_cut (M R d : Nat) (h : IsRoot (M * 4 ^ d) R) : IsRoot M (R / 2 ^ d) ∧ (decide (R / 2 ^ d * (R / 2 ^ d) ≠ M) = true ↔ (R % 2 ^ d ≠ 0 ∨ decide (R * R ≠ M * 4 ^ d) = true)) := by
  have hd := np2 d
  have h4 : 4 ^ d = 2 ^ d * 2 ^ d := by rw [← Nat.mul_pow]
  obtain ⟨a, b⟩ := h
  have c := Nat.div_add_mod R (2 ^ d)
  have l := Nat.mod_lt R hd
  rw [h4] at a b ⊢
  generalize R / 2 ^ d = q at *
  generalize R % 2 ^ d = r at *
  generalize 2 ^ d = D at *
  subst c
  have e1 : q * q * (D * D) = (D * q) * (D * q) := by grind
  have e2 : (q + 1) * (q + 1) * (D * D) = (D * q + D) * (D * q + D) := by grind
  have a1 : q * q ≤ M := by
    refine Nat.le_of_mul_le_mul_right (c := D * D) ?_ (Nat.mul_pos hd hd)
    rw [e1]
    exact Nat.le_trans (Nat.mul_le_mul (Nat.le_add_right _ r) (Nat.le_add_right _ r)) a
  have b1 : M < (q + 1) * (q + 1) := by
    refine Nat.lt_of_mul_lt_mul_right (a := D * D) ?_
    rw [e2]
    exact Nat.lt_of_lt_of_le b (Nat.mul_le_mul (by omega) (by omega))
  refine ⟨⟨a1, b1⟩, ?_⟩
  simp only [decide_eq_true_eq]
  constructor
  · intro h
    by_cases g : r = 0
    · right
      intro h2
      subst g
      apply h
      rw [Nat.add_zero, ← e1] at h2
      exact Nat.eq_of_mul_eq_mul_right (Nat.mul_pos hd hd) h2
    · exact .inl g
  · intro h h0
    subst h0
    rw [e1] at a b
    have hr : r = 0 := by
      rcases Nat.eq_zero_or_pos r with g | g
      · exact g
      · exfalso
        have : (D * q + 1) * (D * q + 1) ≤ (D * q + r) * (D * q + r) := Nat.mul_le_mul (by omega) (by omega)
        have e : (D * q + 1) * (D * q + 1) = (D * q) * (D * q) + 2 * (D * q) + 1 := by grind
        omega
    rcases h with h | h
    · exact h hr
    · apply h
      rw [hr, Nat.add_zero, e1]

/-- The root, cut at k bits and at d more: rounded alike. -/
theorem roo_is (f mode : Int) (s : Bool) (e : Int) (M R S k d : Nat) (h : IsRoot (M * 4 ^ k) R) (g : IsRoot (M * 4 ^ (k + d)) S) (h0 : -9000 ≤ e - k - d) (h1 : e ≤ 9000) (hb : 2 ^ (fn f + 3) ≤ R) :
    PackE f mode s (valN (clampE (e - k)) (R : Int) (decide (R * R ≠ M * 4 ^ k))) = PackE f mode s (valN (clampE (e - k - d)) (S : Int) (decide (S * S ≠ M * 4 ^ (k + d)))) := by
  have e4 : M * 4 ^ (k + d) = M * 4 ^ k * 4 ^ d := by rw [Nat.pow_add, Nat.mul_assoc]
  rw [e4] at g ⊢
  obtain ⟨a, b⟩ := root_cut (M * 4 ^ k) S d g
  have hr := root_one _ _ _ a h
  rw [hr] at b
  obtain ⟨E, hE⟩ : ∃ E : Nat, e - k - d + 10100 = E := ⟨(e - k - d + 10100).toNat, by omega⟩
  rw [toNat_val (e - k) _ _ R (d + E) (by rw [clamp_in _ (by omega) (by omega)]; omega) rfl]
  rw [toNat_val (e - k - d) _ _ S E (by rw [clamp_in _ (by omega) (by omega)]; omega) rfl]
  exact cut_alike f mode s R S _ _ d E hr b (by omega) hb
end Go.Proofs.Ytianheeefhemhaa
