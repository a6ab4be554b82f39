/- What lies far below a unit counts only as being there (no program here). -/
import Derived.Test.YtdaikgeellpolaaRdMath
namespace Go.Proofs.Ytdaikgeellpolaa
open Go.RowKit
set_option linter.unusedVariables false

theorem below_unit (X E t k : Nat) (ht : t < 2 ^ E) :
    (X * 2 ^ E + t) / 2 ^ (E + k) = X / 2 ^ k ∧ ((X * 2 ^ E + t) % 2 ^ (E + k) ≠ 0 ↔ X % 2 ^ k ≠ 0 ∨ t ≠ 0) := by
  have hp := p2 E
  have e1 : (X * 2 ^ E + t) / 2 ^ E = X := by rw [Nat.mul_comm, Nat.mul_add_div hp, Nat.div_eq_of_lt ht, Nat.add_zero]
  have e2 : (X * 2 ^ E + t) % 2 ^ E = t := by rw [Nat.mul_comm, Nat.mul_add_mod, Nat.mod_eq_of_lt ht]
  rw [Nat.pow_add, Nat.mod_mul, ← Nat.div_div_eq_div_mul, e1, e2]
  refine ⟨rfl, ?_⟩
  have : 2 ^ E * (X % 2 ^ k) = 0 ↔ X % 2 ^ k = 0 := by rw [Nat.mul_eq_zero]; omega
  omega
theorem log_above (X E t : Nat) (ht : t < 2 ^ E) (hX : X ≠ 0) : (X * 2 ^ E + t).log2 = X.log2 + E := by
  have a := Nat.log2_self_le hX
  have b : X < 2 ^ (X.log2 + 1) := Nat.lt_log2_self
  have c : X * 2 ^ E + 2 ^ E ≤ 2 ^ (X.log2 + 1 + E) := by
    rw [Nat.pow_add _ _ E, ← Nat.succ_mul]; exact Nat.mul_le_mul_right _ b
  have d : 2 ^ (X.log2 + E) ≤ X * 2 ^ E := by rw [Nat.pow_add]; exact Nat.mul_le_mul_right _ a
  have g := p2 (X.log2 + E)
  rw [Nat.log2_eq_iff (by omega)]
  exact ⟨by omega, by rw [show X.log2 + E + 1 = X.log2 + 1 + E by omega]; omega⟩
/-- Two of one upper part, and of what is there below or not, are rounded alike. -/
theorem sticky (f mode : Int) (neg : Bool) (X E s t : Nat) (hX : X ≠ 0) (hs : s < 2 ^ E) (ht : t < 2 ^ E) (hst : s ≠ 0 ↔ t ≠ 0) (hE : E + 2 ≤ luN f + dN f (X * 2 ^ E + t)) :
    PackE f mode neg (X * 2 ^ E + s) = PackE f mode neg (X * 2 ^ E + t) := by
  have l1 := log_above X E s hs hX
  have l2 := log_above X E t ht hX
  have hd : dN f (X * 2 ^ E + s) = dN f (X * 2 ^ E + t) := by unfold dN; rw [l1, l2]
  obtain ⟨k, hk⟩ : ∃ k, luN f + dN f (X * 2 ^ E + t) = E + k + 2 := ⟨luN f + dN f (X * 2 ^ E + t) - E - 2, by omega⟩
  obtain ⟨a1, a2⟩ := below_unit X E s k hs
  obtain ⟨b1, b2⟩ := below_unit X E t k ht
  obtain ⟨q1, q2⟩ := quarters (X * 2 ^ E + s) (E + k)
  obtain ⟨r1, r2⟩ := quarters (X * 2 ^ E + t) (E + k)
  have hk1 : keptN f (X * 2 ^ E + s) = keptN f (X * 2 ^ E + t) := by unfold keptN; rw [hd, hk, q1, r1, a1, b1]
  have hc : catN f (X * 2 ^ E + s) = catN f (X * 2 ^ E + t) := by
    unfold catN
    rw [hd, hk, ← q2, ← r2, a1, b1]
    have : (X * 2 ^ E + s) % 2 ^ (E + k) ≠ 0 ↔ (X * 2 ^ E + t) % 2 ^ (E + k) ≠ 0 := by rw [a2, b2, hst]
    by_cases h : (X * 2 ^ E + s) % 2 ^ (E + k) ≠ 0 ∧ X / 2 ^ k % 2 = 0
    · rw [if_pos h, if_pos ⟨this.1 h.1, h.2⟩]
    · rw [if_neg h, if_neg (fun g => h ⟨this.2 g.1, g.2⟩)]
  have hp : ∀ m n, plcN f m n (X * 2 ^ E + s) = plcN f m n (X * 2 ^ E + t) := fun m n => by unfold plcN; rw [hd, hk1, hc]
  have hV : X * 2 ^ E ≠ 0 := Nat.ne_of_gt (Nat.mul_pos (by omega) (p2 E))
  have hl : (X * 2 ^ E + s < 2 ^ (fn f + luN f)) ↔ (X * 2 ^ E + t < 2 ^ (fn f + luN f)) := by
    rw [low_iff f _ (by omega), low_iff f _ (by omega), l1, l2]
  have e1 : rdV f mode neg (X * 2 ^ E + s) = rdV f mode neg (X * 2 ^ E + t) := by unfold rdV magN; rw [hp]
  have e2 : rdO f mode neg (X * 2 ^ E + s) = rdO f mode neg (X * 2 ^ E + t) := by unfold rdO; rw [hp]
  have e3 : rdU f (X * 2 ^ E + s) = rdU f (X * 2 ^ E + t) := by unfold rdU; rw [hc]; congr 1; rw [Bool.eq_iff_iff, decide_eq_true_eq, decide_eq_true_eq]; exact hl
  have e4 : rdX f mode neg (X * 2 ^ E + s) = rdX f mode neg (X * 2 ^ E + t) := by unfold rdX; rw [e2, hc]
  rw [← packE_is, ← packE_is, e1, e2, e3, e4]
/-- The uppermost bits, 26 or more of them, and whether there are more, are rounded as the whole number is. -/
theorem sticky_top (f mode : Int) (neg : Bool) (V E : Nat) (more : Bool) (hE : 1 ≤ E) (hV : 2 ^ (E + 25) ≤ V) (hm : more = true ↔ V % 2 ^ E ≠ 0) :
    PackE f mode neg (V / 2 ^ E * 2 ^ E + more.toNat) = PackE f mode neg V := by
  have hp := p2 E
  have hdm := Nat.div_add_mod V (2 ^ E)
  have hlt := Nat.mod_lt V hp
  have h2 : 2 ≤ 2 ^ E := Nat.pow_le_pow_right (n := 2) (by decide) hE
  have hb : more.toNat ≤ 1 := Bool.toNat_le _
  have hX : V / 2 ^ E ≠ 0 := by
    have : 2 ^ E ≤ V := Nat.le_trans (Nat.pow_le_pow_right (by decide) (by omega)) hV
    exact Nat.ne_of_gt (Nat.div_pos this hp)
  have hV0 : V ≠ 0 := by have := p2 (E + 25); omega
  have hlog : E + 25 ≤ V.log2 := (Nat.le_log2 hV0).2 hV
  have hf := fn_bd f
  have e : V / 2 ^ E * 2 ^ E + V % 2 ^ E = V := by rw [Nat.mul_comm]; exact hdm
  have hd : E + 2 ≤ luN f + dN f (V / 2 ^ E * 2 ^ E + V % 2 ^ E) := by rw [e]; unfold dN; omega
  have := sticky f mode neg (V / 2 ^ E) E more.toNat (V % 2 ^ E) hX (by omega) hlt (by rw [← hm]; cases more <;> simp) hd
  rw [this, e]
end Go.Proofs.Ytdaikgeellpolaa
