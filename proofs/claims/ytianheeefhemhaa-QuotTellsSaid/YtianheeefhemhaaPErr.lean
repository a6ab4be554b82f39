/- A product's own error (no program here). -/
import Derived.Test.YtianheeefhemhaaPLaw
namespace Go.Proofs.Ytianheeefhemhaa
open Go.RowKit
set_option linter.unusedVariables false
set_option linter.unusedSimpArgs false

/-- Where a number of K units of 2 to t is put: fn + d + 1 bits. -/
theorem plc_units (f mode : Int) (s : Bool) (K d t : Nat) (h0 : 2 ^ (fn f + d) ≤ K) (h1 : K < 2 ^ (fn f + d + 1)) (ht : luN f ≤ d + t) :
    dN f (K * 2 ^ t) = d + t - luN f ∧ keptN f (K * 2 ^ t) = K / 2 ^ d ∧ catN f (K * 2 ^ t) = catU (d + t) (K * 2 ^ t) := by
  have hK : K ≠ 0 := by have := np2 (fn f + d); omega
  have hl : K.log2 = fn f + d := (Nat.log2_eq_iff hK).2 ⟨h0, h1⟩
  have hV : K * 2 ^ t ≠ 0 := Nat.ne_of_gt (Nat.mul_pos (by omega) (np2 t))
  have hlV : (K * 2 ^ t).log2 = fn f + d + t := by
    rw [Nat.log2_eq_iff hV]
    refine ⟨by rw [Nat.pow_add 2 (fn f + d)]; exact Nat.mul_le_mul_right _ h0, ?_⟩
    rw [show fn f + d + t + 1 = (fn f + d + 1) + t by omega, Nat.pow_add 2 (fn f + d + 1)]
    exact Nat.mul_lt_mul_of_pos_right h1 (np2 t)
  have hd : dN f (K * 2 ^ t) = d + t - luN f := by unfold dN; rw [hlV]; omega
  refine ⟨hd, ?_, ?_⟩
  · unfold keptN
    rw [hd, show luN f + (d + t - luN f) = t + d by omega, Nat.pow_add, ← Nat.div_div_eq_div_mul, Nat.mul_div_cancel _ (np2 t)]
  · unfold catN
    rw [hd, show luN f + (d + t - luN f) = d + t by omega]

theorem cat_units (K d t : Nat) : catU (d + t) (K * 2 ^ t) = catU d K := by
  have hp := np2 t
  have e : K * 2 ^ t % 2 ^ (d + t) = K % 2 ^ d * 2 ^ t := by rw [Nat.pow_add, Nat.mul_mod_mul_right]
  have q : ∀ x : Nat, x * 2 ^ t = 0 ↔ x = 0 := fun x => by rw [Nat.mul_eq_zero]; omega
  unfold catU
  rw [e, Nat.pow_add, ← Nat.mul_assoc]
  have l : ∀ x y : Nat, x * 2 ^ t < y * 2 ^ t ↔ x < y := fun x y => Nat.mul_lt_mul_right hp
  have m : ∀ x y : Nat, x * 2 ^ t = y * 2 ^ t ↔ x = y := fun x y => Nat.mul_right_cancel_iff hp
  simp only [q, l, m]

/-- Where q units, of as many bits as a number has or one unit more, are put. -/
theorem plc_whole (f mode : Int) (s : Bool) (q u : Nat) (h0 : 2 ^ fn f ≤ q) (h1 : q ≤ 2 ^ (fn f + 1)) (hu : luN f ≤ u) :
    plcN f mode s (q * 2 ^ u) = (u - luN f) * 2 ^ fn f + q ∧ catN f (q * 2 ^ u) = 0 := by
  rcases Nat.lt_or_ge q (2 ^ (fn f + 1)) with c | c
  · obtain ⟨a, b, e⟩ := plc_units f mode s q 0 u (by simpa using h0) (by simpa using c) (by omega)
    have e2 : catN f (q * 2 ^ u) = 0 := by rw [e, cat_units]; unfold catU; simp [Nat.mod_one]
    refine ⟨?_, e2⟩
    unfold plcN
    rw [a, b, e2, grow_zero]; simp
  · have hq : q = 2 ^ (fn f + 1) := by omega
    subst hq
    have hp := np2 (fn f)
    have e0 : 2 ^ (fn f + 1) = 2 * 2 ^ fn f := by rw [Nat.pow_succ]; omega
    have g : 2 ^ (fn f + 1) * 2 ^ u = 2 ^ fn f * 2 ^ (u + 1) := by rw [← Nat.pow_add, ← Nat.pow_add]; congr 1; omega
    obtain ⟨a, b, e⟩ := plc_units f mode s (2 ^ fn f) 0 (u + 1) (by simp) (by simpa using by omega) (by omega)
    rw [g]
    have e2 : catN f (2 ^ fn f * 2 ^ (u + 1)) = 0 := by rw [e, cat_units]; unfold catU; simp [Nat.mod_one]
    refine ⟨?_, e2⟩
    unfold plcN
    rw [a, b, e2, grow_zero, Nat.pow_zero, Nat.div_one, Nat.zero_add, e0]
    obtain ⟨j, hj⟩ : ∃ j, u - luN f = j := ⟨_, rfl⟩
    rw [show u + 1 - luN f = j + 1 by omega, hj, Nat.add_mul]; simp; omega

/-- To what number K units are rounded, to the nearest: q units of d bits more, within half a one of these. -/
theorem near_units (f : Int) (s : Bool) (K d t : Nat) (h0 : 2 ^ (fn f + d) ≤ K) (h1 : K < 2 ^ (fn f + d + 1)) (ht : luN f ≤ d + t) (hd : 1 ≤ d) :
    ∃ q : Nat, 2 ^ fn f ≤ q ∧ q ≤ 2 ^ (fn f + 1) ∧ plcN f 0 s (K * 2 ^ t) = plcN f 0 s (q * 2 ^ (d + t)) ∧ catN f (q * 2 ^ (d + t)) = 0
      ∧ (catN f (K * 2 ^ t) = 0 ↔ q * 2 ^ d = K) ∧ (q * 2 ^ d ≤ K → K - q * 2 ^ d ≤ 2 ^ (d - 1)) ∧ (K ≤ q * 2 ^ d → q * 2 ^ d - K ≤ 2 ^ (d - 1)) := by
  obtain ⟨a, b, e⟩ := plc_units f 0 s K d t h0 h1 ht
  rw [cat_units] at e
  have hdd := np2 d
  have hk := Nat.div_add_mod K (2 ^ d)
  have hr := Nat.mod_lt K hdd
  have hh : 2 ^ d = 2 * 2 ^ (d - 1) := by rw [Nat.mul_comm, ← Nat.pow_succ]; congr 1; omega
  have k0 : 2 ^ fn f ≤ K / 2 ^ d := (Nat.le_div_iff_mul_le hdd).2 (by rw [← Nat.pow_add]; exact h0)
  have k1 : K / 2 ^ d < 2 ^ (fn f + 1) := (Nat.div_lt_iff_lt_mul hdd).2 (by rw [← Nat.pow_add]; rw [show fn f + 1 + d = fn f + d + 1 by omega]; exact h1)
  have hgc := e
  unfold catU at e
  obtain ⟨G, hG⟩ : ∃ G, growB 0 s (keptN f (K * 2 ^ t)) (catN f (K * 2 ^ t)) = G := ⟨_, rfl⟩
  have hg : ∀ c, growB 0 s (keptN f (K * 2 ^ t)) c = (decide (2 < c) || ((c == 2) && (keptN f (K * 2 ^ t) % 2 == 1))) := fun c => by unfold growB; simp
  refine ⟨K / 2 ^ d + G.toNat, by omega, by cases G <;> simp <;> omega, ?_, ?_, ?_, ?_, ?_⟩
  · rw [(plc_whole f 0 s (K / 2 ^ d + G.toNat) (d + t) (by omega) (by cases G <;> simp <;> omega) ht).1]
    unfold plcN
    rw [hG, a, b]; omega
  · exact (plc_whole f 0 s (K / 2 ^ d + G.toNat) (d + t) (by omega) (by cases G <;> simp <;> omega) ht).2
  all_goals
    generalize hc : catN f (K * 2 ^ t) = c at *
    rw [hg] at hG
    rw [Nat.add_mul, Nat.mul_comm (K / 2 ^ d)]
    generalize 2 ^ d * (K / 2 ^ d) = A at *
    generalize K % 2 ^ d = r at *
    generalize 2 ^ d = D at *
    generalize 2 ^ (d - 1) = H at *
    clear hgc hg hc
  · cases G <;> simp at hG ⊢ <;> (split at e <;> (try split at e) <;> (try split at e) <;> subst e <;> simp at hG ⊢ <;> omega)
  · cases G <;> simp at hG ⊢ <;> (split at e <;> (try split at e) <;> (try split at e) <;> subst e <;> simp at hG ⊢ <;> omega)
  · cases G <;> simp at hG ⊢ <;> (split at e <;> (try split at e) <;> (try split at e) <;> subst e <;> simp at hG ⊢ <;> omega)
end Go.Proofs.Ytianheeefhemhaa
