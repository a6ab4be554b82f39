/- Small whole numbers: products, roots of squares, quotients of products (no program here). -/
import Derived.Test.YtianheeefhemhaaQuoLaw
import Derived.Test.YtianheeefhemhaaPErr2
namespace Go.Proofs.Ytianheeefhemhaa
open Go.RowKit
set_option linter.unusedVariables false
set_option linter.unusedSimpArgs false

/-- z is the whole number w with the sign s: M units of 2 to e. -/
structure IsInt (f : Int) (s : Bool) (w : Nat) (z : Int) (M : Nat) (e : Int) : Prop where
  lo : 0 ≤ z
  hi : z ≤ msk f
  top : z ≤ 4294967295
  fin : finI f z = true
  sgn : fS f z = s
  nan : nanB f z = false
  inf : infB f z = false
  man : unM f z = M
  ex : unE f z = e
  pos : 0 < M
  e0 : -24 ≤ e
  e1 : e ≤ 8
  amt : M * 2 ^ (e + 24).toNat = w * 16777216

theorem int_exists (f : Int) (s : Bool) (w : Nat) (h0 : 0 < w) (h1 : w < 256) : ∃ (z : Int) (M : Nat) (e : Int), IsInt f s w z M e := by
  have hfn := fn_bd f
  have h8 : 2 ^ 8 ≤ 2 ^ (fn f + 1) := Nat.pow_le_pow_right (by decide) (by omega)
  have hl : lst f + fn f ≤ 0 ∧ 0 ≤ lst f + topx f - 2 := by
    rcases fmt_cases f with ⟨rfl, hf⟩ | ⟨rfl, hf⟩ | ⟨⟨c0, c1⟩, hf⟩ <;> obtain ⟨e1, e2, e3, e4, e5, e6, e7, e8, e9⟩ := hf <;> rw [e2, e4, e6] <;> decide
  obtain ⟨z, z0, z1, z2, z3, z4, z5, z6, z7⟩ := num_exists f s w 0 h0 (by omega) hl.1 hl.2
  obtain ⟨m0, m1⟩ := unM_bd f z
  obtain ⟨e0, e1⟩ := unE_bd f z
  obtain ⟨M, hM⟩ := Int.eq_ofNat_of_zero_le m0
  unfold amtE at z7
  rw [hM, Int.toNat_natCast, show ((0 : Int) + 298).toNat = 24 + 274 from rfl] at z7
  obtain ⟨T, hT⟩ : ∃ T, T = 274 := ⟨_, rfl⟩
  rw [← hT] at z7
  have hTp := np2 T
  have hM0 : 0 < M := by
    rcases Nat.eq_zero_or_pos M with g | g
    · rw [g, Nat.zero_mul] at z7
      have := Nat.mul_pos h0 (np2 (24 + T))
      omega
    · exact g
  have hlo : -24 ≤ unE f z := by
    refine Int.not_lt.1 fun g => ?_
    have a : 2 ^ (unE f z + 298).toNat * 2 ≤ 2 ^ T := by
      rw [← Nat.pow_succ]; exact Nat.pow_le_pow_right (by decide) (by omega)
    have b : M * 2 ^ (unE f z + 298).toNat ≤ 16777216 * 2 ^ (unE f z + 298).toNat := Nat.mul_le_mul_right _ (by omega)
    have c : 1 * 2 ^ (24 + T) ≤ w * 2 ^ (24 + T) := Nat.mul_le_mul_right _ h0
    rw [Nat.pow_add] at c z7
    omega
  have hsp : 2 ^ (unE f z + 298).toNat = 2 ^ (unE f z + 24).toNat * 2 ^ T := by
    rw [← Nat.pow_add, show (unE f z + 24).toNat + T = (unE f z + 298).toNat by omega]
  rw [hsp, Nat.pow_add, ← Nat.mul_assoc, ← Nat.mul_assoc] at z7
  have key : M * 2 ^ (unE f z + 24).toNat = w * 16777216 := Nat.eq_of_mul_eq_mul_right hTp z7
  have hhi : unE f z ≤ 8 := by
    refine Int.not_lt.1 fun g => ?_
    have a : 2 ^ 33 ≤ 2 ^ (unE f z + 24).toNat := Nat.pow_le_pow_right (by decide) (by omega)
    have b : 1 * 2 ^ (unE f z + 24).toNat ≤ M * 2 ^ (unE f z + 24).toNat := Nat.mul_le_mul_right _ hM0
    omega
  exact ⟨z, M, unE f z, z0, z1, z2, z3, z4, z5, z6, hM, rfl, hM0, hlo, hhi, key⟩

theorem int_pack (f mode : Int) (s : Bool) (w : Nat) (z e : Int) (M : Nat) (h : IsInt f s w z M e) (E : Nat) (hE : E = 10100) : PackE f mode s (w * 2 ^ E) = excE z false := by
  have hp := num_pack f mode z h.lo h.hi h.fin
  have e0 := h.e0
  rw [h.sgn] at hp
  have hn : numN f z = w * 2 ^ E := by
    unfold numN
    rw [h.man, h.ex, Int.toNat_natCast]
    refine Nat.eq_of_mul_eq_mul_right (np2 24) ?_
    have g : (2 : Nat) ^ (e + 10100).toNat * 2 ^ 24 = 2 ^ (e + 24).toNat * 2 ^ E := by
      rw [← Nat.pow_add, ← Nat.pow_add, show (e + 10100).toNat + 24 = (e + 24).toNat + E by omega]
    rw [Nat.mul_assoc, g, ← Nat.mul_assoc, h.amt]
    generalize 2 ^ E = C
    rw [show (2 : Nat) ^ 24 = 16777216 from rfl]; grind
  rw [← hn, hp]; rfl

theorem int_nou (f : Int) (s : Bool) (w : Nat) (z e : Int) (M : Nat) (h : IsInt f s w z M e) : nouB f z = false := by
  have n := nou_is f z h.fin
  rw [amt_zero _ _ (unM_bd f z).1, h.man] at n
  have := h.pos
  exact (Bool.not_eq_true _).mp (fun g => by have := n.1 g; omega)

/-- The product of two. -/
theorem int_mul (f mode : Int) (s t : Bool) (v w : Nat) (x y z e d c : Int) (M K P : Nat) (hx : IsInt f s v x M e) (hy : IsInt f t w y K d) (hz : IsInt f (s != t) (v * w) z P c) : mulE f mode x y = excE z false := by
  have hs : sgP f x y = (s != t) := by unfold sgP; rw [hx.sgn, hy.sgn]
  have e0 := hx.e0
  have d0 := hy.e0
  rw [mul_fin f mode x y hx.nan hy.nan hx.inf hy.inf, hs]
  obtain ⟨E, hE⟩ : ∃ E : Nat, E = 10100 := ⟨_, rfl⟩
  have ha : upN (amtP f x y) = v * w * 2 ^ E := by
    have q : ∀ T : Nat, T + 298 = E → M * K * 2 ^ (e + d + 298).toNat * 2 ^ T = v * w * 2 ^ E := by
      intro T hT
      refine Nat.eq_of_mul_eq_mul_right (np2 48) ?_
      have g : (2 : Nat) ^ (e + d + 298).toNat * 2 ^ T * 2 ^ 48 = 2 ^ (e + 24).toNat * 2 ^ (d + 24).toNat * 2 ^ E := by
        rw [← Nat.pow_add, ← Nat.pow_add, ← Nat.pow_add, ← Nat.pow_add, show (e + d + 298).toNat + T + 48 = (e + 24).toNat + (d + 24).toNat + E by omega]
      have a1 := hx.amt
      have a2 := hy.amt
      generalize 2 ^ (e + d + 298).toNat = A at *
      generalize 2 ^ (e + 24).toNat = B at *
      generalize 2 ^ (d + 24).toNat = C at *
      generalize 2 ^ T = D at *
      generalize 2 ^ E = F at *
      rw [show (2 : Nat) ^ 48 = 16777216 * 16777216 from rfl] at *
      have g1 : M * K * A * D * (16777216 * 16777216) = M * K * (A * D * (16777216 * 16777216)) := by grind
      rw [g1, g]
      have g2 : M * K * (B * C * F) = (M * B) * (K * C) * F := by grind
      rw [g2, a1, a2]; grind
    unfold upN amtP amtE
    rw [hx.man, hy.man, hx.ex, hy.ex, ← Int.natCast_mul, Int.toNat_natCast]
    exact q 9802 (by omega)
  rw [ha]
  exact int_pack f mode _ _ z c P hz E hE

/-- The quotient of a product. -/
theorem int_div (f mode : Int) (s t : Bool) (v w : Nat) (x y z e d c : Int) (M K P : Nat) (hx : IsInt f s v x M e) (hy : IsInt f t w y K d) (hz : IsInt f (s != t) (v * w) z P c) : divE f mode z y = excE x false := by
  have hs : sgP f z y = s := by unfold sgP; rw [hz.sgn, hy.sgn]; cases s <;> cases t <;> rfl
  have nz := int_nou f _ _ z _ _ hz
  have ny := int_nou f _ _ y _ _ hy
  have c0 := hz.e0
  have c1 := hz.e1
  have d0 := hy.e0
  have d1 := hy.e1
  have a1 := hz.amt
  have a2 := hy.amt
  unfold divE
  rw [hz.nan, hy.nan, hz.inf, hy.inf, nz, ny, hs, hz.man, hy.man, hz.ex, hy.ex, Int.toNat_natCast, Int.toNat_natCast]
  simp only [Bool.or_false, Bool.and_false, Bool.false_eq_true, if_false]
  obtain ⟨j, hj⟩ : ∃ j : Nat, 100 + d - c = j := ⟨(100 + d - c).toNat, by omega⟩
  have key : P * 2 ^ 100 = v * 2 ^ j * K := by
    refine Nat.eq_of_mul_eq_mul_right (np2 (c + 24).toNat) ?_
    have g : (2 : Nat) ^ j * 2 ^ (c + 24).toNat = 2 ^ 100 * 2 ^ (d + 24).toNat := by
      rw [← Nat.pow_add, ← Nat.pow_add, show j + (c + 24).toNat = 100 + (d + 24).toNat by omega]
    generalize 2 ^ (c + 24).toNat = A at *
    generalize 2 ^ (d + 24).toNat = B at *
    generalize (2 : Nat) ^ 100 = D at *
    generalize 2 ^ j = J at *
    have g1 : P * D * A = (P * A) * D := by grind
    have g2 : v * J * K * A = v * K * (J * A) := by grind
    rw [g1, a1, g2, g]
    have g3 : v * K * (D * B) = v * (K * B) * D := by grind
    rw [g3, a2]; grind
  rw [quo_whole f mode s _ P K _ hy.pos key]
  obtain ⟨E, hE⟩ : ∃ E : Nat, E = 10100 := ⟨_, rfl⟩
  rw [Nat.mul_assoc, ← Nat.pow_add, show j + (c - d - 100 + 10100).toNat = E by omega]
  exact int_pack f mode s v x e M hx E hE

/-- The root of a square. -/
theorem int_root (f mode : Int) (w : Nat) (x z e c : Int) (M P : Nat) (hx : IsInt f false w x M e) (hz : IsInt f false (w * w) z P c) : sqrE f mode z = excE x false := by
  have nz := int_nou f _ _ z _ _ hz
  have c0 := hz.e0
  have c1 := hz.e1
  have a1 := hz.amt
  unfold sqrE
  rw [hz.nan, nz, hz.sgn, hz.inf, hz.man, hz.ex, Int.toNat_natCast]
  simp only [Bool.false_eq_true, if_false]
  obtain ⟨par, hpar, hM', hX'⟩ : ∃ par : Nat, par ≤ 1 ∧ evM c P = P * 2 ^ par ∧ c = 2 * evX c + par := by
    unfold evM evX
    by_cases g : c % 2 = 0
    · exact ⟨0, by omega, by rw [if_pos g]; simp, by rw [if_pos g]; omega⟩
    · exact ⟨1, by omega, by rw [if_neg g]; omega, by rw [if_neg g]; omega⟩
  obtain ⟨j, hj⟩ : ∃ j : Nat, 60 - evX c = j := ⟨(60 - evX c).toNat, by omega⟩
  have key : w * 2 ^ j * (w * 2 ^ j) = evM c P * 4 ^ 60 := by
    rw [hM', show (4 : Nat) ^ 60 = 2 ^ 120 from by decide]
    refine Nat.eq_of_mul_eq_mul_right (np2 (c + 24).toNat) ?_
    have g : (2 : Nat) ^ j * 2 ^ j * 2 ^ (c + 24).toNat = 2 ^ par * 2 ^ 120 * 2 ^ 24 := by
      rw [← Nat.pow_add, ← Nat.pow_add, ← Nat.pow_add, ← Nat.pow_add, show j + j + (c + 24).toNat = par + 120 + 24 by omega]
    rw [show (2 : Nat) ^ 24 = 16777216 from rfl] at g
    generalize 2 ^ (c + 24).toNat = A at *
    generalize (2 : Nat) ^ 120 = D at *
    generalize 2 ^ j = J at *
    generalize 2 ^ par = B at *
    have g1 : w * J * (w * J) * A = w * w * (J * J * A) := by grind
    have g2 : P * B * D * A = (P * A) * (B * D) := by grind
    rw [g1, g, g2, a1]; grind
  have hr : rooN (evM c P) 60 = w * 2 ^ j := by
    unfold rooN
    rw [← key]
    exact (isq_unique _ _ (Nat.le_refl _) (by
      have : w * 2 ^ j * (w * 2 ^ j) + 2 * (w * 2 ^ j) + 1 = (w * 2 ^ j + 1) * (w * 2 ^ j + 1) := by grind
      omega)).symm
  have hb : rooB (evM c P) 60 = false := by
    unfold rooB
    rw [hr, key]; exact decide_eq_false (fun g => g rfl)
  obtain ⟨E, hE⟩ : ∃ E : Nat, E = 10100 := ⟨_, rfl⟩
  unfold rooE
  rw [hr, hb, toNat_val (evX c - 60) _ false (w * 2 ^ j) (evX c - 60 + 10100).toNat (by rw [clamp_in _ (by omega) (by omega)]; omega) rfl, Bool.toNat_false, Nat.add_zero, Nat.mul_assoc, ← Nat.pow_add]
  rw [show j + (evX c - 60 + 10100).toNat = E by omega]
  exact int_pack f mode false w x e M hx E hE
end Go.Proofs.Ytianheeefhemhaa
