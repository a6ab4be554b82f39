/- Whole units of a Single are packed back (no program here). -/
import Derived.Test.YtfdfbgmnfiiipaaChaMath
namespace Go.Proofs.Ytfdfbgmnfiiipaa
open Go.RowKit
set_option linter.unusedVariables false
set_option linter.unusedSimpArgs false

/-- So many whole units have just their place. -/
theorem place_low (f m : Int) (s : Bool) (d K : Nat) (hK : K < 2 ^ (fn f + 1)) (hd : d ≠ 0 → 2 ^ fn f ≤ K) : plcN f m s (K * 2 ^ (luN f + d)) = d * 2 ^ fn f + K := by
  have hl := lu_is f
  have hb := lst_bd f
  by_cases z : K = 0
  · subst z
    have d0 : d = 0 := by
      by_cases e : d = 0
      · exact e
      · have := hd e; have := p2 (fn f); omega
    subst d0
    rw [Nat.zero_mul, plc_zero]; simp
  · have hlog := val_log K (luN f + d) 0 (by omega) (by omega) z
    rw [Nat.add_zero] at hlog
    have h1 := (Nat.log2_lt z).2 hK
    have hD : dN f (K * 2 ^ (luN f + d)) = d := by
      unfold dN; rw [hlog]
      by_cases c : d = 0
      · subst c; omega
      · have h2 := (Nat.le_log2 z).2 (hd c); omega
    have hk : keptN f (K * 2 ^ (luN f + d)) = K := by unfold keptN; rw [hD]; exact Nat.mul_div_cancel _ (p2 _)
    have hc : catN f (K * 2 ^ (luN f + d)) = 0 := by unfold catN catU; rw [hD, Nat.mul_mod_left, if_pos rfl]
    unfold plcN
    rw [hc, grow_zero, hD, hk]; simp

theorem place_up (f m : Int) (s : Bool) (d K : Nat) (hK : K ≤ 2 ^ (fn f + 1)) (hd : d ≠ 0 → 2 ^ fn f ≤ K) : plcN f m s (K * 2 ^ (luN f + d)) = d * 2 ^ fn f + K := by
  by_cases c : K < 2 ^ (fn f + 1)
  · exact place_low f m s d K c hd
  · have e : K = 2 ^ fn f * 2 := by rw [Nat.pow_succ] at hK c; omega
    have h := place_low f m s (d + 1) (2 ^ fn f) (by rw [Nat.pow_succ]; have := p2 (fn f); omega) (fun _ => Nat.le_refl _)
    have hx : K * 2 ^ (luN f + d) = 2 ^ fn f * 2 ^ (luN f + (d + 1)) := by
      rw [e, ← Nat.add_assoc, Nat.pow_succ, Nat.mul_assoc, Nat.mul_comm 2]
    rw [hx, h, e, Nat.add_mul]; omega

/-- What Pack makes of the lower neighbour's units, or of one more. -/
theorem cha_pack (f w : Int) (s : Bool) (V : Nat) : rdV f 0 s ((keptN f V + (decide (w < parN f V)).toNat) * 2 ^ (luN f + dN f V)) = zerI f s + chM f V w := by
  have hb : (decide (w < (parN f V : Int))).toNat ≤ 1 := Bool.toNat_le _
  obtain ⟨k1, k2⟩ := kept_bd f V
  have h := place_up f 0 s (dN f V) (keptN f V + (decide (w < (parN f V : Int))).toNat) (by omega) (fun h => by have := k2 h; omega)
  unfold rdV magN chM
  rw [h]
  have e : dN f V * 2 ^ fn f + (keptN f V + (decide (w < (parN f V : Int))).toNat) = baseN f V + (decide (w < (parN f V : Int))).toNat := by unfold baseN; omega
  rw [e]
  have hi : inB 0 s = false := by cases s <;> rfl
  rw [hi]
  simp

/-- Where a Single's unit in a format is. -/
theorem cha_unit (f a : Int) (hf : finI 2 a = true) : ∃ k : Nat, k ≤ 404 ∧ ((luN f + dN f (numN 2 a) : Nat) : Int) = unE 2 a + 10100 + k
    ∧ (if unE 2 a + lenI (unM 2 a) - 1 - fn f < lst f then lst f else unE 2 a + lenI (unM 2 a) - 1 - fn f) = unE 2 a + k := by
  obtain ⟨m0, m1⟩ := unM_bd 2 a
  obtain ⟨e0, e1⟩ := unE_bd 2 a
  have hl := lst_bd f
  have hlu := lu_is f
  have hfn : fn f ≤ 23 := by have := fn_bd f; omega
  have h23 : unE 2 a = -149 ∨ 8388608 ≤ unM 2 a := by
    rcases three_ways 2 a with ⟨_, b, _⟩ | ⟨_, _, b, _⟩ | ⟨_, _, _, _, b⟩
    · rw [hf] at b; exact absurd b (by decide)
    · left; rw [b]; decide
    · right; rw [b]; have := fF_bd 2 a; rw [show hid 2 = 8388608 from rfl]; omega
  obtain ⟨M, hM⟩ : ∃ M : Nat, unM 2 a = M := ⟨(unM 2 a).toNat, by omega⟩
  obtain ⟨E, hE⟩ : ∃ E : Nat, (unE 2 a + 10100).toNat = E := ⟨_, rfl⟩
  have hV : numN 2 a = M * 2 ^ E := by unfold numN; rw [hM, hE]; rfl
  have hL0 := len_nonneg (unM 2 a)
  have hkey : ((luN f + dN f (numN 2 a) : Nat) : Int) = (if unE 2 a + lenI (unM 2 a) - 1 - fn f < lst f then lst f else unE 2 a + lenI (unM 2 a) - 1 - fn f) + 10100 ∧ (8388608 ≤ unM 2 a → 24 ≤ lenI (unM 2 a)) ∧ lenI (unM 2 a) ≤ 24 := by
    by_cases z : M = 0
    · subst z
      have hl0 : lenI (unM 2 a) = 0 := by rw [hM]; decide
      rw [hV, Nat.zero_mul, d_zero, hl0]
      refine ⟨?_, fun h => by omega, by omega⟩
      rw [if_pos (by omega)]; omega
    · have hlog := val_log M E 0 (by omega) (by omega) z
      rw [Nat.add_zero] at hlog
      have hL := len_log (M : Int) (by omega)
      rw [Int.toNat_natCast, ← hM] at hL
      have hm1 : M < 2 ^ 24 := by omega
      have h1 := (Nat.log2_lt z).2 hm1
      have h2 : 8388608 ≤ unM 2 a → 23 ≤ M.log2 := fun h => (Nat.le_log2 z).2 (by omega)
      refine ⟨?_, fun h => by have := h2 h; omega, by omega⟩
      unfold dN
      rw [hV, hlog, hL]
      split <;> omega
  obtain ⟨g1, g2, g3⟩ := hkey
  obtain ⟨U, hU⟩ : ∃ U, (if unE 2 a + lenI (unM 2 a) - 1 - fn f < lst f then lst f else unE 2 a + lenI (unM 2 a) - 1 - fn f) = U := ⟨_, rfl⟩
  rw [hU] at g1 ⊢
  have hU2 : unE 2 a ≤ U ∧ U ≤ unE 2 a + 404 := by
    rw [← hU]
    split
    · omega
    · rcases h23 with h | h
      · omega
      · have := g2 h; omega
  exact ⟨(U - unE 2 a).toNat, by omega, by omega, by omega⟩
end Go.Proofs.Ytfdfbgmnfiiipaa
