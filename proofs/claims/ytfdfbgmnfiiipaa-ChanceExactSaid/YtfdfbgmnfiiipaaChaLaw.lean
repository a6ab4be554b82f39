/- Laws of rounding by chance (no program here). -/
import Derived.Test.YtfdfbgmnfiiipaaChaMath
namespace Go.Proofs.Ytfdfbgmnfiiipaa
open Go.RowKit
set_option linter.unusedVariables false
set_option linter.unusedSimpArgs false

/-- A number of the format stays it. -/
theorem cha_back (f x w : Int) (h0 : 0 ≤ x) (h1 : x ≤ msk f) (w0 : 0 ≤ w) : chaI f (conV f 2 0 x) w = if nanB f x = true then nanI f else x := by
  rw [← wide_back f 0 0 x h0 h1]
  by_cases hf : finI f x = true
  · obtain ⟨z, hz, z0, z1, z2, z3, z4⟩ := wide_is f 0 x h0 h1 hf
    rw [hz]
    exact cha_exact f z w (con_exact 2 f 1 z x z2 h0 h1 hf z3.symm z4.symm).2.2.2 w0
  · have hw : finI 2 (conV f 2 0 x) = false := by
      obtain ⟨n, k⟩ := wide_kinds f 0 x h0 h1
      rcases three_kinds f x with ⟨a, b, c⟩ | ⟨a, b, c, _⟩ | ⟨a, b, c, _⟩
      · rw [a] at n
        rcases three_kinds 2 (conV f 2 0 x) with ⟨_, _, g⟩ | ⟨g, _⟩ | ⟨g, _⟩
        · exact g
        · rw [n] at g; exact absurd g (by decide)
        · rw [n] at g; exact absurd g (by decide)
      · have i := (k a).2
        rw [b] at i
        rcases three_kinds 2 (conV f 2 0 x) with ⟨_, g, _⟩ | ⟨_, _, g, _⟩ | ⟨_, g, _⟩
        · rw [i] at g; exact absurd g (by decide)
        · exact g
        · rw [i] at g; exact absurd g (by decide)
      · exact absurd c hf
    unfold chaI
    rw [if_pos hw]

/-- What Down, Up make of a number that isn't the format's: its two neighbours. -/
theorem cha_two (f x : Int) (hf : finI 2 x = true) (hi : conX 2 f 3 x = true) (v w : Int) (h : v ≤ w) :
    (chaI f x v = conV 2 f 3 x ∨ chaI f x v = conV 2 f 2 x) ∧ (chaI f x w = conV 2 f 3 x ∨ chaI f x w = conV 2 f 2 x) ∧ chaI f x w % sgb f ≤ chaI f x v % sgb f := by
  obtain ⟨v3, x3⟩ := con_of_fin 2 f 3 x hf
  obtain ⟨v2, x2⟩ := con_of_fin 2 f 2 x hf
  rw [hi] at x3
  have hx : inexB f (numN 2 x) = true := x3.symm
  have hor : greN f < baseN f (numN 2 x) ∨ catN f (numN 2 x) ≠ 0 := by
    have := hx
    unfold inexB at this
    rw [Bool.or_eq_true, decide_eq_true_eq, bne_iff_ne] at this
    exact this
  have hz : zeroN f (numN 2 x) ≤ greN f := by unfold zeroN; split <;> omega
  have hch : ∀ u, chM f (numN 2 x) u = zeroN f (numN 2 x) ∨ chM f (numN 2 x) u = zeroN f (numN 2 x) + 1 := by
    intro u
    have hb : (decide (u < (parN f (numN 2 x) : Int))).toNat ≤ 1 := Bool.toNat_le _
    unfold chM zeroN
    (repeat' split) <;> omega
  have hmono : chM f (numN 2 x) w ≤ chM f (numN 2 x) v := by
    have hb : (decide (w < (parN f (numN 2 x) : Int))).toNat ≤ (decide (v < (parN f (numN 2 x) : Int))).toNat := by
      by_cases c : w < (parN f (numN 2 x) : Int)
      · rw [decide_eq_true c, decide_eq_true (by omega : v < (parN f (numN 2 x) : Int))]; exact Nat.le_refl _
      · rw [decide_eq_false c]; simp
    unfold chM
    (repeat' split) <;> omega
  have hc : ∀ u, chaI f x u = zerI f (fS 2 x) + chM f (numN 2 x) u := by
    intro u; unfold chaI; rw [if_neg (by rw [hf]; decide)]
  have hm : ∀ u, chaI f x u % sgb f = chM f (numN 2 x) u := by
    intro u
    rw [hc, low_parts]
    by_cases c : chM f (numN 2 x) u ≤ greN f
    · exact (mag_parts f (fS 2 x) _ c).2.2.1
    · have e : chM f (numN 2 x) u = greN f + 1 := by have := hch u; omega
      rw [e, mag_inf]
      have := a_inf f (fS 2 x)
      unfold aN at this
      have hg := gre_is f
      omega
  rw [hm, hm]
  unfold rdV at v3 v2
  obtain ⟨s, hs⟩ : ∃ s, fS 2 x = s := ⟨_, rfl⟩
  rw [hs] at v3 v2 hc
  have two : (conV 2 f 3 x = zerI f s + zeroN f (numN 2 x) ∧ conV 2 f 2 x = zerI f s + (zeroN f (numN 2 x) + 1 : Nat)) ∨ (conV 2 f 3 x = zerI f s + (zeroN f (numN 2 x) + 1 : Nat) ∧ conV 2 f 2 x = zerI f s + zeroN f (numN 2 x)) := by
    cases s
    · left
      have e3 := mag_zero f 3 false (numN 2 x) rfl (by simp [growB])
      have e2 := mag_away f 2 false (numN 2 x) rfl (by simp [growB])
      rw [e3] at v3
      rcases e2 with ⟨k, _⟩ | ⟨_, k⟩
      · rw [hx] at k; exact absurd k (by decide)
      · rw [k] at v2; exact ⟨v3, v2⟩
    · right
      have e3 := mag_zero f 2 true (numN 2 x) rfl (by simp [growB])
      have e2 := mag_away f 3 true (numN 2 x) rfl (by simp [growB])
      rw [e3] at v2
      rcases e2 with ⟨k, _⟩ | ⟨_, k⟩
      · rw [hx] at k; exact absurd k (by decide)
      · rw [k] at v3; exact ⟨v3, v2⟩
  have pv := hch v
  have pw := hch w
  rw [hc, hc]
  refine ⟨?_, ?_, by omega⟩
  · rcases two with ⟨a, b⟩ | ⟨a, b⟩ <;> rcases pv with c | c <;> rw [a, b, c] <;> simp
  · rcases two with ⟨a, b⟩ | ⟨a, b⟩ <;> rcases pw with c | c <;> rw [a, b, c] <;> simp

theorem cha_one (f x : Int) (hf : finI 2 x = true) (hi : conX 2 f 3 x = false) (v : Int) (v0 : 0 ≤ v) : chaI f x v = conV 2 f 3 x ∧ conV 2 f 3 x = conV 2 f 2 x := by
  obtain ⟨_, _, s3, s4, s5⟩ := sides_con f x hf
  have x1 := (con_of_fin 2 f 1 x hf).2
  have x3 := (con_of_fin 2 f 3 x hf).2
  have h1 : conX 2 f 1 x = false := by rw [x1, ← x3]; exact hi
  have e := cha_exact f x v h1 v0
  have e2 := s5.resolve_left (by rw [hi]; decide)
  refine ⟨?_, e2⟩
  rw [e]
  rcases s4 with s4 | s4
  · exact s4
  · rw [s4, e2]

/-- A number from 1 to below 2, rounded to a brain float by chance. -/
theorem cha_parts (s : Bool) (m i x : Int) (m0 : 0 ≤ m) (m1 : m < 8388608) (i0 : 0 ≤ i) (hx : x = zerI 2 s + 1065353216 + m) :
    chaI 1 x (i * 65536) = x / 65536 + (if i < x % 65536 then 1 else 0) := by
  have hh : hid 2 = 8388608 := by decide
  have ht : topx 2 = 255 := by decide
  have hl : lst 2 = -149 := by decide
  obtain ⟨p1, p2', p3, p4, p5, p6, p7⟩ := parts_make 2 s 127 m x (by omega) (by omega) m0 (by omega) (by rw [hx, hh]; omega)
  obtain ⟨r1, r2, r3, r4, r5⟩ := norm_parts 2 _ _ _ p1 p2' (by omega) (by omega)
  rw [hl] at r4
  rw [hh] at r5
  obtain ⟨S, hS⟩ : ∃ S : Nat, unM 2 x = S := ⟨(unM 2 x).toNat, by omega⟩
  have hSb : 8388608 ≤ S ∧ S < 16777216 := by omega
  obtain ⟨E, hE⟩ : ∃ E : Nat, E = 10077 := ⟨_, rfl⟩
  have hV : numN 2 x = S * 2 ^ E := by
    unfold numN
    rw [r4, hS, Int.toNat_natCast, show (-149 + 127 - 1 + 10100 : Int).toNat = E by omega]
  have hlog : (numN 2 x).log2 = 23 + E := by
    rw [Nat.log2_eq_iff (by rw [hV]; exact Nat.ne_of_gt (Nat.mul_pos (by omega) (p2 E))), hV]
    constructor
    · rw [Nat.pow_add]; exact Nat.mul_le_mul_right _ (by omega)
    · rw [show 23 + E + 1 = 24 + E by omega, Nat.pow_add]; exact Nat.mul_lt_mul_of_pos_right (by omega) (p2 E)
  have hlu := lu_is 1
  have hl1 : lst 1 = -133 := by decide
  have hf1 : fn 1 = 7 := by decide
  have hd : dN 1 (numN 2 x) = 126 := by unfold dN; rw [hlog]; omega
  obtain ⟨k1, k2⟩ := par_is 1 x 16 (by rw [hd]; omega)
  have hg := gre_is 1
  rw [show topx 1 = 255 by decide, show hid 1 = 128 by decide] at hg
  rw [hS, Int.toNat_natCast] at k1 k2
  have hb : baseN 1 (numN 2 x) = 16128 + S / 65536 := by unfold baseN; rw [hd, hf1, k1]
  have hp : parN 1 (numN 2 x) = S % 65536 * 65536 := by
    rw [k2]
    generalize S % 2 ^ 16 = R
    show R * (2 ^ 16 * 2 ^ 16) / 2 ^ 16 = R * 65536
    rw [← Nat.mul_assoc, Nat.mul_div_cancel _ (by decide)]
  unfold chaI chM
  rw [if_neg (by rw [p7]; decide), p3, hp, hb]
  have hz : zerI 1 s = if s = true then 32768 else 0 := by cases s <;> rfl
  have hz2 : zerI 2 s = if s = true then 2147483648 else 0 := by cases s <;> rfl
  rw [hz2] at hx
  rw [hz]
  have hlt : (i * 65536 < ((S % 65536 * 65536 : Nat) : Int)) ↔ i < x % 65536 := by cases s <;> simp at hx <;> omega
  by_cases c : i < x % 65536
  · have c' := hlt.2 c
    simp only [c', decide_true, Bool.toNat_true, c, if_true]
    rw [if_pos (show 16128 + S / 65536 + 1 ≤ greN 1 by omega)]
    clear hlt c' c
    cases s <;> simp at hx ⊢ <;> omega
  · have c' : ¬ (i * 65536 < ((S % 65536 * 65536 : Nat) : Int)) := fun h => c (hlt.1 h)
    simp only [c', decide_false, Bool.toNat_false, c, if_false, Nat.add_zero]
    rw [if_pos (show 16128 + S / 65536 ≤ greN 1 by omega)]
    clear hlt c' c
    cases s <;> simp at hx ⊢ <;> omega
end Go.Proofs.Ytfdfbgmnfiiipaa
