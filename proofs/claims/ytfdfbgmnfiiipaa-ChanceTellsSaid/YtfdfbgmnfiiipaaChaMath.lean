/- Rounding by chance as plain numbers (no program here). -/
import Derived.Test.YtfdfbgmnfiiipaaConSides
namespace Go.Proofs.Ytfdfbgmnfiiipaa
open Go.RowKit
set_option linter.unusedVariables false
set_option linter.unusedSimpArgs false

/-- What is above the lower neighbour, in parts of a unit, 2 to 32 of them. -/
def parN (f : Int) (V : Nat) : Nat := V % 2 ^ (luN f + dN f V) * 2 ^ 32 / 2 ^ (luN f + dN f V)

def chM (f : Int) (V : Nat) (w : Int) : Nat := if baseN f V + (decide (w < parN f V)).toNat ≤ greN f then baseN f V + (decide (w < parN f V)).toNat else greN f + 1

/-- A Single rounded by chance. -/
def chaI (f a w : Int) : Int := if finI 2 a = false then conV 2 f 0 a else zerI f (fS 2 a) + chM f (numN 2 a) w

theorem cha_bd (f a w : Int) : 0 ≤ chaI f a w ∧ chaI f a w ≤ msk f := by
  have h := con_bd 2 f 0 a
  unfold chaI
  split
  · exact h
  · by_cases c : chM f (numN 2 a) w ≤ greN f
    · obtain ⟨_, _, _, m4, m5⟩ := mag_parts f (fS 2 a) _ c
      exact ⟨m4, m5⟩
    · have e : chM f (numN 2 a) w = greN f + 1 := by unfold chM at c ⊢; split <;> simp_all
      rw [e, mag_inf]
      have := sgb_low f (fS 2 a)
      exact ⟨this.2.2.2.1, this.2.2.2.2⟩

theorem par_none (f : Int) (V : Nat) (h : catN f V = 0) : parN f V = 0 := by
  have hk := (kept_amt f V).2 h
  unfold parN
  have : V % 2 ^ (luN f + dN f V) = 0 := by
    have e : V % 2 ^ (luN f + dN f V) = (keptN f V * 2 ^ (luN f + dN f V)) % 2 ^ (luN f + dN f V) := by rw [hk]
    rw [e, Nat.mul_mod_left]
  rw [this]; simp

/-- What is a number of the format is it. -/
theorem cha_exact (f a w : Int) (h : conX 2 f 1 a = false) (w0 : 0 ≤ w) : chaI f a w = conV 2 f 0 a := by
  unfold chaI
  split
  · rfl
  · rename_i hf
    have hf : finI 2 a = true := by simpa using hf
    obtain ⟨_, x⟩ := con_of_fin 2 f 1 a hf
    rw [h] at x
    have hi : ¬ (greN f < baseN f (numN 2 a) ∨ catN f (numN 2 a) ≠ 0) := by
      intro g
      have : inexB f (numN 2 a) = true := by unfold inexB; rw [Bool.or_eq_true, decide_eq_true_eq, bne_iff_ne]; exact g
      rw [← x] at this; exact absurd this (by decide)
    have hc : catN f (numN 2 a) = 0 := by omega
    have hp := par_none f _ hc
    have hb : baseN f (numN 2 a) ≤ greN f := by omega
    have hm : chM f (numN 2 a) w = baseN f (numN 2 a) := by
      unfold chM
      rw [hp, decide_eq_false (by omega)]
      simp [hb]
    rw [hm, (con_of_fin 2 f 0 a hf).1]
    unfold rdV magN
    have hpl : plcN f 0 (fS 2 a) (numN 2 a) = baseN f (numN 2 a) := by rw [plc_base, hc, grow_zero]; rfl
    rw [hpl, if_pos hb]

/-- Beyond the greatest it is infinite; where that is. -/
theorem cha_over (f a w : Int) (hf : finI 2 a = true) (h : greN f < baseN f (numN 2 a)) :
    chaI f a w = infI f (fS 2 a) ∧ lst f + topx f - 2 + fn f + 1 < unE 2 a + lenI (unM 2 a) ∧ unE f (zerI f (fS 2 a) + zeroN f (numN 2 a)) = lst f + topx f - 2 := by
  obtain ⟨m0, m1⟩ := unM_bd 2 a
  obtain ⟨e0, e1⟩ := unE_bd 2 a
  have hg := gre_is f
  have hh := hid_fn f
  have hl := lst_bd f
  have hlu := lu_is f
  have hfn := fn_bd f
  have ht := topx_pos f
  refine ⟨?_, ?_, ?_⟩
  · unfold chaI chM
    rw [if_neg (by rw [hf]; decide), if_neg (by omega), mag_inf]
  · obtain ⟨S, hS⟩ : ∃ S : Nat, unM 2 a = S := ⟨(unM 2 a).toNat, by omega⟩
    obtain ⟨E, hE⟩ : ∃ E : Nat, (unE 2 a + 10100).toNat = E := ⟨_, rfl⟩
    have hV : numN 2 a = S * 2 ^ E := by unfold numN; rw [hS, hE]; rfl
    have hS0 : S ≠ 0 := by
      intro h0
      have : numN 2 a = 0 := by rw [hV, h0]; simp
      rw [this] at h
      have hz : baseN f 0 = 0 := by unfold baseN; rw [kept_zero, d_zero]; simp
      omega
    have hlog : (numN 2 a).log2 = S.log2 + E := by
      rw [Nat.log2_eq_iff (by rw [hV]; exact Nat.ne_of_gt (Nat.mul_pos (by omega) (p2 E))), hV]
      have a1 := Nat.mul_le_mul_right (2 ^ E) (Nat.log2_self_le hS0)
      have a2 := Nat.mul_lt_mul_of_pos_right (Nat.lt_log2_self (n := S)) (p2 E)
      rw [← Nat.pow_add] at a1 a2
      exact ⟨a1, by rw [show S.log2 + E + 1 = S.log2 + 1 + E by omega]; exact a2⟩
    have hL := len_log (S : Int) (by omega)
    rw [Int.toNat_natCast] at hL
    rw [hS, hL]
    obtain ⟨k1, _⟩ := kept_bd f (numN 2 a)
    have hd : topx f - 1 ≤ (dN f (numN 2 a) : Int) := by
      unfold baseN at h
      rw [Nat.pow_succ] at k1
      by_cases c : topx f - 1 ≤ (dN f (numN 2 a) : Int)
      · exact c
      · exfalso
        have hm : ((dN f (numN 2 a) : Int) + 2) * hid f ≤ topx f * hid f := Int.mul_le_mul_of_nonneg_right (by omega) (by have := hid_pos f; omega)
        rw [hh] at hm hg
        rw [Int.add_mul, ← Int.natCast_mul] at hm
        omega
    have ht2 : 2 < topx f := by unfold topx; split <;> decide
    unfold dN at hd
    rw [hlog] at hd
    omega
  · have hz : zeroN f (numN 2 a) = greN f := by unfold zeroN; rw [if_neg (by omega)]
    rw [hz]
    have hH := hid_pos f
    obtain ⟨p1, p2', p3, p4, p5, p6, p7⟩ := parts_make f (fS 2 a) (topx f - 1) (hid f - 1) (zerI f (fS 2 a) + greN f) (by omega) (by omega) (by omega) (by omega) (by rw [hg, Int.sub_mul]; omega)
    unfold unE
    have ht2 : 2 < topx f := by unfold topx; split <;> decide
    rw [p1, if_neg (by omega), if_neg (by omega)]
    omega

/-- The lower neighbour's parts. -/
theorem low_parts_of (f : Int) (s : Bool) (V : Nat) (h : baseN f V ≤ greN f) :
    unM f (zerI f s + baseN f V) = keptN f V ∧ unE f (zerI f s + baseN f V) + 10100 = ((luN f + dN f V : Nat) : Int) := by
  have hg := gre_is f
  have hh := hid_fn f
  have hlu := lu_is f
  have hH := hid_pos f
  have hl := lst_bd f
  obtain ⟨k1, k2⟩ := kept_bd f V
  have hb : (baseN f V : Int) = dN f V * hid f + keptN f V := by unfold baseN; rw [hh]; omega
  by_cases c : keptN f V < 2 ^ fn f
  · have hd : dN f V = 0 := by
      rcases Nat.eq_zero_or_pos (dN f V) with e | e
      · exact e
      · have := k2 (by omega); omega
    obtain ⟨p1, p2', p3, p4, p5, p6, p7⟩ := parts_make f s 0 (keptN f V) (zerI f s + baseN f V) (by omega) (by have := topx_pos f; omega) (by omega) (by rw [hh]; omega) (by rw [hb, hd]; simp)
    have ht := topx_pos f
    unfold unM unE
    rw [p1, p2', if_neg (by omega), if_pos rfl, if_neg (by omega), if_pos rfl]
    exact ⟨rfl, by omega⟩
  · have hx : (dN f V : Int) + 1 < topx f := by
      by_cases c2 : (dN f V : Int) + 1 < topx f
      · exact c2
      · exfalso
        have hm : topx f * hid f ≤ ((dN f V : Int) + 1) * hid f := Int.mul_le_mul_of_nonneg_right (by omega) (by omega)
        rw [Int.add_mul] at hm
        omega
    rw [Nat.pow_succ] at k1
    obtain ⟨p1, p2', p3, p4, p5, p6, p7⟩ := parts_make f s ((dN f V : Int) + 1) ((keptN f V : Int) - hid f) (zerI f s + baseN f V) (by omega) hx (by rw [hh]; omega) (by rw [hh]; omega) (by rw [hb, Int.add_mul]; omega)
    unfold unM unE
    rw [p1, p2', if_neg (by omega), if_neg (by omega), if_neg (by omega), if_neg (by omega)]
    exact ⟨by omega, by omega⟩

/-- Parts of a number's own bits. -/
theorem par_is (f a : Int) (k : Nat) (hk : ((luN f + dN f (numN 2 a) : Nat) : Int) = unE 2 a + 10100 + k) :
    keptN f (numN 2 a) = (unM 2 a).toNat / 2 ^ k ∧ parN f (numN 2 a) = (unM 2 a).toNat % 2 ^ k * 2 ^ 32 / 2 ^ k := by
  obtain ⟨e0, e1⟩ := unE_bd 2 a
  obtain ⟨E, hE⟩ : ∃ E : Nat, (unE 2 a + 10100).toNat = E := ⟨_, rfl⟩
  have hV : numN 2 a = (unM 2 a).toNat * 2 ^ E := by unfold numN; rw [hE]
  have hu : luN f + dN f (numN 2 a) = k + E := by omega
  unfold keptN parN
  rw [hu, Nat.pow_add]
  rw [hV, Nat.mul_div_mul_right _ _ (p2 E), Nat.mul_mod_mul_right]
  refine ⟨rfl, ?_⟩
  rw [Nat.mul_right_comm, Nat.mul_div_mul_right _ _ (p2 E)]

/-- In range, between two neighbours: what the reference reckons with. -/
theorem cha_in (f a w : Int) (hf : finI 2 a = true) (hb : baseN f (numN 2 a) ≤ greN f) (hc : catN f (numN 2 a) ≠ 0) (w0 : 0 ≤ w) :
    ∃ k : Nat, 1 ≤ k ∧ k ≤ 404 ∧ unE f (conV 2 f 1 a) - unE 2 a = k ∧ conV 2 f 1 a = zerI f (fS 2 a) + baseN f (numN 2 a)
      ∧ unM f (conV 2 f 1 a) = ((unM 2 a).toNat / 2 ^ k : Nat) ∧ (parN f (numN 2 a) : Int) = shV ((unM 2 a).toNat % 2 ^ k : Nat) ((k : Int) - 32)
      ∧ 0 ≤ shV ((unM 2 a).toNat % 2 ^ k : Nat) ((k : Int) - 32) ∧ shV ((unM 2 a).toNat % 2 ^ k : Nat) ((k : Int) - 32) ≤ 4294967295
      ∧ chaI f a w = zerI f (fS 2 a) + baseN f (numN 2 a) + (if w < shV ((unM 2 a).toNat % 2 ^ k : Nat) ((k : Int) - 32) then 1 else 0) := by
  obtain ⟨m0, m1⟩ := unM_bd 2 a
  obtain ⟨e0, e1⟩ := unE_bd 2 a
  have hl := lst_bd f
  have hlu := lu_is f
  have hlo : conV 2 f 1 a = zerI f (fS 2 a) + baseN f (numN 2 a) := by
    rw [(con_of_fin 2 f 1 a hf).1]
    unfold rdV
    rw [mag_zero f 1 (fS 2 a) (numN 2 a) rfl rfl]
    unfold zeroN; rw [if_pos hb]
  obtain ⟨g1, g2⟩ := low_parts_of f (fS 2 a) (numN 2 a) hb
  rw [← hlo] at g1 g2
  obtain ⟨E, hE⟩ : ∃ E : Nat, (unE 2 a + 10100).toNat = E := ⟨_, rfl⟩
  have hV : numN 2 a = (unM 2 a).toNat * 2 ^ E := by unfold numN; rw [hE]
  have hk : E < luN f + dN f (numN 2 a) := by
    by_cases c : E < luN f + dN f (numN 2 a)
    · exact c
    · exfalso
      apply hc
      obtain ⟨t, ht⟩ : ∃ t, E = luN f + dN f (numN 2 a) + t := ⟨E - (luN f + dN f (numN 2 a)), by omega⟩
      have : numN 2 a % 2 ^ (luN f + dN f (numN 2 a)) = 0 := by
        generalize luN f + dN f (numN 2 a) = u at ht
        rw [hV, ht, Nat.pow_add, Nat.mul_comm (2 ^ u), ← Nat.mul_assoc, Nat.mul_mod_left]
      unfold catN catU
      rw [if_pos this]
  obtain ⟨k, hkk⟩ : ∃ k : Nat, luN f + dN f (numN 2 a) = E + k := ⟨luN f + dN f (numN 2 a) - E, by omega⟩
  have hx := unE_bd f (conV 2 f 1 a)
  obtain ⟨q1, q2⟩ := par_is f a k (by omega)
  have hkb : k ≤ 404 := by omega
  have hp : (parN f (numN 2 a) : Int) = shV ((unM 2 a).toNat % 2 ^ k : Nat) ((k : Int) - 32) ∧ parN f (numN 2 a) < 2 ^ 32 := by
    have hr := Nat.mod_lt (unM 2 a).toNat (p2 k)
    have hlt : parN f (numN 2 a) < 2 ^ 32 := by
      rw [q2]
      refine (Nat.div_lt_iff_lt_mul (p2 k)).2 ?_
      rw [Nat.mul_comm (2 ^ 32)]
      exact Nat.mul_lt_mul_of_pos_right hr (by decide)
    refine ⟨?_, hlt⟩
    rw [q2] at hlt ⊢
    unfold shV
    by_cases c : (k : Int) - 32 < 0
    · rw [if_pos c]
      obtain ⟨j, hj⟩ : ∃ j, 32 = k + j := ⟨32 - k, by omega⟩
      have e1 : (-((k : Int) - 32)).toNat = j := by omega
      have e2 : (unM 2 a).toNat % 2 ^ k * 2 ^ 32 / 2 ^ k = (unM 2 a).toNat % 2 ^ k * 2 ^ j := by
        rw [hj, Nat.pow_add, Nat.mul_left_comm, Nat.mul_div_cancel_left _ (p2 k)]
      rw [e2] at hlt ⊢
      rw [e1, pow2_cast, ← Int.natCast_mul]
      omega
    · rw [if_neg c]
      obtain ⟨j, hj⟩ : ∃ j, k = 32 + j := ⟨k - 32, by omega⟩
      have e1 : ((k : Int) - 32).toNat = j := by omega
      have e2 : (unM 2 a).toNat % 2 ^ k * 2 ^ 32 / 2 ^ k = (unM 2 a).toNat % 2 ^ k / 2 ^ j := by
        have : ∀ X : Nat, X * 2 ^ 32 / 2 ^ k = X / 2 ^ j := by
          intro X
          rw [hj, Nat.pow_add, Nat.mul_comm X, Nat.mul_div_mul_left _ _ (p2 32)]
        exact this _
      rw [e2, e1, pow2_cast, ← Int.natCast_ediv]
  refine ⟨k, by omega, hkb, by omega, hlo, by rw [g1, q1], hp.1, by rw [← hp.1]; omega, by rw [← hp.1]; omega, ?_⟩
  rw [← hp.1]
  unfold chaI chM
  rw [if_neg (by rw [hf]; decide)]
  by_cases c : w < (parN f (numN 2 a) : Int)
  · rw [decide_eq_true c, if_pos c]
    simp only [Bool.toNat_true]
    by_cases c2 : baseN f (numN 2 a) + 1 ≤ greN f
    · rw [if_pos c2]; omega
    · rw [if_neg c2]; omega
  · rw [decide_eq_false c, if_neg c]
    simp only [Bool.toNat_false, Nat.add_zero]
    rw [if_pos hb]; omega
end Go.Proofs.Ytfdfbgmnfiiipaa
