/- Amounts as fractions, and how far from exact a rounded result lies: at most one unit (no program here). -/
import Derived.Test.YtheaeclojljecaaFunRed
namespace Go.Proofs.Ytheaeclojljecaa
open Go.RowKit
set_option linter.unusedVariables false
set_option linter.unusedSimpArgs false

/-- A normal Single of its parts. -/
theorem word_parts (e m x : Int) (hx : x = (e + 149) * 8388608 + m) (e0 : -149 ≤ e) (e1 : e ≤ 104) (m0 : 8388608 ≤ m) (m1 : m < 16777216) :
    8388608 ≤ x ∧ x < 2139095040 ∧ unE 2 x = e ∧ unM 2 x = m ∧ fS 2 x = false ∧ finI 2 x = true := by
  have eX : fX 2 x = e + 150 := by show x / 8388608 % 256 = _; omega
  have eF : fF 2 x = m - 8388608 := by show x % 8388608 = _; omega
  have t : topx 2 = 255 := rfl
  have l : lst 2 = -149 := rfl
  have h : hid 2 = 8388608 := rfl
  refine ⟨by omega, by omega, ?_, ?_, ?_, ?_⟩
  · unfold unE; rw [eX, t, l, if_neg (by omega), if_neg (by omega)]; omega
  · unfold unM; rw [eX, eF, t, h, if_neg (by omega), if_neg (by omega)]; omega
  · rw [fS_two x (by omega) (by omega), decide_eq_false (by omega)]
  · unfold finI; rw [eX, t]; exact decide_eq_true (by omega)

theorem kz_pos (x : Int) (h : x < 2147483648) : kz x = x := by unfold kz; rw [if_neg (by omega)]

theorem fin_of_kz (x : Int) (h0 : 0 ≤ x) (h1 : x ≤ 4294967295) (a : -2139095040 < kz x) (b : kz x < 2139095040) : finI 2 x = true := (fin_kz x h0 h1).2 ⟨a, b⟩

theorem neg_is (a : Int) (a0 : 0 ≤ a) (a1 : a ≤ 4294967295) (hn : nanB 2 a = false) : negV a = xorI 2 a ∧ nanB 2 (negV a) = false ∧ (a < 2147483648 → negV a = a + 2147483648) := by
  obtain ⟨x1, x2, x3, x4, x5⟩ := xor_parts 2 a a0 a1
  have e : negV a = xorI 2 a := by
    unfold negV minI
    rw [hn, if_neg (by decide)]
    exact low_is 2 _ x4 (by rw [show msk 2 = 4294967295 by rfl]; exact x5)
  have hc : clsI 2 (xorI 2 a) = clsI 2 a := by unfold clsI; rw [x1, x2]
  refine ⟨e, ?_, fun h => ?_⟩
  · rw [e]; unfold nanB at hn ⊢; rw [hc]; exact hn
  · rw [e]; unfold xorI
    rw [show sgb 2 = 2147483648 by rfl, xor32 a 31 (b := 2147483648) a0 a1 (by decide) (by decide), if_neg (by omega)]

theorem kz_xor (x : Int) (x0 : 0 ≤ x) (x1 : x ≤ 4294967295) : kz (xorI 2 x) = -kz x := by
  unfold xorI
  rw [show sgb 2 = 2147483648 by rfl, xor32 x 31 (b := 2147483648) x0 x1 (by decide) (by decide)]
  by_cases c : 2147483648 ≤ x
  · rw [show (if x / 2147483648 % 2 = 1 then x - 2147483648 else x + 2147483648) = x - 2147483648 from if_pos (by omega)]
    unfold kz; rw [if_pos c, if_neg (by omega)]; omega
  · rw [show (if x / 2147483648 % 2 = 1 then x - 2147483648 else x + 2147483648) = x + 2147483648 from if_neg (by omega)]
    unfold kz; rw [if_neg c, if_pos (by omega)]; omega

/-- A normal number's amount; d: its last place. -/
theorem sV_word (j d : Nat) (x : Int) (d0 : 149 ≤ d) (d1 : d ≤ 402) (j0 : 8388608 ≤ j) (j1 : j < 16777216) (hx : x = ((d : Int) - 149) * 8388608 + j) :
    sV x = ((j * 2 ^ d : Nat) : Int) ∧ finI 2 x = true ∧ 0 ≤ x ∧ x < 2139095040 := by
  obtain ⟨a, b, h1, h2, h3, h4⟩ := word_parts ((d : Int) - 298) j x (by omega) (by omega) (by omega) (by omega) (by omega)
  refine ⟨?_, h4, by omega, b⟩
  unfold sV amtE
  rw [h1, h2, h3, Int.toNat_natCast, show ((d : Int) - 298 + 298).toNat = d by omega]
  rfl

theorem sV_low (j : Nat) (d : Nat) (hd : d = 149) (j1 : j < 8388608) : sV j = ((j * 2 ^ d : Nat) : Int) ∧ finI 2 j = true := by
  have eX : fX 2 (j : Int) = 0 := by show (j : Int) / 8388608 % 256 = _; omega
  have eF : fF 2 (j : Int) = j := by show (j : Int) % 8388608 = _; omega
  have t : topx 2 = 255 := rfl
  have l : lst 2 = -149 := rfl
  have h1 : unE 2 (j : Int) = -149 := by unfold unE; rw [eX, t, l, if_neg (by omega), if_pos rfl]
  have h2 : unM 2 (j : Int) = j := by unfold unM; rw [eX, eF, t, if_neg (by omega), if_pos rfl]
  have h3 : fS 2 (j : Int) = false := by rw [fS_two _ (by omega) (by omega), decide_eq_false (by omega)]
  refine ⟨?_, by unfold finI; rw [eX, t]; decide⟩
  unfold sV amtE
  rw [h1, h2, h3, Int.toNat_natCast, show (-149 + 298 : Int).toNat = d by omega]
  rfl

/-- Both neighbours of an amount, and how far apart they are. -/
theorem sV_around (V : Nat) (K : Nat) (hK : K = 425) (hV : V < 2 ^ K) : ∃ (a : Int) (d j : Nat), 0 ≤ a ∧ a + 1 < 2139095040 ∧ sV a = ((j * 2 ^ d : Nat) : Int) ∧ sV (a + 1) = (((j + 1) * 2 ^ d : Nat) : Int) ∧ finI 2 a = true ∧ finI 2 (a + 1) = true
    ∧ j * 2 ^ d ≤ V ∧ V < (j + 1) * 2 ^ d ∧ (8388608 * 2 ^ d ≤ V ∨ d = 149) := by
  by_cases c : V / 2 ^ 149 < 8388608
  · have p := p2 149
    have h1 := Nat.div_add_mod V (2 ^ 149)
    have h2 := Nat.mod_lt V p
    obtain ⟨d, hd⟩ : ∃ d : Nat, d = 149 := ⟨_, rfl⟩
    rw [← hd] at h1 h2 c p
    generalize hj : V / 2 ^ d = j at h1 c
    obtain ⟨a1, a2⟩ := sV_low j d hd c
    have hm : (j + 1) * 2 ^ d = j * 2 ^ d + 2 ^ d := by rw [Nat.add_mul, Nat.one_mul]
    have hc := Nat.mul_comm (2 ^ d) j
    refine ⟨j, d, j, by omega, by omega, a1, ?_, a2, ?_, by omega, by omega, .inr hd⟩
    · by_cases g : j + 1 < 8388608
      · exact (sV_low (j + 1) d hd g).1
      · have : j + 1 = 8388608 := by omega
        rw [this]
        exact (sV_word 8388608 d _ (by omega) (by omega) (by omega) (by omega) (by omega)).1
    · by_cases g : j + 1 < 8388608
      · exact (sV_low (j + 1) d hd g).2
      · have : (j : Int) + 1 = 8388608 := by omega
        rw [this]; decide
  · have hV0 : V ≠ 0 := by intro h; subst h; simp at c
    have l1 := Nat.log2_self_le hV0
    have l2 := Nat.lt_log2_self (n := V)
    have l3 : V.log2 < K := (Nat.log2_lt hV0).2 hV
    have l4 : 172 ≤ V.log2 := by
      rcases Nat.lt_or_ge V.log2 172 with g | g
      · exfalso
        have : V < 2 ^ 172 := Nat.lt_of_lt_of_le l2 (Nat.pow_le_pow_right (by decide) (by omega))
        apply c
        rw [Nat.div_lt_iff_lt_mul (p2 149)]
        have e : 8388608 * 2 ^ 149 = 2 ^ 172 := by rw [show (8388608 : Nat) = 2 ^ 23 by decide, ← Nat.pow_add]
        omega
      · exact g
    obtain ⟨d, hd⟩ : ∃ d : Nat, d = V.log2 - 23 := ⟨_, rfl⟩
    rw [show V.log2 = 23 + d by omega, Nat.pow_add] at l1
    rw [show V.log2 + 1 = 24 + d by omega, Nat.pow_add] at l2
    have p := p2 d
    have h1 := Nat.div_add_mod V (2 ^ d)
    have h2 := Nat.mod_lt V p
    have e23 : (2 : Nat) ^ 23 = 8388608 := by decide
    have e24 : (2 : Nat) ^ 24 = 16777216 := by decide
    rw [e23] at l1
    rw [e24] at l2
    have hj0 : 8388608 ≤ V / 2 ^ d := (Nat.le_div_iff_mul_le p).2 l1
    have hj1 : V / 2 ^ d < 16777216 := (Nat.div_lt_iff_lt_mul p).2 l2
    generalize V / 2 ^ d = j at h1 hj0 hj1
    have hm : (j + 1) * 2 ^ d = j * 2 ^ d + 2 ^ d := by rw [Nat.add_mul, Nat.one_mul]
    have hc := Nat.mul_comm (2 ^ d) j
    obtain ⟨a1, a2, a3, a4⟩ := sV_word j d (((d : Int) - 149) * 8388608 + j) (by omega) (by omega) hj0 hj1 rfl
    have hb : sV (((d : Int) - 149) * 8388608 + j + 1) = (((j + 1) * 2 ^ d : Nat) : Int) ∧ finI 2 (((d : Int) - 149) * 8388608 + j + 1) = true ∧ 0 ≤ ((d : Int) - 149) * 8388608 + j + 1 ∧ ((d : Int) - 149) * 8388608 + j + 1 < 2139095040 := by
      by_cases g : j + 1 < 16777216
      · exact sV_word (j + 1) d _ (by omega) (by omega) (by omega) g (by omega)
      · obtain ⟨b1, b2⟩ := sV_word 8388608 (d + 1) (((d : Int) - 149) * 8388608 + j + 1) (by omega) (by omega) (by omega) (by omega) (by omega)
        refine ⟨?_, b2⟩
        rw [b1, show j + 1 = 8388608 * 2 by omega, Nat.pow_succ, Nat.mul_assoc 8388608 2, Nat.mul_comm 2 (2 ^ d)]
    exact ⟨((d : Int) - 149) * 8388608 + j, d, j, a3, hb.2.2.2, a1, hb.1, a2, hb.2.1, by omega, by omega, .inl l1⟩

theorem around_err (V : Nat) (K : Nat) (hK : K = 425) (hV : V < 2 ^ K) (x : Int) (x0 : 0 ≤ x) (x1 : x ≤ 4294967295) (hk : kz x = rk V) :
    finI 2 x = true ∧ 8388608 * (sV x - V) ≤ V + ((2 ^ 172 : Nat) : Int) ∧ -((V : Int) + ((2 ^ 172 : Nat) : Int)) ≤ 8388608 * (sV x - V) := by
  obtain ⟨a, d, j, a0, a1, s1, s2, f1, f2, h1, h2, h3⟩ := sV_around V K hK hV
  have m1 := rk_mono (show sV a ≤ (V : Int) by rw [s1]; omega)
  have m2 := rk_mono (show (V : Int) ≤ sV (a + 1) by rw [s2]; omega)
  rw [rk_self a a0 (by omega) f1, ← hk, kz_pos a (by omega)] at m1
  rw [rk_self (a + 1) (by omega) (by omega) f2, ← hk, kz_pos (a + 1) (by omega)] at m2
  have hf := fin_of_kz x x0 x1 (by omega) (by omega)
  have k1 := (kz_line a x a0 (by omega) x0 x1 f1 hf).1 (by rw [kz_pos a (by omega)]; exact m1)
  have k2 := (kz_line x (a + 1) x0 x1 (by omega) (by omega) hf f2).1 (by rw [kz_pos (a + 1) (by omega)]; exact m2)
  rw [s1] at k1
  rw [s2] at k2
  have hm : (j + 1) * 2 ^ d = j * 2 ^ d + 2 ^ d := by rw [Nat.add_mul, Nat.one_mul]
  have hD : 8388608 * 2 ^ d ≤ V + 2 ^ 172 := by
    rcases h3 with h | h
    · omega
    · have : 8388608 * 2 ^ d = 2 ^ 172 := by rw [h, show (8388608 : Nat) = 2 ^ 23 by decide, ← Nat.pow_add]
      omega
  generalize (2 : Nat) ^ 172 = Q at hD ⊢
  generalize (2 : Nat) ^ d = D at *
  generalize sV x = X at *
  rw [hm] at k2 h2
  generalize j * D = J at *
  refine ⟨hf, by omega, by omega⟩

theorem rk_err (S : Int) (K : Nat) (hK : K = 425) (hS : S.natAbs < 2 ^ K) (x : Int) (x0 : 0 ≤ x) (x1 : x ≤ 4294967295) (hk : kz x = rk S) :
    finI 2 x = true ∧ 8388608 * (sV x - S) ≤ S.natAbs + ((2 ^ 172 : Nat) : Int) ∧ -((S.natAbs : Int) + ((2 ^ 172 : Nat) : Int)) ≤ 8388608 * (sV x - S) := by
  by_cases c : 0 ≤ S
  · obtain ⟨V, rfl⟩ := Int.eq_ofNat_of_zero_le c
    rw [Int.natAbs_natCast] at hS ⊢
    exact around_err V K hK hS x x0 x1 hk
  · obtain ⟨V, hV⟩ : ∃ V : Nat, S = -(V : Int) := ⟨S.natAbs, by omega⟩
    subst hV
    rw [Int.natAbs_neg, Int.natAbs_natCast] at hS ⊢
    obtain ⟨y1, y2⟩ := xor_sV x x0 x1
    obtain ⟨_, _, _, w0, w1⟩ := xor_parts 2 x x0 x1
    obtain ⟨g1, g2, g3⟩ := around_err V K hK hS (xorI 2 x) w0 w1 (by rw [kz_xor x x0 x1, hk, rk_neg, rk_pos]; omega)
    rw [y2] at g1
    rw [y1] at g2 g3
    generalize (2 : Nat) ^ 172 = Q at *
    generalize sV x = X at *
    exact ⟨g1, by omega, by omega⟩

/-! Amounts as fractions. -/
def rU : Rat := ((2 ^ 298 : Nat) : Rat)

def rS (S : Int) : Rat := (S : Rat) / rU

def rv (x : Int) : Rat := rS (sV x)

theorem rU_pos : 0 < rU := by decide +kernel

theorem rS_add (S T : Int) : rS (S + T) = rS S + rS T := by unfold rS; rw [Rat.intCast_add]; grind

theorem rS_sub (S T : Int) : rS (S - T) = rS S - rS T := by unfold rS; rw [Rat.intCast_sub]; grind

theorem rS_neg (S : Int) : rS (-S) = -rS S := by unfold rS; rw [Rat.intCast_neg]; grind

theorem rS_mulU (S : Int) : rS S * rU = (S : Rat) := by
  have p := rU_pos
  unfold rS; grind

theorem rS_le {S T : Int} : rS S ≤ rS T ↔ S ≤ T := by
  have p := rU_pos
  constructor
  · intro h
    have := Rat.mul_le_mul_of_nonneg_right h (Rat.le_of_lt p)
    rw [rS_mulU, rS_mulU, Rat.intCast_le_intCast] at this
    exact this
  · intro h
    rcases (Rat.le_total : rS S ≤ rS T ∨ rS T ≤ rS S) with g | g
    · exact g
    · have := Rat.mul_le_mul_of_nonneg_right g (Rat.le_of_lt p)
      rw [rS_mulU, rS_mulU, Rat.intCast_le_intCast] at this
      rw [show S = T by omega]; exact Rat.le_refl

/-- A product's amount is the product. -/
theorem rS_prod (a b : Int) : rS (sP a b) = rv a * rv b := by
  have p := rU_pos
  have h := sP_mul a b 298 rfl
  have h2 : (sP a b : Rat) * rU = (sV a : Rat) * (sV b : Rat) := by
    have := congrArg (fun z : Int => (z : Rat)) h
    simp only [Rat.intCast_mul, Rat.intCast_natCast] at this
    exact this
  unfold rv rS
  grind

/-- How far what is rounded lies from what is exact, as fractions. -/
theorem rv_err (S : Int) (x : Int) (x0 : 0 ≤ x) (x1 : x ≤ 4294967295) (hk : kz x = rk S) (A : Rat) (hA0 : 1 / 1099511627776 ≤ A) (hA1 : A ≤ 1099511627776) (h0 : -A ≤ rS S) (h1 : rS S ≤ A) :
    finI 2 x = true ∧ -(A / 8000000) ≤ rv x - rS S ∧ rv x - rS S ≤ A / 8000000 := by
  have p := rU_pos
  obtain ⟨K, hK⟩ : ∃ K : Nat, K = 425 := ⟨_, rfl⟩
  have hU : rU = ((2 ^ 298 : Nat) : Rat) := rfl
  have hn : rS (S.natAbs : Int) ≤ A := by
    rcases Int.natAbs_eq S with h | h
    · rw [h] at h1; rw [show ((S.natAbs : Nat) : Int) = (S.natAbs : Int) from rfl]; rw [← h] at h1; rw [← h]; exact h1
    · have : (S.natAbs : Int) = -S := by omega
      rw [this, rS_neg]; grind
  have hS : S.natAbs < 2 ^ K := by
    rcases Nat.lt_or_ge S.natAbs (2 ^ K) with g | g
    · exact g
    · exfalso
      have c : rS ((2 ^ K : Nat) : Int) ≤ rS (S.natAbs : Int) := rS_le.2 (by omega)
      have d : (1099511627776 : Rat) < rS ((2 ^ K : Nat) : Int) := by subst hK; decide +kernel
      grind
  obtain ⟨e1, e2, e3⟩ := rk_err S K hK hS x x0 x1 hk
  have q : rS ((2 ^ 172 : Nat) : Int) ≤ 1 / 1000000000000000000000000000000000000 := by decide +kernel
  have m8 : ∀ T : Int, rS (8388608 * T) = 8388608 * rS T := fun T => by unfold rS; rw [Rat.intCast_mul]; grind
  have f2 := rS_le.2 e2
  have f3 := rS_le.2 e3
  rw [m8, rS_sub, rS_add] at f2
  rw [m8, rS_sub, rS_neg, rS_add] at f3
  refine ⟨e1, ?_, ?_⟩
  · show -(A / 8000000) ≤ rS (sV x) - rS S
    grind
  · show rS (sV x) - rS S ≤ A / 8000000
    grind

theorem fma_err (a b c : Int) (A : Rat) (fa : finI 2 a = true) (fb : finI 2 b = true) (fc : finI 2 c = true) (hA0 : 1 / 1099511627776 ≤ A) (hA1 : A ≤ 1099511627776) (h0 : -A ≤ rv a * rv b + rv c) (h1 : rv a * rv b + rv c ≤ A) :
    finI 2 (fmaV a b c) = true ∧ -(A / 8000000) ≤ rv (fmaV a b c) - (rv a * rv b + rv c) ∧ rv (fmaV a b c) - (rv a * rv b + rv c) ≤ A / 8000000 := by
  have e : rS (sP a b + sV c) = rv a * rv b + rv c := by rw [rS_add, rS_prod]; rfl
  have := rv_err (sP a b + sV c) _ (fma_word a b c).1 (fma_word a b c).2 (fma_kz a b c fa fb fc) A hA0 hA1
  rw [e] at this
  exact this h0 h1

theorem mul_err (a b : Int) (A : Rat) (fa : finI 2 a = true) (fb : finI 2 b = true) (hA0 : 1 / 1099511627776 ≤ A) (hA1 : A ≤ 1099511627776) (h0 : -A ≤ rv a * rv b) (h1 : rv a * rv b ≤ A) :
    finI 2 (mulV a b) = true ∧ -(A / 8000000) ≤ rv (mulV a b) - rv a * rv b ∧ rv (mulV a b) - rv a * rv b ≤ A / 8000000 := by
  have := rv_err (sP a b) _ (mul_word a b).1 (mul_word a b).2 (mul_kz a b fa fb) A hA0 hA1
  rw [rS_prod] at this
  exact this h0 h1

theorem add_err (a b : Int) (A : Rat) (fa : finI 2 a = true) (fb : finI 2 b = true) (hA0 : 1 / 1099511627776 ≤ A) (hA1 : A ≤ 1099511627776) (h0 : -A ≤ rv a + rv b) (h1 : rv a + rv b ≤ A) :
    finI 2 (addV a b) = true ∧ -(A / 8000000) ≤ rv (addV a b) - (rv a + rv b) ∧ rv (addV a b) - (rv a + rv b) ≤ A / 8000000 := by
  have e : rS (sV a + sV b) = rv a + rv b := rS_add _ _
  have := rv_err (sV a + sV b) _ (add_word a b).1 (add_word a b).2 (add_kz a b fa fb) A hA0 hA1
  rw [e] at this
  exact this h0 h1

theorem sub_err (a b : Int) (A : Rat) (b0 : 0 ≤ b) (b1 : b ≤ 4294967295) (fa : finI 2 a = true) (fb : finI 2 b = true) (hA0 : 1 / 1099511627776 ≤ A) (hA1 : A ≤ 1099511627776) (h0 : -A ≤ rv a - rv b) (h1 : rv a - rv b ≤ A) :
    finI 2 (subV a b) = true ∧ -(A / 8000000) ≤ rv (subV a b) - (rv a - rv b) ∧ rv (subV a b) - (rv a - rv b) ≤ A / 8000000 := by
  have e : rS (sV a - sV b) = rv a - rv b := rS_sub _ _
  have := rv_err (sV a - sV b) _ (sub_word a b).1 (sub_word a b).2 (sub_kz a b b0 b1 fa fb) A hA0 hA1
  rw [e] at this
  exact this h0 h1

/-- Finite numbers' line is the line of fractions. -/
theorem rv_line (x y : Int) (x0 : 0 ≤ x) (x1 : x ≤ 4294967295) (y0 : 0 ≤ y) (y1 : y ≤ 4294967295) (hx : finI 2 x = true) (hy : finI 2 y = true) : kz x ≤ kz y ↔ rv x ≤ rv y :=
  (kz_line x y x0 x1 y0 y1 hx hy).trans rS_le.symm

theorem pow_split (v T E : Nat) : v * 2 ^ (T + E) = v * 2 ^ T * 2 ^ E := by rw [Nat.pow_add, Nat.mul_assoc]

/-- Whole numbers are rounded. -/
theorem frm_kz (n : Int) (T : Nat) (hT : T = 298) : kz (frmV n) = rk (n * ((2 ^ T : Nat) : Int)) := by
  have hv : ∀ v : Int, valN (clampE 0) v false = upN (v.toNat * 2 ^ T) := fun v => by
    unfold valN upN
    rw [show (clampE 0 + 10100).toNat = T + 9802 by rw [hT]; decide]
    rw [Bool.toNat_false, Nat.add_zero]
    exact pow_split _ _ 9802
  unfold frmV fromE
  by_cases c : n < 0
  · rw [if_pos c, hv, pack_kz]
    have : sg true ((-n).toNat * 2 ^ T) = n * ((2 ^ T : Nat) : Int) := by
      obtain ⟨m, rfl⟩ : ∃ m : Nat, n = -(m : Int) := ⟨n.natAbs, by omega⟩
      unfold sg
      rw [if_pos rfl, Int.neg_neg, Int.toNat_natCast, Int.natCast_mul, Int.neg_mul]
    rw [this]
  · rw [if_neg c, hv, pack_kz]
    have : sg false (n.toNat * 2 ^ T) = n * ((2 ^ T : Nat) : Int) := by
      obtain ⟨m, rfl⟩ := Int.eq_ofNat_of_zero_le (show 0 ≤ n by omega)
      unfold sg
      rw [if_neg (by decide), Int.toNat_natCast, Int.natCast_mul]
    rw [this]

theorem rS_whole (n : Int) (T : Nat) (hT : T = 298) : rS (n * ((2 ^ T : Nat) : Int)) = n := by
  have p := rU_pos
  have h : ((((2 ^ T : Nat) : Int)) : Rat) = rU := by rw [Rat.intCast_natCast, hT]; rfl
  unfold rS
  rw [Rat.intCast_mul, h]
  grind

theorem frm_nan (n : Int) : nanB 2 (frmV n) = false := by
  have hp : ∀ s V, nanB 2 (valI (PackE 2 0 s V)) = false := fun s V => by
    have h := mag_top V
    show nanB 2 (rdV 2 0 s V) = false
    unfold rdV
    rw [mag_sign]
    have e0 : zerI 2 false = 0 := rfl
    have e1 : zerI 2 true = 2147483648 := rfl
    cases s
    · rw [e0]; exact (nan_kz _ (by omega) (by omega)).2 (by rw [kz_pos _ (by omega)]; omega)
    · rw [e1]; exact (nan_kz _ (by omega) (by omega)).2 (by unfold kz; rw [if_pos (by omega)]; omega)
  unfold frmV fromE
  split <;> exact hp _ _

theorem frm_neg (n : Int) : xorI 2 (frmV n) = negV (frmV n) := by
  obtain ⟨h0, h1⟩ := frm_word n
  exact (neg_is _ h0 h1 (frm_nan n)).1.symm

theorem rv_neg (x : Int) (x0 : 0 ≤ x) (x1 : x ≤ 4294967295) : rv (xorI 2 x) = -rv x := by
  unfold rv; rw [(xor_sV x x0 x1).1, rS_neg]

/-- What is made whole is at most a half off. -/
theorem wN_half (V : Nat) : 2 * (wN V * 2 ^ tw) ≤ 2 * V + 2 ^ tw ∧ 2 * V ≤ 2 * (wN V * 2 ^ tw) + 2 ^ tw := by
  have h1 := Nat.div_add_mod V (2 ^ tw)
  have h2 := Nat.mod_lt V (p2 tw)
  have hc := Nat.mul_comm (2 ^ tw) (V / 2 ^ tw)
  unfold wN catU
  generalize V / 2 ^ tw = q at *
  generalize V % 2 ^ tw = m at *
  generalize 2 ^ tw = D at *
  have g0 : growB 0 false q 0 = false := rfl
  have g1 : growB 0 false q 1 = false := rfl
  have g3 : growB 0 false q 3 = true := rfl
  have hm : (q + 1) * D = q * D + D := by rw [Nat.add_mul, Nat.one_mul]
  split
  · rw [g0]; simp only [Bool.toNat_false, Nat.add_zero]; omega
  · split
    · rw [g1]; simp only [Bool.toNat_false, Nat.add_zero]; omega
    · split
      · cases growB 0 false q 2
        · simp only [Bool.toNat_false, Nat.add_zero]; omega
        · simp only [Bool.toNat_true]; rw [hm]; omega
      · rw [g3]; simp only [Bool.toNat_true]; rw [hm]; omega

theorem rS_tw (n : Int) : rS (n * ((2 ^ tw : Nat) : Int)) = n := rS_whole n tw rfl

theorem wI_half (S : Int) : -(1 / 2) ≤ ((wI S : Int) : Rat) - rS S ∧ ((wI S : Int) : Rat) - rS S ≤ 1 / 2 := by
  have p := rU_pos
  have key : 2 * (wI S * ((2 ^ tw : Nat) : Int)) ≤ 2 * S + ((2 ^ tw : Nat) : Int) ∧ 2 * S ≤ 2 * (wI S * ((2 ^ tw : Nat) : Int)) + ((2 ^ tw : Nat) : Int) := by
    obtain ⟨h1, h2⟩ := wN_half S.natAbs
    unfold wI
    generalize wN S.natAbs = w at *
    generalize (2 : Nat) ^ tw = D at *
    have e : ((w * D : Nat) : Int) = (w : Int) * (D : Int) := Int.natCast_mul _ _
    by_cases c : S < 0
    · rw [if_pos c, Int.neg_mul, ← e]; omega
    · rw [if_neg c, ← e]; omega
  have m2 : ∀ T : Int, rS (2 * T) = 2 * rS T := fun T => by unfold rS; rw [Rat.intCast_mul]; grind
  have u1 : rS ((2 ^ tw : Nat) : Int) = 1 := by
    have := rS_tw 1
    rw [Int.one_mul] at this; exact this
  have f1 := rS_le.2 key.1
  have f2 := rS_le.2 key.2
  rw [rS_add, m2, m2, rS_tw, u1] at f1
  rw [rS_add, m2, m2, rS_tw, u1] at f2
  clear key
  grind
end Go.Proofs.Ytheaeclojljecaa
