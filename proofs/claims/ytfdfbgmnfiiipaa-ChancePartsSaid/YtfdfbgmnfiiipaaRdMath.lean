/- Rounding as plain numbers (no program here): a number without a sign is V units of 2 to -10100. -/
import Derived.Test.YtfdfbgmnfiiipaaFMath
namespace Go.Proofs.Ytfdfbgmnfiiipaa
open Go.RowKit
set_option linter.unusedVariables false

/-- sig times 2 to exp, and one unit of 2 to -10100 more. -/
def valN (exp sig : Int) (more : Bool) : Nat := sig.toNat * 2 ^ (exp + 10100).toNat + more.toNat

/-- Exponents as they are taken. -/
def clampE (e : Int) : Int := if e < -10000 then -10000 else if 10000 < e then 10000 else e

/-- Where the least unit of a format stands. -/
def luN (f : Int) : Nat := (lst f + 10100).toNat

/-- How far above the least unit V's unit is. -/
def dN (f : Int) (V : Nat) : Nat := V.log2 - (fn f + luN f)

def keptN (f : Int) (V : Nat) : Nat := V / 2 ^ (luN f + dN f V)

/-- What is left of a unit of 2 to u: nothing, less than half, half, more. -/
def catU (u V : Nat) : Nat := if V % 2 ^ u = 0 then 0 else if 2 * (V % 2 ^ u) < 2 ^ u then 1 else if 2 * (V % 2 ^ u) = 2 ^ u then 2 else 3

def catN (f : Int) (V : Nat) : Nat := catU (luN f + dN f V) V

/-- Does it become one unit more? -/
def growB (mode : Int) (neg : Bool) (kept cat : Nat) : Bool :=
  if mode = 1 then false
  else if mode = 2 then (cat != 0) && !neg
  else if mode = 3 then (cat != 0) && neg
  else if mode = 4 then decide (2 ≤ cat)
  else decide (2 < cat) || ((cat == 2) && (kept % 2 == 1))

def plcN (f mode : Int) (neg : Bool) (V : Nat) : Nat := dN f V * 2 ^ fn f + keptN f V + (growB mode neg (keptN f V) (catN f V)).toNat

/-- The greatest number's bits. -/
def greN (f : Int) : Nat := (topx f * hid f - 1).toNat

/-- Is the greatest one what is beyond it? -/
def inB (mode : Int) (neg : Bool) : Bool := mode == 1 || (mode == 2 && neg) || (mode == 3 && !neg)

def magN (f mode : Int) (neg : Bool) (V : Nat) : Nat := if plcN f mode neg V ≤ greN f then plcN f mode neg V else if inB mode neg then greN f else greN f + 1

/-- The number; over, under, inexact. -/
def rdV (f mode : Int) (neg : Bool) (V : Nat) : Int := zerI f neg + magN f mode neg V

def rdO (f mode : Int) (neg : Bool) (V : Nat) : Bool := decide (greN f < plcN f mode neg V)

def rdU (f : Int) (V : Nat) : Bool := catN f V != 0 && decide (V < 2 ^ (fn f + luN f))

def rdX (f mode : Int) (neg : Bool) (V : Nat) : Bool := rdO f mode neg V || catN f V != 0

def beyI (f mode : Int) (neg : Bool) : Int := if inB mode neg then greI f neg else infI f neg

/-- Exponents as Pack takes them. -/
def reaI (exp sig : Int) : Int := if sig = 0 then -10000 else clampE exp

/-- Quarters of a unit, what is behind them in the lowest one. -/
def spQ (v n : Int) (more : Bool) : Int := if shO v (n - 2) || more then shV v (n - 2) + 1 - shV v (n - 2) % 2 else shV v (n - 2)

/-- What Pack answers. -/
def PackE (f mode : Int) (neg : Bool) (V : Nat) : Ending := .returned (.tuple #[.int .u32 (rdV f mode neg V), .agg #[.bool false, .bool false, .bool (rdO f mode neg V), .bool (rdU f V), .bool (rdX f mode neg V)]])

theorem packE_is (f mode : Int) (neg : Bool) (V : Nat) : .returned (.tuple #[.int .u32 (rdV f mode neg V), .agg #[.bool false, .bool false, .bool (rdO f mode neg V), .bool (rdU f V), .bool (rdX f mode neg V)]]) = PackE f mode neg V := rfl

/-! Parts of V at a place -/
theorem or_one64 (q : Int) (h0 : 0 ≤ q) (h1 : q ≤ 18446744073709551615) : bits .or .u64 q 1 = q + 1 - q % 2 := by
  rcases (show q % 2 = 0 ∨ q % 2 = 1 by omega) with h | h
  · rw [or_u64_sum q 1 (by decide) (by decide) h0 h h1]; omega
  · have e : q = bits .or .u64 (q - 1) 1 := by rw [or_u64_sum (q - 1) 1 (by decide) (by decide) (by omega) (by omega) (by omega)]; omega
    rw [u64_or q 1 h0 (by omega) (by omega) (by omega)]
    rw [u64_or (q - 1) 1 (by omega) (by omega) (by omega) (by omega)] at e
    have e2 : q.toNat = (q - 1).toNat ||| (1 : Int).toNat := by omega
    rw [e2, Nat.or_assoc, Nat.or_self, ← e2]; omega

theorem spQ_bd (v n : Int) (more : Bool) (h0 : 0 ≤ v) (h1 : v ≤ 18446744073709551615) : 0 ≤ spQ v n more ∧ spQ v n more ≤ 18446744073709551615 := by
  have := shV_bd v (n - 2) h0 h1
  unfold spQ; split <;> omega

theorem clamp_bd (e : Int) : -10000 ≤ clampE e ∧ clampE e ≤ 10000 := by unfold clampE; (repeat' split) <;> omega

theorem p2 (n : Nat) : 0 < 2 ^ n := Nat.pow_pos (by decide)

/-- V's quarters tell its units and what is left. -/
theorem quarters (V j : Nat) : V / 2 ^ (j + 2) = V / 2 ^ j / 4 ∧
    (if V % 2 ^ j ≠ 0 ∧ V / 2 ^ j % 2 = 0 then V / 2 ^ j % 4 + 1 else V / 2 ^ j % 4) = catU (j + 2) V := by
  have hT := p2 j
  have e : (2 : Nat) ^ (j + 2) = 2 ^ j * 4 := by rw [Nat.pow_add]
  refine ⟨by rw [e, Nat.div_div_eq_div_mul], ?_⟩
  unfold catU
  rw [e, Nat.mod_mul]
  have ht := Nat.mod_lt V hT
  generalize V % 2 ^ j = t at *
  generalize hQ : V / 2 ^ j = Q at *
  generalize (2 : Nat) ^ j = T at *
  have h4 : Q % 4 = 0 ∨ Q % 4 = 1 ∨ Q % 4 = 2 ∨ Q % 4 = 3 := by omega
  rcases h4 with h | h | h | h <;> rw [h] <;> (repeat' split) <;> omega

theorem halves (V j : Nat) : V / 2 ^ (j + 1) = V / 2 ^ j / 2 ∧
    (if V % 2 ^ j ≠ 0 then 1 + 2 * (V / 2 ^ j % 2) else 2 * (V / 2 ^ j % 2)) = catU (j + 1) V := by
  have hT := p2 j
  have e : (2 : Nat) ^ (j + 1) = 2 ^ j * 2 := by rw [Nat.pow_add]
  refine ⟨by rw [e, Nat.div_div_eq_div_mul], ?_⟩
  unfold catU
  rw [e, Nat.mod_mul]
  have ht := Nat.mod_lt V hT
  generalize V % 2 ^ j = t at *
  generalize hQ : V / 2 ^ j = Q at *
  generalize (2 : Nat) ^ j = T at *
  have h4 : Q % 2 = 0 ∨ Q % 2 = 1 := by omega
  rcases h4 with h | h <;> rw [h] <;> (repeat' split) <;> omega

/-- What moves out of sig at a place is what V has there. -/
theorem at_right (X E m k : Nat) (hE : 1 ≤ E) (hm : m ≤ 1) :
    (X * 2 ^ E + m) / 2 ^ (E + k) = X / 2 ^ k ∧ ((X * 2 ^ E + m) % 2 ^ (E + k) ≠ 0 ↔ X % 2 ^ k ≠ 0 ∨ m ≠ 0) := by
  have h2 : 2 ≤ 2 ^ E := Nat.pow_le_pow_right (n := 2) (by decide) hE
  have hp := p2 E
  have e1 : (X * 2 ^ E + m) / 2 ^ E = X := by rw [Nat.mul_comm, Nat.mul_add_div hp, Nat.div_eq_of_lt (by omega), Nat.add_zero]
  have e2 : (X * 2 ^ E + m) % 2 ^ E = m := by rw [Nat.mul_comm, Nat.mul_add_mod, Nat.mod_eq_of_lt (by omega)]
  rw [Nat.pow_add, Nat.mod_mul, ← Nat.div_div_eq_div_mul, e1, e2]
  refine ⟨rfl, ?_⟩
  have : 2 ^ E * (X % 2 ^ k) = 0 ↔ X % 2 ^ k = 0 := by rw [Nat.mul_eq_zero]; omega
  omega

theorem at_left (X E m k : Nat) (hk : k < E) (hm : m ≤ 1) :
    (X * 2 ^ E + m) / 2 ^ (E - k) = X * 2 ^ k ∧ ((X * 2 ^ E + m) % 2 ^ (E - k) ≠ 0 ↔ m ≠ 0) := by
  have h2 : 2 ≤ 2 ^ (E - k) := Nat.pow_le_pow_right (n := 2) (by decide) (show 1 ≤ E - k by omega)
  have hp := p2 (E - k)
  have e : X * 2 ^ E = 2 ^ (E - k) * (X * 2 ^ k) := by
    rw [show E = (E - k) + k by omega, Nat.pow_add, show E - k + k - k = E - k by omega]; grind
  rw [e]
  exact ⟨by rw [Nat.mul_add_div hp, Nat.div_eq_of_lt (by omega), Nat.add_zero], by rw [Nat.mul_add_mod, Nat.mod_eq_of_lt (by omega)]⟩

theorem val_log (X E m : Nat) (hE : 1 ≤ E) (hm : m ≤ 1) (hX : X ≠ 0) : (X * 2 ^ E + m).log2 = X.log2 + E := by
  have h2 : 2 ≤ 2 ^ E := Nat.pow_le_pow_right (n := 2) (by decide) hE
  have a := Nat.log2_self_le hX
  have b : X < 2 ^ (X.log2 + 1) := Nat.lt_log2_self
  have c : X * 2 ^ E + 2 ^ E ≤ 2 ^ (X.log2 + 1 + E) := by
    rw [Nat.pow_add _ _ E, ← Nat.succ_mul]; exact Nat.mul_le_mul_right _ b
  have d : 2 ^ (X.log2 + E) ≤ X * 2 ^ E := by rw [Nat.pow_add]; exact Nat.mul_le_mul_right _ a
  have g := p2 (X.log2 + E)
  rw [Nat.log2_eq_iff (by omega)]
  exact ⟨by omega, by rw [show X.log2 + E + 1 = X.log2 + 1 + E by omega]; omega⟩

theorem len_log (v : Int) (h : 0 < v) : lenI v = v.toNat.log2 + 1 := by
  unfold lenI bitLen
  rw [if_neg (by omega)]; omega

/-! What becomes of a number -/
theorem mag_le (f mode : Int) (neg : Bool) (V : Nat) : magN f mode neg V ≤ greN f + 1 := by
  unfold magN; (repeat' split) <;> omega

theorem cat_zero (f : Int) : catN f 0 = 0 := by unfold catN catU; simp

theorem kept_zero (f : Int) : keptN f 0 = 0 := by unfold keptN; simp

theorem d_zero (f : Int) : dN f 0 = 0 := by unfold dN; simp

theorem grow_zero (mode : Int) (neg : Bool) (k : Nat) : growB mode neg k 0 = false := by unfold growB; (repeat' split) <;> simp

theorem plc_zero (f mode : Int) (neg : Bool) : plcN f mode neg 0 = 0 := by unfold plcN; rw [cat_zero, kept_zero, d_zero, grow_zero]; simp

theorem rd_zero (f mode : Int) (neg : Bool) : rdV f mode neg 0 = zerI f neg ∧ rdO f mode neg 0 = false ∧ rdU f 0 = false ∧ rdX f mode neg 0 = false := by
  have h := plc_zero f mode neg
  have c := cat_zero f
  refine ⟨?_, ?_, ?_, ?_⟩
  · unfold rdV magN; rw [h, if_pos (by omega)]; simp
  · unfold rdO; rw [h]; simp
  · unfold rdU; rw [c]; simp
  · unfold rdX rdO; rw [h, c]; simp

theorem hid_fn (f : Int) : hid f = ((2 ^ fn f : Nat) : Int) := by
  unfold hid fn; (repeat' split) <;> rfl

theorem fn_bd (f : Int) : 7 ≤ fn f ∧ fn f ≤ 23 := by unfold fn; (repeat' split) <;> decide

theorem lst_bd (f : Int) : -149 ≤ lst f ∧ lst f ≤ -24 := by unfold lst; (repeat' split) <;> decide

theorem lu_is (f : Int) : (luN f : Int) = lst f + 10100 := by have := lst_bd f; unfold luN; omega

/-- kept is below two hidden ones, and from one on where the unit isn't the least. -/
theorem kept_bd (f : Int) (V : Nat) : keptN f V < 2 ^ (fn f + 1) ∧ (dN f V ≠ 0 → 2 ^ fn f ≤ keptN f V) := by
  unfold keptN
  have a : V < 2 ^ (V.log2 + 1) := Nat.lt_log2_self
  constructor
  · rw [Nat.div_lt_iff_lt_mul (p2 _), ← Nat.pow_add]
    refine Nat.lt_of_lt_of_le a (Nat.pow_le_pow_right (by decide) ?_)
    unfold dN; omega
  · intro h
    have hd : dN f V = V.log2 - (fn f + luN f) := rfl
    have hV : V ≠ 0 := by rintro rfl; exact h (d_zero f)
    rw [Nat.le_div_iff_mul_le (p2 _), ← Nat.pow_add]
    refine Nat.le_trans (Nat.pow_le_pow_right (by decide) ?_) (Nat.log2_self_le hV)
    omega

/-- Below the least normal number. -/
theorem low_iff (f : Int) (V : Nat) (hV : V ≠ 0) : V < 2 ^ (fn f + luN f) ↔ V.log2 < fn f + luN f := (Nat.log2_lt hV).symm

theorem low_plc (f mode : Int) (neg : Bool) (V : Nat) (h : V < 2 ^ (fn f + luN f)) : dN f V = 0 ∧ keptN f V < 2 ^ fn f := by
  have hd : dN f V = 0 := by
    by_cases hV : V = 0
    · subst hV; exact d_zero f
    · have := (low_iff f V hV).1 h; unfold dN; omega
  refine ⟨hd, ?_⟩
  unfold keptN
  rw [hd, Nat.add_zero, Nat.div_lt_iff_lt_mul (p2 _), ← Nat.pow_add]; exact h

theorem gre_is (f : Int) : (greN f : Int) = topx f * hid f - 1 := by
  have h1 := topx_pos f
  have h2 := hid_pos f
  have : 0 < topx f * hid f := Int.mul_pos h1 h2
  unfold greN; omega

theorem gre_le (f : Int) : 2 ^ fn f ≤ greN f ∧ greN f + 1 < 2147483648 := by
  unfold greN topx hid fn
  (repeat' split) <;> decide

theorem gre_sgb (f : Int) : (greN f : Int) + 1 < sgb f := by
  rcases fmt_cases f with ⟨rfl, hf⟩ | ⟨rfl, hf⟩ | ⟨⟨c0, c1⟩, hf⟩ <;> obtain ⟨e1, e2, e3, e4, e5, e6, e7, e8, e9⟩ := hf <;> rw [gre_is, e3, e4, e5] <;> decide

theorem under_not_over (f mode : Int) (neg : Bool) (V : Nat) (h : V < 2 ^ (fn f + luN f)) : rdO f mode neg V = false := by
  obtain ⟨a, b⟩ := low_plc f mode neg V h
  have g := gre_le f
  have : (growB mode neg (keptN f V) (catN f V)).toNat ≤ 1 := Bool.toNat_le _
  unfold rdO plcN
  rw [a]
  simp; omega

theorem rdV_bd (f mode : Int) (neg : Bool) (V : Nat) : 0 ≤ rdV f mode neg V ∧ rdV f mode neg V ≤ msk f := by
  have h := mag_le f mode neg V
  have g := gre_sgb f
  unfold rdV
  have : zerI f neg + sgb f ≤ msk f + 1 ∧ 0 ≤ zerI f neg := by
    unfold zerI msk sgb; cases neg <;> (repeat' split) <;> simp <;> omega
  omega

theorem or_comm32 (a b : Int) : bits .or .u32 a b = bits .or .u32 b a := by
  simp only [bits]; rw [BitVec.or_comm]
/-! What the program's shifts find of V -/
theorem sh_val (X E j : Nat) (k : Int) (more : Bool) (hE : 100 ≤ E) (hj : (j : Int) = E + k) (hk : -99 ≤ k) (hX : X < 18446744073709551616) (hno : k < 0 → (X : Int) * 2 ^ (-k).toNat < 18446744073709551616) :
    shV X k = ((X * 2 ^ E + more.toNat) / 2 ^ j : Nat) ∧ ((shO X k || more) = true ↔ (X * 2 ^ E + more.toNat) % 2 ^ j ≠ 0) := by
  have hm : more.toNat ≤ 1 := Bool.toNat_le _
  have hmm : more.toNat ≠ 0 ↔ more = true := by cases more <;> simp
  by_cases c : k < 0
  · obtain ⟨a, b⟩ := at_left X E more.toNat (-k).toNat (by omega) hm
    rw [show j = E - (-k).toNat by omega, b, a, hmm]
    have h := hno c
    unfold shV shO
    rw [if_pos c, if_pos c]
    rw [pow2_cast, ← Int.natCast_mul] at h ⊢
    refine ⟨by omega, ?_⟩
    rw [decide_eq_false (by omega)]; simp
  · obtain ⟨a, b⟩ := at_right X E more.toNat k.toNat (by omega) hm
    rw [show j = E + k.toNat by omega, b, a, hmm]
    unfold shV shO
    rw [if_neg c, if_neg c, pow2_cast, ← Int.natCast_ediv, ← Int.natCast_emod]
    refine ⟨rfl, ?_⟩
    have e : ((X % 2 ^ k.toNat : Nat) : Int) ≠ 0 ↔ X % 2 ^ k.toNat ≠ 0 := by omega
    rw [Bool.or_eq_true, decide_eq_true_eq, e]

theorem spQ_val (X E j : Nat) (k : Int) (more : Bool) (hE : 100 ≤ E) (hj : (j : Int) + 2 = E + k) (hk : -97 ≤ k) (hX : X < 18446744073709551616) (hno : k - 2 < 0 → (X : Int) * 2 ^ (-(k - 2)).toNat < 18446744073709551616) :
    spQ X k more / 4 = ((X * 2 ^ E + more.toNat) / 2 ^ (j + 2) : Nat) ∧ spQ X k more % 4 = (catU (j + 2) (X * 2 ^ E + more.toNat) : Nat) := by
  obtain ⟨a, b⟩ := sh_val X E j (k - 2) more hE (by omega) (by omega) hX hno
  obtain ⟨c, d⟩ := quarters (X * 2 ^ E + more.toNat) j
  generalize X * 2 ^ E + more.toNat = V at *
  rw [c, ← d]
  unfold spQ
  rw [a]
  by_cases h : (shO (X : Int) (k - 2) || more) = true
  · rw [if_pos h]
    have hv := b.1 h
    by_cases e : V / 2 ^ j % 2 = 0
    · rw [if_pos ⟨hv, e⟩]; omega
    · rw [if_neg (by omega)]; omega
  · rw [if_neg h]
    have hv : ¬ V % 2 ^ j ≠ 0 := fun x => h (b.2 x)
    rw [if_neg (by omega)]; omega

/-- All that Pack reckons, of V. -/
theorem pack_val (f exp sig R L U : Int) (more : Bool) (s0 : 0 ≤ sig) (s1 : sig ≤ 18446744073709551615) (cz : 0 < sig ∨ more = true) (hR : reaI exp sig = R) (hL : lenI sig = L)
    (hU : (R + L - 1 - fn f < lst f ∧ U = lst f) ∨ (lst f ≤ R + L - 1 - fn f ∧ U = R + L - 1 - fn f)) :
    (keptN f (valN (clampE exp) sig more) : Int) = spQ sig (U - R) more / 4 ∧ (catN f (valN (clampE exp) sig more) : Int) = spQ sig (U - R) more % 4
      ∧ (dN f (valN (clampE exp) sig more) : Int) = U - lst f ∧ (valN (clampE exp) sig more < 2 ^ (fn f + luN f) ↔ R + L - 1 - fn f < lst f) ∧ valN (clampE exp) sig more ≠ 0 := by
  have hc := clamp_bd exp
  have hf := fn_bd f
  have hl := lst_bd f
  have hlu := lu_is f
  by_cases cs : sig = 0
  · subst cs
    have hm : more = true := cz.resolve_left (by omega)
    subst hm
    have hR' : R = -10000 := by rw [← hR]; rfl
    have hL' : L = 0 := by rw [← hL]; exact len_zero
    subst hR' hL'
    have hV : valN (clampE exp) 0 true = 1 := by unfold valN; simp
    have hg : Nat.log2 1 = 0 := (Nat.log2_eq_iff (by decide)).2 (by decide)
    have hd : dN f 1 = 0 := by unfold dN; rw [hg]; omega
    have h4 : 2 ^ 2 ≤ 2 ^ (luN f) := Nat.pow_le_pow_right (by decide) (by omega)
    have h5 : 2 ^ 2 ≤ 2 ^ (fn f + luN f) := Nat.pow_le_pow_right (by decide) (by omega)
    have hU' : U = lst f := by omega
    subst hU'
    have hs : shV 0 (lst f - -10000 - 2) = 0 := by unfold shV; rw [if_neg (by omega)]; simp
    have hq : spQ 0 (lst f - -10000) true = 1 := by unfold spQ; rw [hs]; simp
    rw [hV, hq]
    refine ⟨?_, ?_, by rw [hd]; omega, by omega, by decide⟩
    · unfold keptN; rw [hd, Nat.add_zero, Nat.div_eq_of_lt (by omega)]; decide
    · unfold catN catU; rw [hd, Nat.add_zero, Nat.mod_eq_of_lt (by omega), if_neg (by decide), if_pos (by omega)]; decide
  · obtain ⟨X, rfl⟩ := Int.eq_ofNat_of_zero_le s0
    have hR' : R = clampE exp := by rw [← hR]; unfold reaI; rw [if_neg cs]
    subst hR'
    have hX : X ≠ 0 := by omega
    have hL' := len_log (X : Int) (by omega)
    rw [hL, Int.toNat_natCast] at hL'
    subst hL'
    have hV : valN (clampE exp) X more = X * 2 ^ (clampE exp + 10100).toNat + more.toNat := by unfold valN; rw [Int.toNat_natCast]
    rw [hV]
    have hE : ((clampE exp + 10100).toNat : Int) = clampE exp + 10100 := by omega
    generalize (clampE exp + 10100).toNat = E at *
    have hm : more.toNat ≤ 1 := Bool.toNat_le _
    have hlog := val_log X E more.toNat (by omega) hm hX
    have hd : (dN f (X * 2 ^ E + more.toNat) : Int) = U - lst f := by unfold dN; rw [hlog]; omega
    have hV0 : X * 2 ^ E + more.toNat ≠ 0 := by
      have := p2 E
      have : 0 < X * 2 ^ E := Nat.mul_pos (by omega) this
      omega
    have hx := Nat.lt_log2_self (n := X)
    have hno : U - clampE exp - 2 < 0 → (X : Int) * 2 ^ (-(U - clampE exp - 2)).toNat < 18446744073709551616 := by
      intro h
      rw [pow2_cast, ← Int.natCast_mul]
      have e : X * 2 ^ (-(U - clampE exp - 2)).toNat < 2 ^ (X.log2 + 1) * 2 ^ (-(U - clampE exp - 2)).toNat := Nat.mul_lt_mul_of_pos_right hx (p2 _)
      rw [← Nat.pow_add] at e
      have : 2 ^ (X.log2 + 1 + (-(U - clampE exp - 2)).toNat) ≤ 2 ^ 64 := Nat.pow_le_pow_right (by decide) (by omega)
      omega
    obtain ⟨a, b⟩ := spQ_val X E (luN f + dN f (X * 2 ^ E + more.toNat) - 2) (U - clampE exp) more (by omega) (by omega) (by omega) (by omega) hno
    rw [show luN f + dN f (X * 2 ^ E + more.toNat) - 2 + 2 = luN f + dN f (X * 2 ^ E + more.toNat) by omega] at a b
    refine ⟨a.symm, b.symm, hd, ?_, hV0⟩
    rw [low_iff f _ hV0, hlog]
    omega

theorem ret_pk {a b : Int} {o u x o' u' x' : Bool} (h : a = b) (ho : o = o') (hu : u = u') (hx : x = x') :
    Ending.returned (.tuple #[.int .u32 a, .agg #[.bool false, .bool false, .bool o, .bool u, .bool x]]) = .returned (.tuple #[.int .u32 b, .agg #[.bool false, .bool false, .bool o', .bool u', .bool x']]) := by rw [h, ho, hu, hx]

theorem gre_int (f : Int) : greI f false = greN f := by rw [gre_is]; unfold greI infI zerI; simp

theorem gre_wrap (f : Int) : IntKind.u64.wrap (greI f false) = greN f := by have := gre_le f; rw [gre_int, IntKind.wrap_u64]; omega

theorem gre_neg (f : Int) (neg : Bool) : greI f neg = zerI f neg + greN f ∧ infI f neg = zerI f neg + greN f + 1 := by
  rw [gre_is]; unfold greI infI; omega

/-- Where V's number stands, from what the program reckons. -/
theorem plc_is (f mode : Int) (neg : Bool) (V : Nat) (d K C : Int) (hd : (dN f V : Int) = d) (hK : (keptN f V : Int) = K) (hC : (catN f V : Int) = C) :
    (plcN f mode neg V : Int) = d * hid f + K + (growB mode neg K.toNat C.toNat).toNat := by
  unfold plcN
  rw [← hd, ← hK, ← hC, hid_fn]
  simp

theorem pack_over (f mode : Int) (neg : Bool) (V : Nat) (P : Int) (hp : (plcN f mode neg V : Int) = P) (h : (greN f : Int) < P) :
    beyI f mode neg = rdV f mode neg V ∧ true = rdO f mode neg V ∧ false = rdU f V ∧ true = rdX f mode neg V := by
  obtain ⟨g1, g2⟩ := gre_neg f neg
  have ho : rdO f mode neg V = true := by unfold rdO; rw [decide_eq_true_eq]; omega
  refine ⟨?_, ho.symm, ?_, by unfold rdX; rw [ho]; rfl⟩
  · have hn : ¬ plcN f mode neg V ≤ greN f := by omega
    by_cases hi : inB mode neg = true
    · simp only [rdV, magN, beyI, if_neg hn, if_pos hi]; omega
    · simp only [rdV, magN, beyI, if_neg hn, if_neg hi]; omega
  · cases hu : rdU f V
    · rfl
    · unfold rdU at hu
      rw [Bool.and_eq_true, decide_eq_true_eq] at hu
      rw [under_not_over f mode neg V hu.2] at ho; exact absurd ho (by decide)

theorem pack_in (f mode : Int) (neg : Bool) (V : Nat) (P C N : Int) (hp : (plcN f mode neg V : Int) = P) (h : P ≤ (greN f : Int)) (hC : (catN f V : Int) = C) :
    bits .or .u32 (zerI f neg) (IntKind.u32.wrap P) = rdV f mode neg V ∧ false = rdO f mode neg V ∧ (C != 0) = rdX f mode neg V := by
  have ho : rdO f mode neg V = false := by unfold rdO; rw [decide_eq_false_iff_not]; omega
  have hg := gre_sgb f
  have hs := gre_le f
  refine ⟨?_, ho.symm, ?_⟩
  · rw [IntKind.wrap_u32, show P % 4294967296 = P by omega, or_comm32, or_zer f P neg (by omega) (by omega)]
    unfold rdV magN
    rw [if_pos (by omega)]; omega
  · unfold rdX
    rw [ho, Bool.false_or, Bool.eq_iff_iff, bne_iff_ne, bne_iff_ne]; omega

theorem under_is (f : Int) (V : Nat) (C N : Int) (hC : (catN f V : Int) = C) (hl : V < 2 ^ (fn f + luN f) ↔ N < lst f) : ((C != 0) && decide (N < lst f)) = rdU f V := by
  unfold rdU
  rw [Bool.eq_iff_iff, Bool.and_eq_true, Bool.and_eq_true, bne_iff_ne, bne_iff_ne, decide_eq_true_eq, decide_eq_true_eq, hl]; omega
/-! The ways through Pack, as the walk prints them -/
def AtQ (f : Int) (V : Nat) (D Q N : Int) : Prop := (dN f V : Int) * hid f = D ∧ (keptN f V : Int) = Q / 4 ∧ (catN f V : Int) = Q % 4 ∧ (V < 2 ^ (fn f + luN f) ↔ N < lst f)

theorem atQ_plc {f mode : Int} {neg g : Bool} {V : Nat} {D Q N : Int} (h : AtQ f V D Q N) (hg : growB mode neg (Q / 4).toNat (Q % 4).toNat = g) :
    (plcN f mode neg V : Int) = D + Q / 4 + g.toNat := by
  obtain ⟨a, b, c, d⟩ := h
  rw [plc_is f mode neg V _ _ _ rfl b c, a, hg]

theorem way_over {f mode : Int} {neg : Bool} {V : Nat} {D Q N : Int} (g : Bool) (h : AtQ f V D Q N) (hg : growB mode neg (Q / 4).toNat (Q % 4).toNat = g)
    (ho : IntKind.u64.wrap (greI f false) < D + Q / 4 + g.toNat) :
    beyI f mode neg = rdV f mode neg V ∧ rdO f mode neg V = true ∧ rdU f V = false ∧ rdX f mode neg V = true := by
  have hp := atQ_plc h hg
  rw [gre_wrap] at ho
  obtain ⟨a, b, c, d⟩ := pack_over f mode neg V _ hp ho
  exact ⟨a, b.symm, c.symm, d.symm⟩

theorem way_in {f mode : Int} {neg : Bool} {V : Nat} {D Q N P : Int} (g : Bool) (h : AtQ f V D Q N) (hg : growB mode neg (Q / 4).toNat (Q % 4).toNat = g)
    (hP : P = D + Q / 4 + g.toNat) (ho : P ≤ IntKind.u64.wrap (greI f false)) :
    bits .or .u32 (zerI f neg) (P % 4294967296) = rdV f mode neg V ∧ rdO f mode neg V = false ∧ ((Q % 4 != 0) && decide (N < lst f)) = rdU f V ∧ (Q % 4 != 0) = rdX f mode neg V := by
  have hp := atQ_plc h hg
  rw [gre_wrap] at ho
  rw [← hP] at hp
  obtain ⟨a, b, c⟩ := pack_in f mode neg V P (Q % 4) N hp ho h.2.2.1
  rw [IntKind.wrap_u32] at a
  exact ⟨a, b.symm, under_is f V _ N h.2.2.1 h.2.2.2, c⟩

theorem way_in0 {f mode : Int} {neg : Bool} {V : Nat} {D Q N P : Int} (g : Bool) (h : AtQ f V D Q N) (hg : growB mode neg (Q / 4).toNat (Q % 4).toNat = g)
    (hP : P = D + Q / 4 + g.toNat) (ho : P ≤ IntKind.u64.wrap (greI f false)) (hc : Q % 4 = 0) :
    bits .or .u32 (zerI f neg) (P % 4294967296) = rdV f mode neg V ∧ rdO f mode neg V = false ∧ rdU f V = false ∧ rdX f mode neg V = false := by
  obtain ⟨a, b, c, d⟩ := way_in g h hg hP ho
  rw [hc] at c d
  exact ⟨a, b, c.symm, d.symm⟩

theorem way_inL {f mode : Int} {neg : Bool} {V : Nat} {D Q N P : Int} (g : Bool) (h : AtQ f V D Q N) (hg : growB mode neg (Q / 4).toNat (Q % 4).toNat = g)
    (hP : P = D + Q / 4 + g.toNat) (ho : P ≤ IntKind.u64.wrap (greI f false)) (hN : N < lst f) :
    bits .or .u32 (zerI f neg) (P % 4294967296) = rdV f mode neg V ∧ rdO f mode neg V = false ∧ (Q % 4 != 0) = rdU f V ∧ (Q % 4 != 0) = rdX f mode neg V := by
  obtain ⟨a, b, c, d⟩ := way_in g h hg hP ho
  rw [decide_eq_true hN, Bool.and_true] at c
  exact ⟨a, b, c, d⟩

/-- The high unit's place among the bits. -/
theorem high_bits (f R L : Int) (hr1 : R ≤ 10000) (hl1 : L ≤ 64) (c : lst f ≤ R + L - 1 - fn f) :
    IntKind.u64.wrap ((R + L - 1 - fn f - lst f) * 2 ^ fn f) = (R + L - 1 - fn f - lst f) * hid f ∧ 0 ≤ (R + L - 1 - fn f - lst f) * hid f ∧ (R + L - 1 - fn f - lst f) * hid f ≤ 1000000000000 := by
  have hh : hid f = 2 ^ fn f := by rw [hid_fn, pow2_cast]
  have h1 := hid_pos f
  have h2 : hid f ≤ 8388608 := by unfold hid; (repeat' split) <;> decide
  have h3 := lst_bd f
  have a : 0 ≤ (R + L - 1 - fn f - lst f) * hid f := Int.mul_nonneg (by omega) (by omega)
  have b : (R + L - 1 - fn f - lst f) * hid f ≤ 10300 * 8388608 := Int.mul_le_mul (by omega) h2 (by omega) (by omega)
  rw [← hh]
  exact ⟨u64w _ a (by omega), a, by omega⟩
end Go.Proofs.Ytfdfbgmnfiiipaa
