/- The three formats as plain numbers (no program here). -/
import Derived.Test.YtfdfbgmnfiiipaaMath
import Derived.WalkKit
import Derived.ProofKit
namespace Go.Proofs.Ytfdfbgmnfiiipaa
open Go.RowKit
set_option linter.unusedVariables false

/-- Bits of an exponent, of a fraction. -/
def fe (f : Int) : Nat := if f = 0 then 5 else 8

def fn (f : Int) : Nat := if f = 0 then 10 else if f = 1 then 7 else 23

/-- 2 to the fraction's bits; the exponents' top; the sign's place; the least number's exponent; the quiet bit; all bits. -/
def hid (f : Int) : Int := if f = 0 then 1024 else if f = 1 then 128 else 8388608

def topx (f : Int) : Int := if f = 0 then 31 else 255

def sgb (f : Int) : Int := if f = 0 then 32768 else if f = 1 then 32768 else 2147483648

def lst (f : Int) : Int := if f = 0 then -24 else if f = 1 then -133 else -149

def qui (f : Int) : Int := if f = 0 then 512 else if f = 1 then 64 else 4194304

def msk (f : Int) : Int := if f = 0 then 65535 else if f = 1 then 65535 else 4294967295

def bia (f : Int) : Int := if f = 0 then 15 else 127

/-- A number's parts. -/
def fX (f v : Int) : Int := v / hid f % (topx f + 1)

def fF (f v : Int) : Int := v % hid f

def fS (f v : Int) : Bool := v / sgb f % 2 == 1

def clsI (f v : Int) : Int :=
  if fX f v = 0 then (if fF f v = 0 then 0 else 1)
  else if fX f v < topx f then 2
  else if fF f v = 0 then 3
  else if fF f v < qui f then 5 else 4

def finI (f v : Int) : Bool := decide (fX f v < topx f)

def unE (f v : Int) : Int :=
  if fX f v = topx f then 0 else if fX f v = 0 then lst f else lst f + fX f v - 1

def unM (f v : Int) : Int :=
  if fX f v = topx f then 0 else if fX f v = 0 then fF f v else fF f v + hid f

def zerI (f : Int) (neg : Bool) : Int := if neg then sgb f else 0

def infI (f : Int) (neg : Bool) : Int := zerI f neg + topx f * hid f

def greI (f : Int) (neg : Bool) : Int := infI f neg - 1

def nanI (f : Int) : Int := infI f false + qui f

/-- All that is told of one format. -/
def FmtIs (f : Int) (e n : Nat) (h t s l q m b : Int) : Prop :=
  fe f = e ∧ fn f = n ∧ hid f = h ∧ topx f = t ∧ sgb f = s ∧ lst f = l ∧ qui f = q ∧ msk f = m ∧ bia f = b

theorem fmt_cases (f : Int) :
    (f = 0 ∧ FmtIs f 5 10 1024 31 32768 (-24) 512 65535 15) ∨ (f = 1 ∧ FmtIs f 8 7 128 255 32768 (-133) 64 65535 127)
      ∨ ((¬ f = 0 ∧ ¬ f = 1) ∧ FmtIs f 8 23 8388608 255 2147483648 (-149) 4194304 4294967295 127) := by
  by_cases h0 : f = 0
  · subst h0; exact .inl ⟨rfl, by unfold FmtIs; decide⟩
  · by_cases h1 : f = 1
    · subst h1; exact .inr (.inl ⟨rfl, by unfold FmtIs; decide⟩)
    · exact .inr (.inr ⟨⟨h0, h1⟩, by simp [FmtIs, fe, fn, hid, topx, sgb, lst, qui, msk, bia, h0, h1]⟩)

theorem ret_unp {j k : IntKind} {p q : Bool} {a b c d : Int} (g : p = q) (h : a = b) (i : c = d) : Ending.returned (.tuple #[.bool p, .int j a, .int k c]) = .returned (.tuple #[.bool q, .int j b, .int k d]) := by rw [g, h, i]
/-! Bits of words of 32 -/
theorem and32 (v : Int) (n : Nat) {m p : Int} (h0 : 0 ≤ v) (h1 : v ≤ 4294967295) (hn : n ≤ 32) (hm : m = 2 ^ n - 1) (hp : p = 2 ^ n) : bits .and .u32 v m = v % p := by
  subst hm hp
  have hp := pow2_pos n
  have hm : (2 : Int) ^ n ≤ 4294967296 := pow2_le (b := 32) hn
  rw [u32_and v _ h0 (by omega) (by omega) (by omega)]
  obtain ⟨V, rfl⟩ := Int.eq_ofNat_of_zero_le h0
  rw [pow2_cast n]
  have : (((2 ^ n : Nat) : Int) - 1).toNat = 2 ^ n - 1 := by omega
  rw [this, Int.toNat_natCast, Nat.and_two_pow_sub_one_eq_mod, Int.natCast_emod]

theorem or32 (hi lo : Int) (k : Nat) {x : Int} (h0 : 0 ≤ lo) (h1 : lo < 2 ^ k) (h2 : 0 ≤ hi) (hx : x = hi * 2 ^ k) (h3 : x + lo ≤ 4294967295) : bits .or .u32 x lo = x + lo := by
  subst hx
  have hp := pow2_pos k
  have hh : 0 ≤ hi * 2 ^ k := Int.mul_nonneg h2 (Int.le_of_lt hp)
  rw [u32_or _ _ hh (by omega) h0 (by omega)]
  obtain ⟨A, rfl⟩ := Int.eq_ofNat_of_zero_le h2
  obtain ⟨B, rfl⟩ := Int.eq_ofNat_of_zero_le h0
  rw [pow2_cast] at h1
  rw [pow2_cast, ← Int.natCast_mul, Int.toNat_natCast, Int.toNat_natCast, Nat.mul_comm, ← Nat.two_pow_add_eq_or_of_lt (Int.ofNat_lt.1 h1), Int.natCast_add]

theorem or32' (hi lo : Int) (k : Nat) {x : Int} (h0 : 0 ≤ lo) (h1 : lo < 2 ^ k) (h2 : 0 ≤ hi) (hx : x = hi * 2 ^ k) (h3 : x + lo ≤ 4294967295) : bits .or .u32 lo x = x + lo := by
  subst hx
  have hp := pow2_pos k
  have hh : 0 ≤ hi * 2 ^ k := Int.mul_nonneg h2 (Int.le_of_lt hp)
  rw [u32_or _ _ h0 (by omega) hh (by omega)]
  obtain ⟨A, rfl⟩ := Int.eq_ofNat_of_zero_le h2
  obtain ⟨B, rfl⟩ := Int.eq_ofNat_of_zero_le h0
  rw [pow2_cast] at h1
  rw [pow2_cast, ← Int.natCast_mul, Int.toNat_natCast, Int.toNat_natCast, Nat.or_comm, Nat.mul_comm, ← Nat.two_pow_add_eq_or_of_lt (Int.ofNat_lt.1 h1), Int.natCast_add]

theorem nat_and_pow (V k : Nat) : V &&& 2 ^ k = V / 2 ^ k % 2 * 2 ^ k := by
  have h : V.testBit k = decide (V / 2 ^ k % 2 = 1) := Nat.testBit_eq_decide_div_mod_eq
  apply Nat.eq_of_testBit_eq
  intro i
  rcases Nat.mod_two_eq_zero_or_one (V / 2 ^ k) with c | c <;> rw [c] at h ⊢ <;> simp only [Nat.testBit_and, Nat.testBit_two_pow, Nat.zero_mul, Nat.one_mul, Nat.zero_testBit]
  · by_cases e : k = i
    · subst e; simp [h]
    · simp [e]
  · by_cases e : k = i
    · subst e; simp [h]
    · simp [e]

/-- One bit of a word. -/
theorem and_bit32 (v : Int) (k : Nat) {b : Int} (h0 : 0 ≤ v) (h1 : v ≤ 4294967295) (hk : k ≤ 31) (hb : b = 2 ^ k) : bits .and .u32 v b = v / b % 2 * b := by
  subst hb
  have hp := pow2_pos k
  have hm : (2 : Int) ^ k ≤ 2147483648 := pow2_le (b := 31) hk
  rw [u32_and v _ h0 (by omega) (by omega) (by omega)]
  obtain ⟨V, rfl⟩ := Int.eq_ofNat_of_zero_le h0
  rw [pow2_cast k, Int.toNat_natCast, Int.toNat_natCast, nat_and_pow]
  simp

theorem hid_pos (f : Int) : 0 < hid f := by unfold hid; (repeat' split) <;> decide

theorem topx_pos (f : Int) : 0 < topx f := by unfold topx; (repeat' split) <;> decide

theorem fX_bd (f v : Int) : 0 ≤ fX f v ∧ fX f v ≤ topx f := by
  have h := topx_pos f
  unfold fX
  generalize v / hid f = x
  constructor
  · exact Int.emod_nonneg _ (by omega)
  · have := Int.emod_lt_of_pos x (show 0 < topx f + 1 by omega); omega

theorem fF_bd (f v : Int) : 0 ≤ fF f v ∧ fF f v < hid f :=
  ⟨Int.emod_nonneg _ (Int.ne_of_gt (hid_pos f)), Int.emod_lt_of_pos _ (hid_pos f)⟩

theorem neg_code (f v : Int) (k : Nat) {b : Int} (h0 : 0 ≤ v) (h1 : v ≤ 4294967295) (hk : k ≤ 31) (hb : b = 2 ^ k) (hs : sgb f = b) :
    (bits .and .u32 v b != 0) = fS f v := by
  rw [and_bit32 v k h0 h1 hk hb, fS, hs]
  have hp : 0 < b := by rw [hb]; exact pow2_pos k
  rcases Int.emod_two_eq (v / b) with h | h <;> rw [h]
  · simp
  · simp; omega

theorem un_or (f v : Int) (k : Nat) {b : Int} (hb : b = 2 ^ k) (hs : hid f = b) (hk : k ≤ 30) :
    bits .or .u32 (fF f v) b = fF f v + b := by
  have h := fF_bd f v
  have hm : (2 : Int) ^ k ≤ 1073741824 := pow2_le (b := 30) hk
  rw [or32' 1 _ k h.1 (by omega) (by decide) (by omega) (by omega), Int.add_comm]

theorem cls_cases (f v : Int) :
    (clsI f v = 0 ∧ fX f v = 0 ∧ fF f v = 0) ∨ (clsI f v = 1 ∧ fX f v = 0 ∧ 0 < fF f v) ∨ (clsI f v = 2 ∧ 0 < fX f v ∧ fX f v < topx f)
      ∨ (clsI f v = 3 ∧ fX f v = topx f ∧ fF f v = 0) ∨ (clsI f v = 4 ∧ fX f v = topx f ∧ qui f ≤ fF f v) ∨ (clsI f v = 5 ∧ fX f v = topx f ∧ 0 < fF f v ∧ fF f v < qui f) := by
  have h1 := fX_bd f v
  have h2 := fF_bd f v
  have h3 := topx_pos f
  unfold clsI
  (repeat' split) <;> omega

theorem rparts_s (f v : Int) {m b : Int} (n k : Nat) (h0 : 0 ≤ v) (h1 : v ≤ 4294967295) (hn : n ≤ 32) (hm : m = 2 ^ n - 1) (hb : b = 2 ^ k) (hk : n = k + 1) (hs : sgb f = b) :
    (bits .and .u32 v m / b == 1) = fS f v := by
  rw [and32 v n h0 h1 hn hm rfl, fS, hs, hb, hk, Int.pow_succ]
  have hp := pow2_pos k
  generalize (2 : Int) ^ k = B at *
  rw [show v % (B * 2) / B = v / B % 2 from ?_]
  have e := Int.mul_ediv_add_emod v (B * 2)
  have e2 : v / B = v / (B * 2) * 2 + v % (B * 2) / B := by
    have : v = v % (B * 2) + B * (v / (B * 2) * 2) := by rw [Int.mul_comm (v / (B * 2)), ← Int.mul_assoc]; omega
    conv => lhs; rw [this]
    rw [Int.add_mul_ediv_left _ _ (by omega)]; omega
  have b0 := Int.emod_nonneg v (show B * 2 ≠ 0 by omega)
  have b1 := Int.emod_lt_of_pos v (show 0 < B * 2 by omega)
  have b2 : 0 ≤ v % (B * 2) / B := Int.ediv_nonneg b0 (by omega)
  have b3 : v % (B * 2) / B < 2 := Int.ediv_lt_of_lt_mul hp (by omega)
  omega

theorem quiet_drew {P : Program} {f : FuncId} {args : Array Value} {w : World} {n : Nat} {v : Value}
    (h : Calls P f args (w.drewN n) fun e w' => e = .returned v ∧ ∃ m, w' = (w.drewN n).drewN m) : Calls P f args (w.drewN n) fun e w'' => e = .returned v ∧ ∃ m, w'' = w.drewN m :=
  h.mono fun _ _ ⟨he, m, hm⟩ => ⟨he, n + m, by rw [hm, World.drewN_drewN]⟩

theorem un_or64 (f v : Int) (k : Nat) {b : Int} (hb : b = 2 ^ k) (hs : hid f = b) (hk : k ≤ 30) :
    bits .or .u64 (fF f v) b = fF f v + b := by
  have h := fF_bd f v
  have hm : (2 : Int) ^ k ≤ 1073741824 := pow2_le (b := 30) hk
  have := or_low 1 (fF f v) k h.1 (by omega) (by decide) (by omega)
  rw [Int.one_mul, ← hb] at this
  rw [this, Int.add_comm]

theorem fmt3 (f : Int) (h0 : 0 ≤ f) (h1 : f < 3) :
    (f = 0 ∧ FmtIs 0 5 10 1024 31 32768 (-24) 512 65535 15) ∨ (f = 1 ∧ FmtIs 1 8 7 128 255 32768 (-133) 64 65535 127)
      ∨ (f = 2 ∧ FmtIs 2 8 23 8388608 255 2147483648 (-149) 4194304 4294967295 127) := by
  rcases (show f = 0 ∨ f = 1 ∨ f = 2 by omega) with rfl | rfl | rfl
  · exact .inl ⟨rfl, by unfold FmtIs; decide⟩
  · exact .inr (.inl ⟨rfl, by unfold FmtIs; decide⟩)
  · exact .inr (.inr ⟨rfl, by unfold FmtIs; decide⟩)

/-- What a number's exponent says of it. -/
theorem three_ways (f v : Int) :
    (fX f v = topx f ∧ finI f v = false ∧ 3 ≤ clsI f v) ∨ (fX f v = 0 ∧ finI f v = true ∧ unE f v = lst f ∧ unM f v = fF f v)
      ∨ (0 < fX f v ∧ fX f v < topx f ∧ finI f v = true ∧ unE f v = lst f + fX f v - 1 ∧ unM f v = fF f v + hid f) := by
  have h1 := fX_bd f v
  have h3 := topx_pos f
  have h4 := cls_cases f v
  rcases (show fX f v = topx f ∨ fX f v = 0 ∨ (0 < fX f v ∧ fX f v < topx f) by omega) with h | h | ⟨h, h'⟩
  · exact .inl ⟨h, by simp [finI, h], by omega⟩
  · exact .inr (.inl ⟨h, by simp [finI, h]; omega, by simp [unE, h]; omega, by simp [unM, h]; omega⟩)
  · exact .inr (.inr ⟨h, h', by simp [finI]; omega, by unfold unE; rw [if_neg (by omega), if_neg (by omega)], by unfold unM; rw [if_neg (by omega), if_neg (by omega)]⟩)

theorem parts_sum (f x : Int) (h0 : 0 ≤ x) (h1 : x ≤ msk f) : x = zerI f (fS f x) + fX f x * hid f + fF f x := by
  rcases fmt_cases f with ⟨rfl, hf⟩ | ⟨rfl, hf⟩ | ⟨⟨c0, c1⟩, hf⟩ <;> obtain ⟨e1, e2, e3, e4, e5, e6, e7, e8, e9⟩ := hf
  all_goals
    unfold zerI fS fX fF
    rw [e3, e4, e5]
    rw [e8] at h1
    simp only [beq_iff_eq]
    split <;> omega

theorem sgb_pow (f : Int) : (sgb f = 2 ^ 15 ∨ sgb f = 2 ^ 31) := by
  unfold sgb; (repeat' split) <;> decide

theorem or_zer (f y : Int) (neg : Bool) (h0 : 0 ≤ y) (h1 : y < sgb f) : bits .or .u32 y (zerI f neg) = y + zerI f neg := by
  cases neg
  · rw [show zerI f false = 0 from rfl, or32' 0 y 31 h0 (by rcases sgb_pow f with h | h <;> omega) (by decide) (by decide) (by rcases sgb_pow f with h | h <;> omega)]; omega
  · rw [show zerI f true = sgb f from rfl]
    rcases sgb_pow f with h | h <;> rw [h] at h1 ⊢
    · rw [or32' 1 y 15 h0 h1 (by decide) (by decide) (by omega), Int.add_comm]
    · rw [or32' 1 y 31 h0 h1 (by decide) (by decide) (by omega), Int.add_comm]

theorem or_expo (F X b : Int) (k : Nat) {y : Int} (hb : b = 2 ^ k) (h0 : 0 ≤ F) (h1 : F < b) (hx : 0 ≤ X) (hy : y = X * b) (h3 : y + F ≤ 4294967295) : bits .or .u32 F y = y + F := by
  subst hb
  exact or32' X F k h0 h1 hx hy h3

/-! Words with a bit turned, with those above their format's taken off. -/
theorem mask_parts (f v : Int) (h0 : 0 ≤ v) (h1 : v ≤ 4294967295) : bits .and .u32 v (msk f) = zerI f (fS f v) + fX f v * hid f + fF f v := by
  rcases fmt_cases f with ⟨rfl, hf⟩ | ⟨rfl, hf⟩ | ⟨⟨c0, c1⟩, hf⟩ <;> obtain ⟨e1, e2, e3, e4, e5, e6, e7, e8, e9⟩ := hf
  · rw [e8, and32 v 16 (p := 65536) h0 h1 (by decide) (by decide) (by decide)]
    unfold zerI fS fX fF; rw [e3, e4, e5]; simp only [beq_iff_eq]; split <;> omega
  · rw [e8, and32 v 16 (p := 65536) h0 h1 (by decide) (by decide) (by decide)]
    unfold zerI fS fX fF; rw [e3, e4, e5]; simp only [beq_iff_eq]; split <;> omega
  · rw [e8, and32 v 32 (p := 4294967296) h0 h1 (by decide) (by decide) (by decide)]
    unfold zerI fS fX fF; rw [e3, e4, e5]; simp only [beq_iff_eq]; split <;> omega

/-- A word with its bit k turned. -/
theorem nat_xor_pow (V k : Nat) : V ^^^ 2 ^ k = if V / 2 ^ k % 2 = 1 then V - 2 ^ k else V + 2 ^ k := by
  have hk := Nat.two_pow_pos k
  have d1 : (V ^^^ 2 ^ k) % 2 ^ k = V % 2 ^ k := by rw [Nat.xor_mod_two_pow, Nat.mod_self, Nat.xor_zero]
  have d2 : (V ^^^ 2 ^ k) / 2 ^ k = (V / 2 ^ k) ^^^ 1 := by
    rw [← Nat.shiftRight_eq_div_pow, Nat.shiftRight_xor_distrib, Nat.shiftRight_eq_div_pow, Nat.shiftRight_eq_div_pow, Nat.div_self hk]
  have d3 : (V / 2 ^ k) ^^^ 1 = if V / 2 ^ k % 2 = 1 then V / 2 ^ k - 1 else V / 2 ^ k + 1 := by
    generalize V / 2 ^ k = q
    have h1 : (q ^^^ 1) % 2 = (q + 1) % 2 := by
      have := Nat.xor_mod_two_pow (a := q) (b := 1) (n := 1)
      simp only [Nat.pow_one] at this
      rw [this]
      rcases Nat.mod_two_eq_zero_or_one q with c | c <;> rw [c] <;> simp <;> omega
    have h2 : (q ^^^ 1) / 2 = q / 2 := by rw [Nat.xor_div_two]; simp
    split <;> omega
  have a := Nat.div_add_mod (V ^^^ 2 ^ k) (2 ^ k)
  have b := Nat.div_add_mod V (2 ^ k)
  rw [d1, d2, d3] at a
  generalize hq : V / 2 ^ k = q at *
  generalize V % 2 ^ k = r at *
  generalize hP : 2 ^ k = P at *
  split
  · rename_i h
    rw [if_pos h] at a
    have : P * q = P * (q - 1) + P := by
      obtain ⟨q', rfl⟩ : ∃ q', q = q' + 1 := ⟨q - 1, by omega⟩
      rw [Nat.add_sub_cancel, Nat.mul_add, Nat.mul_one]
    omega
  · rename_i h
    rw [if_neg h, Nat.mul_add, Nat.mul_one] at a
    omega

/-! A number with its sign turned (no program here). -/
/-- A word with its sign turned. -/
def xorI (f v : Int) : Int := bits .xor .u32 v (sgb f)

theorem xor32 (v : Int) (k : Nat) {b : Int} (h0 : 0 ≤ v) (h1 : v ≤ 4294967295) (hk : k ≤ 31) (hb : b = 2 ^ k) : bits .xor .u32 v b = if v / b % 2 = 1 then v - b else v + b := by
  subst hb
  have hp := pow2_pos k
  have hm : (2 : Int) ^ k ≤ 2147483648 := pow2_le (b := 31) hk
  rw [u32_xor v _ h0 (by omega) (by omega) (by omega)]
  obtain ⟨V, rfl⟩ := Int.eq_ofNat_of_zero_le h0
  rw [pow2_cast k, Int.toNat_natCast, Int.toNat_natCast, nat_xor_pow, ← Int.natCast_ediv]
  have hle := Nat.div_mul_le_self V (2 ^ k)
  generalize V / 2 ^ k = q at *
  by_cases h : q % 2 = 1
  · rw [if_pos h, if_pos (by omega)]
    have h1 : 1 * 2 ^ k ≤ q * 2 ^ k := Nat.mul_le_mul_right _ (by omega)
    omega
  · rw [if_neg h, if_neg (by omega)]; omega

theorem xor_parts (f v : Int) (h0 : 0 ≤ v) (h1 : v ≤ 4294967295) : fX f (xorI f v) = fX f v ∧ fF f (xorI f v) = fF f v ∧ fS f (xorI f v) = !fS f v ∧ 0 ≤ xorI f v ∧ xorI f v ≤ 4294967295 := by
  unfold xorI
  rcases fmt_cases f with ⟨rfl, hf⟩ | ⟨rfl, hf⟩ | ⟨⟨c0, c1⟩, hf⟩ <;> obtain ⟨e1, e2, e3, e4, e5, e6, e7, e8, e9⟩ := hf
  · rw [e5, xor32 v 15 (b := 32768) h0 h1 (by decide) (by decide)]
    unfold fX fF fS; rw [e3, e4, e5]
    split <;> refine ⟨by omega, by omega, ?_, by omega, by omega⟩ <;> rw [Bool.eq_iff_iff] <;> simp <;> omega
  · rw [e5, xor32 v 15 (b := 32768) h0 h1 (by decide) (by decide)]
    unfold fX fF fS; rw [e3, e4, e5]
    split <;> refine ⟨by omega, by omega, ?_, by omega, by omega⟩ <;> rw [Bool.eq_iff_iff] <;> simp <;> omega
  · rw [e5, xor32 v 31 (b := 2147483648) h0 h1 (by decide) (by decide)]
    unfold fX fF fS; rw [e3, e4, e5]
    split <;> refine ⟨by omega, by omega, ?_, by omega, by omega⟩ <;> rw [Bool.eq_iff_iff] <;> simp <;> omega

theorem and_parts (f v : Int) (h0 : 0 ≤ v) (h1 : v ≤ 4294967295) : fX f (bits .and .u32 v (msk f)) = fX f v ∧ fF f (bits .and .u32 v (msk f)) = fF f v ∧ fS f (bits .and .u32 v (msk f)) = fS f v ∧ 0 ≤ bits .and .u32 v (msk f) ∧ bits .and .u32 v (msk f) ≤ 4294967295 := by
  rcases fmt_cases f with ⟨rfl, hf⟩ | ⟨rfl, hf⟩ | ⟨⟨c0, c1⟩, hf⟩ <;> obtain ⟨e1, e2, e3, e4, e5, e6, e7, e8, e9⟩ := hf
  · rw [e8, and32 v 16 (p := 65536) h0 h1 (by decide) (by decide) (by decide)]
    unfold fX fF fS; rw [e3, e4, e5]
    refine ⟨by omega, by omega, ?_, by omega, by omega⟩; rw [Bool.eq_iff_iff]; simp; omega
  · rw [e8, and32 v 16 (p := 65536) h0 h1 (by decide) (by decide) (by decide)]
    unfold fX fF fS; rw [e3, e4, e5]
    refine ⟨by omega, by omega, ?_, by omega, by omega⟩; rw [Bool.eq_iff_iff]; simp; omega
  · rw [e8, and32 v 32 (p := 4294967296) h0 h1 (by decide) (by decide) (by decide)]
    unfold fX fF fS; rw [e3, e4, e5]
    refine ⟨by omega, by omega, ?_, by omega, by omega⟩; rw [Bool.eq_iff_iff]; simp; omega

/-- Bits put together, and what they are. -/
theorem parts_make (f : Int) (n : Bool) (Z F z : Int) (h0 : 0 ≤ Z) (h1 : Z < topx f) (g0 : 0 ≤ F) (g1 : F < hid f) (hz : z = zerI f n + Z * hid f + F) :
    fX f z = Z ∧ fF f z = F ∧ fS f z = n ∧ 0 ≤ z ∧ z ≤ msk f ∧ z ≤ 4294967295 ∧ finI f z = true := by
  subst hz
  rcases fmt_cases f with ⟨rfl, hf⟩ | ⟨rfl, hf⟩ | ⟨⟨c0, c1⟩, hf⟩ <;> obtain ⟨e1, e2, e3, e4, e5, e6, e7, e8, e9⟩ := hf
  all_goals
    unfold finI fX fF fS zerI
    rw [e3, e4, e5, e8]
    rw [e4] at h1
    rw [e3] at g1
    cases n
    · simp only [Bool.false_eq_true, if_false]
      refine ⟨by omega, by omega, ?_, by omega, by omega, by omega, decide_eq_true (by omega)⟩
      rw [beq_eq_false_iff_ne]; omega
    · simp only [if_true]
      refine ⟨by omega, by omega, ?_, by omega, by omega, by omega, decide_eq_true (by omega)⟩
      rw [beq_iff_eq]; omega

theorem zer_parts (f : Int) (s : Bool) : fX f (zerI f s) = 0 ∧ fF f (zerI f s) = 0 ∧ fS f (zerI f s) = s ∧ 0 ≤ zerI f s ∧ zerI f s ≤ 4294967295 := by
  rcases fmt_cases f with ⟨rfl, hf⟩ | ⟨rfl, hf⟩ | ⟨⟨c0, c1⟩, hf⟩ <;> obtain ⟨e1, e2, e3, e4, e5, e6, e7, e8, e9⟩ := hf
  all_goals
    unfold fX fF fS zerI
    rw [e3, e4, e5]
    cases s <;> decide
end Go.Proofs.Ytfdfbgmnfiiipaa
