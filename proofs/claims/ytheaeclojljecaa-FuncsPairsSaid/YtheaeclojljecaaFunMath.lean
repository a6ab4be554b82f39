/- Single numbers' operations in NearEven as plain numbers; the fixed programs of functions (no program here). Singles in their line: places, amounts with signs; what is rounded keeps the order (no program here). Which of two Singles is below the other, by places; functions of what is beyond their ends (no program here). -/
import Derived.Test.YtheaeclojljecaaQuoLaw
import Derived.Test.YtheaeclojljecaaNans
import Derived.Test.YtheaeclojljecaaConMath
import Derived.KernelRfl
namespace Go.Proofs.Ytheaeclojljecaa
open Go.RowKit
set_option linter.unusedVariables false
set_option linter.unusedSimpArgs false

/-- The number that an answer begins with. -/
def valI (e : Ending) : Int := match e with
  | .returned (.tuple r) => (match r[0]? with
    | some (Value.int _ v) => v
    | _ => 0)
  | _ => 0

theorem op_val {e : Ending} (h : ShapeE e) {V : Int} (hV : valI e = V) : ∃ b1 b2 b3 b4 b5, e = .returned (.tuple #[.int .u32 V, .agg #[.bool b1, .bool b2, .bool b3, .bool b4, .bool b5]]) ∧ 0 ≤ V ∧ V ≤ 4294967295 := by
  obtain ⟨v, b1, b2, b3, b4, b5, he, h0, h1⟩ := h
  subst he
  have : v = V := hV
  subst this
  exact ⟨b1, b2, b3, b4, b5, rfl, h0, h1⟩

theorem from_shapeE (f mode v : Int) : ShapeE (fromE f mode v) := by
  unfold fromE; split <;> exact shape_pack _ _ _ _

theorem sca_shapeE (f mode a n : Int) (a0 : 0 ≤ a) (a1 : a ≤ 4294967295) : ShapeE (scaE f mode a n) := by
  have hm := mask_word f a a0 a1
  have ht := msk_le f
  unfold scaE inxE
  split
  · exact ⟨_, _, _, _, _, _, rfl, (nan_bd f).1, (nan_bd f).2⟩
  · split
    · exact ⟨_, _, _, _, _, _, rfl, by omega, by omega⟩
    · exact shape_pack _ _ _ _

theorem add_shapeE (f mode a b : Int) : ShapeE (addE f mode a b) := by
  unfold addE
  split
  · exact shape_exc _ _ (nan_bd f)
  · split
    · exact shape_exc _ _ (nan_bd f)
    · split
      · exact shape_exc _ _ (inf_parts f _).2.2
      · split
        · exact shape_exc _ _ (inf_parts f _).2.2
        · exact fin_shapeE _ _ _ _ _ _

theorem sub_shapeE (f mode a b : Int) : ShapeE (subE f mode a b) := add_shapeE f mode a (xorI f b)

theorem to_val (f mode a : Int) {V : Int} (hV : valI (toE f mode a) = V) : ∃ b1 b2 b3 b4 b5, toE f mode a = .returned (.tuple #[.int .i32 V, .agg #[.bool b1, .bool b2, .bool b3, .bool b4, .bool b5]]) ∧ -2147483648 ≤ V ∧ V ≤ 2147483647 := by
  unfold toE at hV ⊢
  by_cases c : noInt f mode a = true
  · rw [if_pos c] at hV ⊢
    have : (-2147483648 : Int) = V := hV
    subst this
    exact ⟨_, _, _, _, _, rfl, by omega, by omega⟩
  · rw [if_neg c] at hV ⊢
    have : (if fS f a then -(whN f mode a : Int) else (whN f mode a : Int)) = V := hV
    subst this
    refine ⟨_, _, _, _, _, rfl, ?_⟩
    unfold noInt at c
    simp only [Bool.or_eq_true, Bool.and_eq_true, Bool.not_eq_true', decide_eq_true_eq, not_or, not_and] at c
    obtain ⟨⟨c1, c2⟩, c3⟩ := c
    cases hs : fS f a
    · simp only [Bool.false_eq_true, if_false]
      have : whN f mode a ≠ 2147483648 := fun h => by have := c3 h; rw [hs] at this; exact this rfl
      omega
    · simp only [if_true]; omega

def fmaV (a b c : Int) : Int := valI (fmaE 2 0 a b c)

def addV (a b : Int) : Int := valI (addE 2 0 a b)

def subV (a b : Int) : Int := valI (subE 2 0 a b)

def mulV (a b : Int) : Int := valI (mulE 2 0 a b)

def divV (a b : Int) : Int := valI (divE 2 0 a b)

def frmV (n : Int) : Int := valI (fromE 2 0 n)

def toV (a : Int) : Int := valI (toE 2 0 a)

def scaV (a n : Int) : Int := valI (scaE 2 0 a n)

def negV (a : Int) : Int := minI 2 a

/-- p, then fma of each. -/
def alongV (p r : Int) (L : List Int) : Int := L.foldl (fun p c => fmaV p r c) p

/-! The programs. -/
def expN (x : Int) : Int := toV (mulV x 1069066811)

def expR (x : Int) : Int := fmaV (negV (frmV (expN x))) 901758606 (fmaV (negV (frmV (expN x))) 1060205056 x)

def expP (x : Int) : Int := alongV 985008993 (expR x) [1007192201, 1026206379, 1042983595, 1056964608, 1065353216, 1065353216]

def expI (x : Int) : Int := if nanB 2 x then 2143289344 else if lesB 2 1118925336 x then 2139095040 else if lesB 2 x 3268407733 then 0 else scaV (expP x) (expN x)

def tanB (a : Int) : Int := if lesB 2 1091579060 a then 1065353216 else subV 1065353216 (divV 1073741824 (addV (expI (addV a a)) 1065353216))

def absI (x : Int) : Int := x % 2147483648

def tanI (x : Int) : Int := if nanB 2 x then 2143289344 else if absI x = 0 then x else if 2147483648 ≤ x then negV (tanB (absI x)) else tanB (absI x)

def sigI (x : Int) : Int := if nanB 2 x then 2143289344 else divV 1065353216 (addV 1065353216 (expI (negV x)))

def innI (x : Int) : Int := mulV 1061962282 (fmaV 1027024659 (mulV (mulV x x) x) x)

def gelI (x : Int) : Int := if nanB 2 x then 2143289344 else mulV (mulV 1056964608 x) (addV 1065353216 (tanI (innI x)))

def sloI (x : Int) : Int :=
  if nanB 2 x then 2143289344
  else fmaV (mulV (mulV 1056964608 x) (subV 1065353216 (mulV (tanI (innI x)) (tanI (innI x))))) (mulV 1061962282 (fmaV 1040801103 (mulV x x) 1065353216)) (mulV 1056964608 (addV 1065353216 (tanI (innI x))))

def cosY (x : Int) : Int := mulV 1078530011 (subV x 1056964608)

def cosI (x : Int) : Int := if nanB 2 x then 2143289344 else negV (mulV (cosY x) (alongV 3109031169 (mulV (cosY x) (cosY x)) [1007192201, 3190467243, 1065353216]))

/-- A logarithm's number as one from 1 to below 2, and its power. -/
def logE (x : Int) : Int := unE 2 x + (lenI (unM 2 x) - 1)

def logM (x : Int) : Int := 1065353216 + unM 2 x * 2 ^ (24 - lenI (unM 2 x)).toNat % 8388608

def logV (x : Int) : Int := if lesB 2 1068827891 (logM x) then mulV (logM x) 1056964608 else logM x

def logK (x : Int) : Int := if lesB 2 1068827891 (logM x) then logE x + 1 else logE x

def logS (t : Int) : Int := divV t (addV 1073741824 t)

def logQ (z : Int) : Int := alongV 1046711865 z [1049774373, 1053609165, 1059760811]

def logY (s : Int) : Int := fmaV s (mulV (logQ (mulV s s)) (mulV s s)) (addV s s)

def logT (k y : Int) : Int := fmaV k 1060205056 (fmaV k 901758606 y)

def logI (x : Int) : Int :=
  if nanB 2 x then 2143289344 else if nouB 2 x then 4286578688 else if fS 2 x then 2143289344 else if infB 2 x then 2139095040
  else logT (frmV (logK x)) (logY (logS (subV (logV x) 1065353216)))

/-- Where a Single's bits stand in the line; both noughts are at 0, infinities at 2139095040 and its other side. -/
def kz (x : Int) : Int := if 2147483648 ≤ x then 2147483648 - x else x

def sg (n : Bool) (V : Nat) : Int := if n then -(V : Int) else (V : Int)

/-- A finite Single's amount, of either sign, in units of 2 to -298. -/
def sV (x : Int) : Int := sg (fS 2 x) (amtE (unE 2 x) (unM 2 x))

/-- A product's. -/
def sP (a b : Int) : Int := sg (sgP 2 a b) (amtP 2 a b)

/-- The place of what V units are rounded to. -/
def rkN (V : Nat) : Nat := magN 2 0 false (upN V)

def rk (S : Int) : Int := if S < 0 then -(rkN S.natAbs : Int) else (rkN S.natAbs : Int)

theorem up_mono {V W : Nat} (h : V ≤ W) : upN V ≤ upN W := by unfold upN; exact Nat.mul_le_mul_right _ h

theorem rkN_mono {V W : Nat} (h : V ≤ W) : rkN V ≤ rkN W := mag_mono 2 0 false (up_mono h)

theorem rkN_zero : rkN 0 = 0 := by
  have h : upN 0 = 0 := (up_zero 0).2 rfl
  unfold rkN magN; rw [h, plc_zero, if_pos (by omega)]

theorem rk_pos (A : Nat) : rk (A : Int) = rkN A := by unfold rk; rw [if_neg (by omega), Int.natAbs_natCast]

theorem rk_neg (A : Nat) : rk (-(A : Int)) = -(rkN A : Int) := by
  unfold rk
  by_cases z : A = 0
  · subst z; simp [rkN_zero]
  · rw [if_pos (by omega), Int.natAbs_neg, Int.natAbs_natCast]

theorem rk_zero : rk 0 = 0 := by have := rk_pos 0; rw [rkN_zero] at this; exact this

theorem rk_mono {S T : Int} (h : S ≤ T) : rk S ≤ rk T := by
  by_cases s : S < 0
  · by_cases t : T < 0
    · have := rkN_mono (show T.natAbs ≤ S.natAbs by omega)
      unfold rk; rw [if_pos s, if_pos t]; omega
    · unfold rk; rw [if_pos s, if_neg t]; omega
  · have := rkN_mono (show S.natAbs ≤ T.natAbs by omega)
    unfold rk; rw [if_neg s, if_neg (by omega)]; omega

theorem rk_sg (n : Bool) (A : Nat) : rk (sg n A) = if n then -(rkN A : Int) else (rkN A : Int) := by
  unfold sg; cases n
  · simp only [Bool.false_eq_true, if_false]; exact rk_pos A
  · simp only [if_true]; exact rk_neg A

theorem mag_sign (s : Bool) (V : Nat) : magN 2 0 s V = magN 2 0 false V := by cases s <;> rfl

theorem gre_two : greN 2 = 2139095039 := by decide

theorem mag_top (V : Nat) : magN 2 0 false V ≤ 2139095040 := by have := mag_le 2 0 false V; rw [gre_two] at this; exact this

theorem kz_mag (s : Bool) (M : Int) (h0 : 0 ≤ M) (h1 : M < 2147483648) : kz (zerI 2 s + M) = if s then -M else M := by
  have e : zerI 2 s = if s then 2147483648 else 0 := by cases s <;> rfl
  rw [e]; unfold kz
  cases s
  · simp only [Bool.false_eq_true, if_false]; rw [if_neg (by omega)]; omega
  · simp only [if_true]; rw [if_pos (by omega)]; omega

/-- What is rounded stands at its place, and is a number or infinite. -/
theorem pack_kz (n : Bool) (A : Nat) : kz (valI (PackE 2 0 n (upN A))) = rk (sg n A) := by
  have h := mag_top (upN A)
  show kz (rdV 2 0 n (upN A)) = _
  unfold rdV
  rw [mag_sign, kz_mag n _ (by omega) (by omega), rk_sg]; rfl

theorem rk_top (S : Int) : -2139095040 ≤ rk S ∧ rk S ≤ 2139095040 := by
  have h := mag_top (upN S.natAbs)
  unfold rk rkN; split <;> omega

theorem a_two (x : Int) : aN 2 x = x % 2147483648 := (low_parts 2 x).symm

theorem fS_two (x : Int) (h0 : 0 ≤ x) (h1 : x ≤ 4294967295) : fS 2 x = decide (2147483648 ≤ x) := by
  show (x / 2147483648 % 2 == 1) = _
  rw [Bool.eq_iff_iff, beq_iff_eq, decide_eq_true_eq]; omega

theorem kz_parts (x : Int) (h0 : 0 ≤ x) (h1 : x ≤ 4294967295) : kz x = if fS 2 x then -(x % 2147483648) else x % 2147483648 := by
  rw [fS_two x h0 h1]; unfold kz
  by_cases c : 2147483648 ≤ x
  · rw [if_pos c, decide_eq_true c, if_pos rfl]; omega
  · rw [if_neg c, decide_eq_false c]; simp; omega

theorem fin_kz (x : Int) (h0 : 0 ≤ x) (h1 : x ≤ 4294967295) : finI 2 x = true ↔ -2139095040 < kz x ∧ kz x < 2139095040 := by
  have e : finI 2 x = decide (x / 8388608 % 256 < 255) := rfl
  rw [e, decide_eq_true_eq]; unfold kz; split <;> omega

theorem nan_kz (x : Int) (h0 : 0 ≤ x) (h1 : x ≤ 4294967295) : nanB 2 x = false ↔ -2139095040 ≤ kz x ∧ kz x ≤ 2139095040 := by
  have e1 : fX 2 x = x / 8388608 % 256 := rfl
  have e2 : fF 2 x = x % 8388608 := rfl
  have e3 : topx 2 = 255 := rfl
  rcases three_kinds 2 x with ⟨a, b, c⟩ | ⟨a, b, c, d, e⟩ | ⟨a, b, c, d⟩
  · rw [a]
    have hf : ¬ (finI 2 x = true) := by rw [c]; decide
    rw [fin_kz x h0 h1] at hf
    have hi : ¬ (fX 2 x = 255 ∧ fF 2 x = 0) := fun h => by
      have : clsI 2 x = 3 := by unfold clsI; rw [h.1, h.2]; decide
      unfold infB at b; rw [this] at b; exact absurd b (by decide)
    rw [e1, e2] at hi
    constructor
    · intro h; exact absurd h (by decide)
    · intro h; exfalso; apply hi; unfold kz at h hf; split at h <;> omega
  · rw [a]
    refine ⟨fun _ => ?_, fun _ => rfl⟩
    rw [e1, e3] at d; rw [e2] at e
    unfold kz; split <;> omega
  · rw [a]
    refine ⟨fun _ => ?_, fun _ => rfl⟩
    have := (fin_kz x h0 h1).1 c
    omega

theorem rkN_self (x : Int) (h0 : 0 ≤ x) (h1 : x ≤ 4294967295) (h : finI 2 x = true) : (rkN (amtE (unE 2 x) (unM 2 x)) : Int) = x % 2147483648 := by
  obtain ⟨p, c⟩ := num_parts 2 x h
  have hl := low_parts 2 x
  have e : sgb 2 = 2147483648 := rfl
  rw [e] at hl
  rw [← hl] at p
  have hf := (fin_kz x h0 h1).1 h
  have hk : x % 2147483648 < 2139095040 := by unfold kz at hf; split at hf <;> omega
  unfold rkN magN
  rw [up_num, if_pos (by rw [gre_two]; omega)]
  exact p

/-- A finite number is rounded to itself. -/
theorem rk_self (x : Int) (h0 : 0 ≤ x) (h1 : x ≤ 4294967295) (h : finI 2 x = true) : rk (sV x) = kz x := by
  unfold sV
  rw [rk_sg, kz_parts x h0 h1, rkN_self x h0 h1 h]

theorem sV_kz (x y : Int) (x0 : 0 ≤ x) (x1 : x ≤ 4294967295) (y0 : 0 ≤ y) (y1 : y ≤ 4294967295) (h : kz x = kz y) : sV x = sV y := by
  have e : x = y ∨ (x = 0 ∧ y = 2147483648) ∨ (x = 2147483648 ∧ y = 0) := by unfold kz at h; split at h <;> split at h <;> omega
  have z1 : sV 0 = 0 := by decide
  have z2 : sV 2147483648 = 0 := by decide
  rcases e with rfl | ⟨rfl, rfl⟩ | ⟨rfl, rfl⟩
  · rfl
  · rw [z1, z2]
  · rw [z1, z2]

/-- The line of places is the line of amounts. -/
theorem kz_line (x y : Int) (x0 : 0 ≤ x) (x1 : x ≤ 4294967295) (y0 : 0 ≤ y) (y1 : y ≤ 4294967295) (hx : finI 2 x = true) (hy : finI 2 y = true) : kz x ≤ kz y ↔ sV x ≤ sV y := by
  have ex := rk_self x x0 x1 hx
  have ey := rk_self y y0 y1 hy
  constructor
  · intro h
    rcases Int.lt_or_le (sV y) (sV x) with c | c
    · have := rk_mono (Int.le_of_lt c)
      rw [ex, ey] at this
      rw [sV_kz x y x0 x1 y0 y1 (by omega)]
      exact Int.le_refl _
    · exact c
  · intro h
    have := rk_mono h
    rw [ex, ey] at this; exact this

theorem tot_sum (n : Bool) (V : Nat) (m : Bool) (W : Nat) : sg (sgT n V m W) (amT n V m W) = sg n V + sg m W := by
  unfold sg sgT amT
  cases n <;> cases m <;> simp
  · (repeat' split) <;> omega
  · (repeat' split) <;> omega
  · omega

theorem fin_kzv (n : Bool) (V : Nat) (m : Bool) (W : Nat) : kz (valI (finE 2 0 n V m W)) = rk (sg n V + sg m W) := by
  have hz : ∀ s, kz (valI (excE (zerI 2 s) false)) = 0 := fun s => by
    show kz (zerI 2 s) = 0
    cases s <;> rfl
  have ht := tot_sum n V m W
  unfold finE
  by_cases c : V = 0 ∧ W = 0 ∧ n = m
  · obtain ⟨rfl, rfl, rfl⟩ := c
    rw [if_pos ⟨rfl, rfl, rfl⟩, hz]
    have : sg n 0 + sg n 0 = 0 := by cases n <;> rfl
    rw [this, rk_zero]
  · rw [if_neg c]
    unfold totE
    by_cases d : amT n V m W = 0
    · rw [if_pos d, hz, ← ht, d]
      have : sg (sgT n V m W) 0 = 0 := by cases sgT n V m W <;> rfl
      rw [this, rk_zero]
    · rw [if_neg d, pack_kz, ht]

theorem fin_kinds (x : Int) (h : finI 2 x = true) : nanB 2 x = false ∧ infB 2 x = false := by
  rcases three_kinds 2 x with ⟨a, b, c⟩ | ⟨a, b, c, _⟩ | ⟨a, b, c, _⟩
  · rw [h] at c; exact absurd c (by decide)
  · rw [h] at c; exact absurd c (by decide)
  · exact ⟨a, b⟩

theorem bad_fin (a b : Int) (ha : infB 2 a = false) (hb : infB 2 b = false) : badB 2 a b = false := by unfold badB; rw [ha, hb]; simp

theorem fma_kz (a b c : Int) (ha : finI 2 a = true) (hb : finI 2 b = true) (hc : finI 2 c = true) : kz (fmaV a b c) = rk (sP a b + sV c) := by
  obtain ⟨a1, a2⟩ := fin_kinds a ha
  obtain ⟨b1, b2⟩ := fin_kinds b hb
  obtain ⟨c1, c2⟩ := fin_kinds c hc
  unfold fmaV fmaE
  rw [a1, b1, c1, bad_fin a b a2 b2, a2, b2, c2, if_neg (by decide), if_neg (by decide), if_neg (by decide), fin_kzv]; rfl

theorem mul_kz (a b : Int) (ha : finI 2 a = true) (hb : finI 2 b = true) : kz (mulV a b) = rk (sP a b) := by
  obtain ⟨a1, a2⟩ := fin_kinds a ha
  obtain ⟨b1, b2⟩ := fin_kinds b hb
  unfold mulV mulE
  rw [a1, b1, bad_fin a b a2 b2, a2, b2, if_neg (by decide), if_neg (by decide), if_neg (by decide), pack_kz]; rfl

theorem add_kz (a b : Int) (ha : finI 2 a = true) (hb : finI 2 b = true) : kz (addV a b) = rk (sV a + sV b) := by
  obtain ⟨a1, a2⟩ := fin_kinds a ha
  obtain ⟨b1, b2⟩ := fin_kinds b hb
  unfold addV addE
  rw [a1, b1, a2, b2, if_neg (by decide), if_neg (by simp), if_neg (by decide), if_neg (by decide), fin_kzv]; rfl

theorem xor_sV (b : Int) (b0 : 0 ≤ b) (b1 : b ≤ 4294967295) : sV (xorI 2 b) = -sV b ∧ finI 2 (xorI 2 b) = finI 2 b := by
  obtain ⟨x1, x2, x3, x4, x5⟩ := xor_parts 2 b b0 b1
  unfold sV finI unE unM
  rw [x1, x2, x3]
  refine ⟨?_, rfl⟩
  unfold sg; cases fS 2 b <;> simp

theorem sub_kz (a b : Int) (b0 : 0 ≤ b) (b1 : b ≤ 4294967295) (ha : finI 2 a = true) (hb : finI 2 b = true) : kz (subV a b) = rk (sV a - sV b) := by
  obtain ⟨x, y⟩ := xor_sV b b0 b1
  have h := add_kz a (xorI 2 b) ha (by rw [y, hb])
  rw [x] at h
  exact h

/-- A product's amount, of its numbers'. -/
theorem sP_mul (a b : Int) (T : Nat) (hT : T = 298) : sP a b * ((2 ^ T : Nat) : Int) = sV a * sV b := by
  obtain ⟨a0, a1⟩ := unE_bd 2 a
  obtain ⟨b0, b1⟩ := unE_bd 2 b
  obtain ⟨m1, m2, m3⟩ := mul_bd 2 a b
  have k : amtP 2 a b * 2 ^ T = amtE (unE 2 a) (unM 2 a) * amtE (unE 2 b) (unM 2 b) := by
    unfold amtP amtE
    rw [m3, Nat.mul_assoc, ← Nat.pow_add, show (unE 2 a + unE 2 b + 298).toNat + T = (unE 2 a + 298).toNat + (unE 2 b + 298).toNat by omega, Nat.pow_add]
    generalize (2 : Nat) ^ (unE 2 a + 298).toNat = A
    generalize (2 : Nat) ^ (unE 2 b + 298).toNat = B
    generalize (unM 2 a).toNat = M
    generalize (unM 2 b).toNat = K
    grind
  unfold sP sV sgP
  have hs : ∀ (s t : Bool) (X Y : Nat), sg s X * sg t Y = sg (s != t) (X * Y) := by
    intro s t X Y; unfold sg; cases s <;> cases t <;> simp [Int.neg_mul, Int.mul_neg]
  rw [hs, ← k]
  generalize amtP 2 a b = P
  generalize (2 : Nat) ^ T = B
  unfold sg
  cases (fS 2 a != fS 2 b) <;> simp [Int.neg_mul]

theorem nan_fin (x : Int) (x0 : 0 ≤ x) (x1 : x ≤ 4294967295) (y : Int) (y0 : 0 ≤ y) (y1 : y ≤ 4294967295) (hx : nanB 2 x = false) (hy : nanB 2 y = false) (hz : ¬ kz y = 0) : lesB 2 x y = decide (kz x < kz y) := by
  have e : ∀ v : Int, 0 ≤ v → v ≤ 4294967295 → keyI 2 v = if 2147483648 ≤ v then 2147483647 - v else v := fun v v0 v1 => by
    have hl := low_parts 2 v
    rw [show sgb 2 = 2147483648 by rfl] at hl
    rw [key_parts, ← hl, fS_two v v0 v1]
    by_cases c : 2147483648 ≤ v
    · rw [decide_eq_true c, if_pos rfl, if_pos c]; omega
    · rw [decide_eq_false c, if_neg (by decide), if_neg c]; omega
  have hn : ¬ (nouB 2 x = true ∧ nouB 2 y = true) := fun h => by
    have := key_nou 2 y h.2
    rw [e y y0 y1] at this
    unfold kz at hz
    split at this <;> split at hz <;> omega
  have h := les_is 2 x y
  rw [hx, hy, e x x0 x1, e y y0 y1] at h
  rw [Bool.eq_iff_iff, h, decide_eq_true_eq]
  unfold kz at hz ⊢
  by_cases cx : 2147483648 ≤ x
  · by_cases cy : 2147483648 ≤ y
    · simp only [if_pos cx, if_pos cy] at hz ⊢
      exact ⟨fun g => by have := g.2.2.2; omega, fun g => ⟨by trivial, by trivial, hn, by omega⟩⟩
    · simp only [if_pos cx, if_neg cy] at hz ⊢
      exact ⟨fun g => by have := g.2.2.2; omega, fun g => ⟨by trivial, by trivial, hn, by omega⟩⟩
  · by_cases cy : 2147483648 ≤ y
    · simp only [if_neg cx, if_pos cy] at hz ⊢
      exact ⟨fun g => by have := g.2.2.2; omega, fun g => ⟨by trivial, by trivial, hn, by omega⟩⟩
    · simp only [if_neg cx, if_neg cy] at hz ⊢
      exact ⟨fun g => by have := g.2.2.2; omega, fun g => ⟨by trivial, by trivial, hn, by omega⟩⟩

theorem nan_fin' (x : Int) (x0 : 0 ≤ x) (x1 : x ≤ 4294967295) (y : Int) (y0 : 0 ≤ y) (y1 : y ≤ 4294967295) (hx : nanB 2 x = false) (hy : nanB 2 y = false) (hz : ¬ kz x = 0) : lesB 2 x y = decide (kz x < kz y) := by
  by_cases c : kz y = 0
  · have e : ∀ v : Int, 0 ≤ v → v ≤ 4294967295 → keyI 2 v = if 2147483648 ≤ v then 2147483647 - v else v := fun v v0 v1 => by
      have hl := low_parts 2 v
      rw [show sgb 2 = 2147483648 by rfl] at hl
      rw [key_parts, ← hl, fS_two v v0 v1]
      by_cases c : 2147483648 ≤ v
      · rw [decide_eq_true c, if_pos rfl, if_pos c]; omega
      · rw [decide_eq_false c, if_neg (by decide), if_neg c]; omega
    have hn : ¬ (nouB 2 x = true ∧ nouB 2 y = true) := fun h => by
      have := key_nou 2 x h.1
      rw [e x x0 x1] at this
      unfold kz at hz
      by_cases cx : 2147483648 ≤ x
      · simp only [if_pos cx] at hz this; omega
      · simp only [if_neg cx] at hz this; omega
    have h := les_is 2 x y
    rw [hx, hy, e x x0 x1, e y y0 y1] at h
    rw [Bool.eq_iff_iff, h, decide_eq_true_eq]
    unfold kz at hz c ⊢
    by_cases cx : 2147483648 ≤ x
    · by_cases cy : 2147483648 ≤ y
      · simp only [if_pos cx, if_pos cy] at hz c ⊢
        exact ⟨fun g => by have := g.2.2.2; omega, fun g => ⟨by trivial, by trivial, hn, by omega⟩⟩
      · simp only [if_pos cx, if_neg cy] at hz c ⊢
        exact ⟨fun g => by have := g.2.2.2; omega, fun g => ⟨by trivial, by trivial, hn, by omega⟩⟩
    · by_cases cy : 2147483648 ≤ y
      · simp only [if_neg cx, if_pos cy] at hz c ⊢
        exact ⟨fun g => by have := g.2.2.2; omega, fun g => ⟨by trivial, by trivial, hn, by omega⟩⟩
      · simp only [if_neg cx, if_neg cy] at hz c ⊢
        exact ⟨fun g => by have := g.2.2.2; omega, fun g => ⟨by trivial, by trivial, hn, by omega⟩⟩
  · exact nan_fin x x0 x1 y y0 y1 hx hy c

theorem exp_over (x : Int) (x0 : 0 ≤ x) (x1 : x ≤ 4294967295) (h : 1118925336 < kz x) (g : kz x ≤ 2139095040) : expI x = 2139095040 := by
  have hn : nanB 2 x = false := (nan_kz x x0 x1).2 (by omega)
  have h1 := nan_fin' 1118925336 (by omega) (by omega) x x0 x1 (by decide) hn (by decide)
  rw [show kz 1118925336 = 1118925336 by decide, decide_eq_true h] at h1
  unfold expI
  rw [hn, h1, if_neg (by decide), if_pos rfl]

theorem exp_under (x : Int) (x0 : 0 ≤ x) (x1 : x ≤ 4294967295) (h : kz x < -1120924085) (g : -2139095040 ≤ kz x) : expI x = 0 := by
  have hn : nanB 2 x = false := (nan_kz x x0 x1).2 (by omega)
  have h1 := nan_fin' 1118925336 (by omega) (by omega) x x0 x1 (by decide) hn (by decide)
  have h2 := nan_fin x x0 x1 3268407733 (by omega) (by omega) hn (by decide) (by decide)
  rw [show kz 1118925336 = 1118925336 by decide, decide_eq_false (by omega)] at h1
  rw [show kz 3268407733 = -1120924085 by decide, decide_eq_true h] at h2
  unfold expI
  rw [hn, h1, h2, if_neg (by decide), if_neg (by decide), if_pos rfl]

theorem tan_over (y : Int) (h : 1091579060 < y) (g : y ≤ 2139095040) : tanI y = 1065353216 ∧ tanI (y + 2147483648) = 3212836864 := by
  have ky : kz y = y := by unfold kz; rw [if_neg (by omega)]
  have ky2 : kz (y + 2147483648) = -y := by unfold kz; rw [if_pos (by omega)]; omega
  have hn : nanB 2 y = false := (nan_kz y (by omega) (by omega)).2 (by omega)
  have hn2 : nanB 2 (y + 2147483648) = false := (nan_kz _ (by omega) (by omega)).2 (by omega)
  have h1 := nan_fin' 1091579060 (by omega) (by omega) y (by omega) (by omega) (by decide) hn (by decide)
  rw [show kz 1091579060 = 1091579060 by decide, ky, decide_eq_true h] at h1
  have e1 : absI y = y := by unfold absI; omega
  have e2 : absI (y + 2147483648) = y := by unfold absI; omega
  have hb : tanB y = 1065353216 := by unfold tanB; rw [h1, if_pos rfl]
  unfold tanI
  rw [hn, hn2, e1, e2, hb]
  simp only [Bool.false_eq_true, if_false]
  rw [if_neg (by omega), if_neg (by omega), if_neg (by omega), if_pos (by omega)]
  exact ⟨rfl, by kernel_rfl⟩

/-- Of what isn't a number each is the plain one. -/
theorem fun_nan (x : Int) (h : nanB 2 x = true) : expI x = 2143289344 ∧ logI x = 2143289344 ∧ tanI x = 2143289344 ∧ sigI x = 2143289344 ∧ gelI x = 2143289344 ∧ sloI x = 2143289344 ∧ cosI x = 2143289344 := by
  unfold expI logI tanI sigI gelI sloI cosI
  rw [h]
  exact ⟨rfl, rfl, rfl, rfl, rfl, rfl, rfl⟩

theorem nan_big (x : Int) (x0 : 0 ≤ x) (x1 : x ≤ 4294967295) (h : 2139095040 < x % 2147483648) : nanB 2 x = true := by
  cases c : nanB 2 x
  · have := (nan_kz x x0 x1).1 c
    unfold kz at this; split at this <;> omega
  · rfl

theorem log_neg (x : Int) (x0 : 2147483648 < x) (x1 : x ≤ 4286578688) : logI x = 2143289344 := by
  have hn : nanB 2 x = false := (nan_kz x (by omega) (by omega)).2 (by unfold kz; split <;> omega)
  have hz : nouB 2 x = false := by
    cases h' : nouB 2 x
    · rfl
    · have := (nou_a 2 x).1 h'; rw [a_two] at this; omega
  have hs : fS 2 x = true := by rw [fS_two x (by omega) (by omega)]; exact decide_eq_true (by omega)
  unfold logI
  rw [hn, hz, hs]; rfl
end Go.Proofs.Ytheaeclojljecaa
