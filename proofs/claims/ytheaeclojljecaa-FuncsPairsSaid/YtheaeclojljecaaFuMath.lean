/- Products, products and sums: what they come to (no program here). Sums of two raised numbers; the ways of package prod's Mul and Fma (no program here). Quotients and roots, cut at any place that is far enough: they are rounded alike (no program here). What quotients of any bits are (no program here). -/
import Derived.Test.YtheaeclojljecaaAddMath
import Derived.Test.YtheaeclojljecaaNought
namespace Go.Proofs.Ytheaeclojljecaa
open Go.RowKit
set_option linter.unusedVariables false
set_option linter.unusedSimpArgs false

/-- The sign of a product; is it a nought by an infinity? -/
def sgP (f a b : Int) : Bool := fS f a != fS f b

def badB (f a b : Int) : Bool := (nouB f a && infB f b) || (infB f a && nouB f b)

/-- The amount of a product. -/
def amtP (f a b : Int) : Nat := amtE (unE f a + unE f b) (unM f a * unM f b)

/-- Mul of any bits. -/
def mulE (f mode a b : Int) : Ending :=
  if (nanB f a || nanB f b) = true then excE (nanI f) (sigB f a || sigB f b)
  else if badB f a b = true then excE (nanI f) true
  else if (infB f a || infB f b) = true then excE (infI f (sgP f a b)) false
  else PackE f mode (sgP f a b) (upN (amtP f a b))

/-- Fma of any bits. -/
def fmaE (f mode a b c : Int) : Ending :=
  if (nanB f a || nanB f b || nanB f c || badB f a b) = true then excE (nanI f) (sigB f a || sigB f b || sigB f c || badB f a b)
  else if (infB f a || infB f b) = true then (if (infB f c && (fS f c != sgP f a b)) = true then excE (nanI f) true else excE (infI f (sgP f a b)) false)
  else if infB f c = true then excE (infI f (fS f c)) false
  else finE f mode (sgP f a b) (amtP f a b) (fS f c) (amtE (unE f c) (unM f c))

theorem unM_lt (f x : Int) : unM f x < ((2 ^ (fn f + 1) : Nat) : Int) := by
  have hF := fF_bd f x
  have hh := hid_fn f
  have hp := np2 (fn f)
  have e : 2 ^ (fn f + 1) = 2 * 2 ^ fn f := by rw [Nat.pow_succ]; omega
  unfold unM; (repeat' split) <;> omega

theorem unE_fn (f x : Int) : unE f x + fn f ≤ 127 := by
  have hX := fX_bd f x
  rcases fmt_cases f with ⟨rfl, hf⟩ | ⟨rfl, hf⟩ | ⟨⟨c0, c1⟩, hf⟩ <;> obtain ⟨e1, e2, e3, e4, e5, e6, e7, e8, e9⟩ := hf
  all_goals
    unfold unE
    rw [e4] at hX ⊢
    rw [e6, e2]
    (repeat' split) <;> omega

theorem mul_bd (f a b : Int) : 0 ≤ unM f a * unM f b ∧ unM f a * unM f b < 281474976710656 ∧ (unM f a * unM f b).toNat = (unM f a).toNat * (unM f b).toNat := by
  obtain ⟨a0, a1⟩ := unM_bd f a
  obtain ⟨b0, b1⟩ := unM_bd f b
  have h0 := Int.mul_nonneg a0 b0
  have h1 : unM f a * unM f b ≤ 16777215 * 16777215 := Int.mul_le_mul (by omega) (by omega) b0 (by omega)
  refine ⟨h0, by omega, ?_⟩
  obtain ⟨A, hA⟩ := Int.eq_ofNat_of_zero_le a0
  obtain ⟨B, hB⟩ := Int.eq_ofNat_of_zero_le b0
  rw [hA, hB, ← Int.natCast_mul]; rfl

theorem prod_fit (f a b : Int) : FitN (amtP f a b) 9 := by
  have ha := unM_lt f a
  have hb := unM_lt f b
  obtain ⟨a0, a1⟩ := unM_bd f a
  obtain ⟨b0, b1⟩ := unM_bd f b
  have ea := unE_fn f a
  have eb := unE_fn f b
  obtain ⟨x0, x1⟩ := unE_bd f a
  obtain ⟨y0, y1⟩ := unE_bd f b
  obtain ⟨_, _, hm⟩ := mul_bd f a b
  refine fit_of _ ((fn f + 1) + (fn f + 1) + (unE f a + unE f b + 298).toNat) 9 ?_ (by omega)
  unfold amtP amtE
  rw [hm, Nat.pow_add, Nat.pow_add]
  refine Nat.mul_lt_mul_of_pos_right ?_ (np2 _)
  exact Nat.mul_lt_mul_of_lt_of_le (by omega) (by omega) (np2 _)

/-- What Pack is given of a product is the product. -/
theorem prod_val (f a b : Int) : valN (clampE (unE f a + unE f b)) (unM f a * unM f b) false = upN (amtP f a b) := by
  obtain ⟨x0, x1⟩ := unE_bd f a
  obtain ⟨y0, y1⟩ := unE_bd f b
  have q : ∀ M k : Nat, M * 2 ^ (unE f a + unE f b + 298).toNat * 2 ^ k = M * 2 ^ ((unE f a + unE f b + 298).toNat + k) := fun M k => by rw [Nat.mul_assoc, ← Nat.pow_add]
  unfold valN upN amtP amtE
  rw [clamp_in _ (by omega) (by omega), show (unE f a + unE f b + 10100).toNat = (unE f a + unE f b + 298).toNat + 9802 by omega, Bool.toNat_false, Nat.add_zero]
  exact (q _ 9802).symm

theorem amtP_turn (f a b : Int) : amtP f b a = amtP f a b := by unfold amtP; rw [Int.add_comm (unE f b), Int.mul_comm (unM f b)]

theorem mul_turn (f mode a b : Int) : mulE f mode b a = mulE f mode a b := by
  have h1 : sgP f b a = sgP f a b := by unfold sgP; cases fS f a <;> cases fS f b <;> rfl
  have h2 : badB f b a = badB f a b := by unfold badB; cases nouB f a <;> cases nouB f b <;> cases infB f a <;> cases infB f b <;> rfl
  unfold mulE
  rw [h1, h2, amtP_turn, Bool.or_comm (nanB f b), Bool.or_comm (sigB f b), Bool.or_comm (infB f b)]

/-- A product is nought where one of the two is. -/
theorem amtP_zero (f a b : Int) : amtP f a b = 0 ↔ unM f a = 0 ∨ unM f b = 0 := by
  unfold amtP
  rw [amt_zero _ _ (mul_bd f a b).1, Int.mul_eq_zero]

/-- With a nought of the product's sign behind it, it is the product. -/
theorem fma_nought (f mode a b : Int) : fmaE f mode a b (zerI f (sgP f a b)) = mulE f mode a b := by
  obtain ⟨z1, z2, z3, z4, z5⟩ := zer_parts f (sgP f a b)
  obtain ⟨m1, m2, m3, m4⟩ := nou_parts f _ z1 z2
  unfold fmaE mulE
  rw [m1, m2, m3, m4, z3]
  simp only [Bool.or_false, Bool.false_and]
  by_cases hn : (nanB f a || nanB f b) = true
  · have hb : badB f a b = false := by
      have : clsI f a = 4 ∨ clsI f a = 5 ∨ clsI f b = 4 ∨ clsI f b = 5 := by unfold nanB at hn; simp at hn; omega
      unfold badB nouB infB
      rcases this with h | h | h | h <;> rw [h] <;> simp
    rw [hb, Bool.or_false, Bool.or_false, if_pos hn, if_pos hn]
  · rw [if_neg hn]
    have hn' : (nanB f a || nanB f b) = false := (Bool.not_eq_true _).mp hn
    rw [hn', Bool.false_or]
    by_cases hb : badB f a b = true
    · rw [if_pos hb, if_pos hb, hb]; simp
    · rw [if_neg hb, if_neg hb]
      by_cases hi : (infB f a || infB f b) = true
      · rw [if_pos hi, if_pos hi, if_neg (by decide)]
      · rw [if_neg hi, if_neg hi, if_neg (by decide)]
        by_cases hz : amtP f a b = 0
        · rw [hz, fin_noughts, (up_zero 0).2 rfl, pack_zero_is]
        · rw [fin_like f mode _ _ _ (by omega), Nat.add_zero]

/-- The sum of two finite ones, in units of 2 to -10100. -/
def finU (f mode : Int) (n : Bool) (V : Nat) (m : Bool) (W : Nat) : Ending :=
  if V = 0 ∧ W = 0 ∧ n = m then excE (zerI f n) false else if amT n V m W = 0 then excE (zerI f (mode == 3)) false else PackE f mode (sgT n V m W) (amT n V m W)

theorem fin_up (f mode : Int) (n : Bool) (V : Nat) (m : Bool) (W : Nat) : finE f mode n V m W = finU f mode n (upN V) m (upN W) := by
  have lt : ∀ A B : Nat, upN A < upN B ↔ A < B := by
    have q : ∀ k : Nat, 0 < k → ∀ A B : Nat, (A * k < B * k ↔ A < B) := fun k hk A B => Nat.mul_lt_mul_right hk
    exact q _ (np2 9802)
  have ad : ∀ A B : Nat, upN A + upN B = upN (A + B) := by
    have q : ∀ k A B : Nat, A * k + B * k = (A + B) * k := fun k A B => (Nat.add_mul A B k).symm
    exact q _
  have sb : ∀ A B : Nat, upN A - upN B = upN (A - B) := by
    have q : ∀ k A B : Nat, A * k - B * k = (A - B) * k := fun k A B => (Nat.sub_mul A B k).symm
    exact q _
  have hs : sgT n (upN V) m (upN W) = sgT n V m W := by unfold sgT; simp only [lt]
  have ha : amT n (upN V) m (upN W) = upN (amT n V m W) := by
    unfold amT
    by_cases h : n = m
    · rw [if_pos h, if_pos h, ad]
    · rw [if_neg h, if_neg h]
      by_cases c : V < W
      · rw [if_pos c, if_pos ((lt V W).2 c), sb]
      · rw [if_neg c, if_neg (fun g => c ((lt V W).1 g)), sb]
  unfold finE totE finU
  rw [hs, ha]
  simp only [up_zero]

theorem finU_like (f mode : Int) (n : Bool) (V W : Nat) (h : V + W ≠ 0) : finU f mode n V n W = PackE f mode n (V + W) := by
  unfold finU amT sgT
  simp only [if_true]
  rw [if_neg (show ¬ (V = 0 ∧ W = 0 ∧ True) from fun g => h (by omega)), if_neg h]

theorem finU_more (f mode : Int) (n m : Bool) (V W : Nat) (h : ¬ n = m) (c : W < V) : finU f mode n V m W = PackE f mode n (V - W) := by
  have c' : ¬ V < W := by omega
  unfold finU amT sgT
  rw [if_neg (show ¬ (V = 0 ∧ W = 0 ∧ n = m) from fun g => h g.2.2)]
  simp only [if_neg h, if_neg c']
  rw [if_neg (by omega)]

theorem finU_even (f mode : Int) (n m : Bool) (V : Nat) (h : ¬ n = m) : finU f mode n V m V = excE (zerI f (mode == 3)) false := by
  unfold finU amT sgT
  rw [if_neg (show ¬ (V = 0 ∧ V = 0 ∧ n = m) from fun g => h g.2.2)]
  simp only [if_neg h, if_neg (Nat.lt_irrefl V), Nat.sub_self, if_true]

/-- A sum of two near 2 to 63. -/
theorem tog_is (f mode : Int) (n m : Bool) (P Q d E2 : Nat) (e1 : Int) (hP : 4611686018427387904 ≤ P) (hQ : Q ≤ 9223372036854775807) (h2 : Q % 2 = 0) (he : clampE e1 + 10100 = ((d + E2 : Nat) : Int)) (hE : 1 ≤ d + E2) (hd : d = 0 → Q ≤ P) :
    fuE f mode n m (P : Int) ((Q / 2 ^ d : Nat) : Int) e1 (decide (Q % 2 ^ d ≠ 0)) = finU f mode n (P * 2 ^ (d + E2)) m (Q * 2 ^ E2) := by
  have hb := Nat.div_add_mod Q (2 ^ d)
  have hrl := Nat.mod_lt Q (np2 d)
  have hdd := np2 d
  have hEE := np2 (d + E2)
  have hE2 := np2 E2
  have hfn : 2 ^ (fn f + 3) ≤ 2 ^ 26 := Nat.pow_le_pow_right (by decide) (by have := fn_bd f; omega)
  have hq0 : d = 0 → Q / 2 ^ d = Q := fun h => by subst h; simp
  have hq1 : 1 ≤ d → Q / 2 ^ d ≤ Q / 2 := fun h => Nat.div_le_div_left (Nat.pow_le_pow_right (n := 2) (by decide) h) (by decide)
  have hq2 : 2 ≤ d → Q / 2 ^ d ≤ Q / 4 := fun h => Nat.div_le_div_left (Nat.pow_le_pow_right (n := 2) (by decide) h) (by decide)
  have hr2 : Q % 2 ^ d ≠ 0 → 2 ≤ d := by
    intro h
    rcases (show d = 0 ∨ d = 1 ∨ 2 ≤ d by omega) with c | c | c
    · subst c; simp [Nat.mod_one] at h
    · subst c; exact absurd h2 h
    · exact c
  have hW : Q * 2 ^ E2 = Q / 2 ^ d * 2 ^ (d + E2) + Q % 2 ^ d * 2 ^ E2 := by
    rw [Nat.pow_add, ← Nat.mul_assoc, ← Nat.add_mul, Nat.mul_comm (Q / 2 ^ d), hb]
  have ht : ∀ t, t < 2 ^ d → t * 2 ^ E2 < 2 ^ (d + E2) := by
    intro t h; rw [Nat.pow_add]; exact Nat.mul_lt_mul_of_pos_right h hE2
  have hsplit : 2 ^ (d + E2) = 2 ^ d * 2 ^ E2 := Nat.pow_add 2 d E2
  rw [hW]
  generalize Q / 2 ^ d = q at *
  generalize hr : Q % 2 ^ d = r at *
  have hPV : 0 < P * 2 ^ (d + E2) := Nat.mul_pos (by omega) hEE
  by_cases r0 : r = 0
  · subst r0
    rw [show decide ((0 : Nat) ≠ 0) = false from rfl, Nat.zero_mul, Nat.add_zero]
    have hqP : q ≤ P := by
      rcases (show d = 0 ∨ 1 ≤ d by omega) with c | c
      · rw [hq0 c]; exact hd c
      · have := hq1 c; omega
    by_cases h : n = m
    · subst h
      rw [fu_like, finU_like f mode n _ _ (by omega), val_is e1 _ false (P + q) (d + E2) he (by omega), Bool.toNat_false, Nat.add_zero, Nat.add_mul]
    · by_cases c : q = P
      · subst c
        rw [fu_even f mode n m _ _ h, finU_even f mode n m _ h]
      · rw [fu_down f mode n m _ _ _ h (by omega), finU_more f mode n m _ _ h (Nat.mul_lt_mul_of_pos_right (by omega) hEE), val_is e1 _ false (P - q) (d + E2) he (by omega), Bool.toNat_false, Nat.add_zero, Nat.sub_mul]
  · rw [show decide (r ≠ 0) = true from decide_eq_true r0]
    have d2 := hr2 r0
    have hq := hq2 d2
    have h4 : q + 1 ≤ P := by omega
    have hlt : q * 2 ^ (d + E2) + r * 2 ^ E2 < P * 2 ^ (d + E2) := by
      have h1 : (q + 1) * 2 ^ (d + E2) ≤ P * 2 ^ (d + E2) := Nat.mul_le_mul_right _ h4
      have h3 := ht r hrl
      rw [Nat.add_mul, Nat.one_mul] at h1; omega
    by_cases h : n = m
    · subst h
      rw [fu_like, finU_like f mode n _ _ (by omega), val_is e1 _ true (P + q) (d + E2) he (by omega)]
      rw [show P * 2 ^ (d + E2) + (q * 2 ^ (d + E2) + r * 2 ^ E2) = (P + q) * 2 ^ (d + E2) + r * 2 ^ E2 by rw [Nat.add_mul]; omega]
      exact sticky_sum f mode n (P + q) _ _ true (by omega) (ht r hrl) (by simp only [true_iff]; exact mul_nz r _ hE2 |>.2 r0) hE
    · rw [fu_more f mode n m _ _ _ h, finU_more f mode n m _ _ h hlt, val_is e1 _ true (P - q - 1) (d + E2) he (by omega)]
      have hx : (2 ^ d - r) * 2 ^ E2 = 2 ^ (d + E2) - r * 2 ^ E2 := by rw [Nat.sub_mul, hsplit]
      have h3 := ht r hrl
      have h1 : (q + 1) * 2 ^ (d + E2) ≤ P * 2 ^ (d + E2) := Nat.mul_le_mul_right _ h4
      rw [show P * 2 ^ (d + E2) - (q * 2 ^ (d + E2) + r * 2 ^ E2) = (P - q - 1) * 2 ^ (d + E2) + (2 ^ d - r) * 2 ^ E2 by
        rw [hx, Nat.sub_mul, Nat.sub_mul, Nat.one_mul]
        rw [Nat.add_mul, Nat.one_mul] at h1
        omega]
      exact sticky_sum f mode n (P - q - 1) _ _ true (by omega) (ht _ (by omega)) (by simp only [true_iff]; exact mul_nz _ _ hE2 |>.2 (by omega)) hE

/-- A number raised to 63 bits. -/
theorem raise_fit (M : Int) (m0 : 0 < M) (m1 : M < 281474976710656) : 1 ≤ lenI M ∧ lenI M ≤ 48 ∧ 4611686018427387904 ≤ M * 2 ^ (63 - lenI M).toNat ∧ M * 2 ^ (63 - lenI M).toNat ≤ 9223372036854775807 ∧ (M * 2 ^ (63 - lenI M).toNat) % 2 = 0 := by
  have hl := len_log M m0
  have h48 := len_bd M 48 (by omega) (by omega)
  obtain ⟨k, rfl⟩ := Int.eq_ofNat_of_zero_le (Int.le_of_lt m0)
  rw [Int.toNat_natCast] at hl
  have hk : k ≠ 0 := by omega
  have a := Nat.log2_self_le hk
  have b := Nat.lt_log2_self (n := k)
  generalize k.log2 = l at *
  rw [hl]
  have hl47 : l ≤ 47 := by omega
  have e : (63 - ((l : Int) + 1)).toNat = 62 - l := by omega
  rw [e, pow2_cast, ← Int.natCast_mul]
  have h1 : 2 ^ l * 2 ^ (62 - l) ≤ k * 2 ^ (62 - l) := Nat.mul_le_mul_right _ a
  have h2 : k * 2 ^ (62 - l) < 2 ^ (l + 1) * 2 ^ (62 - l) := Nat.mul_lt_mul_of_pos_right b (np2 _)
  rw [← Nat.pow_add, show l + (62 - l) = 62 by omega] at h1
  rw [← Nat.pow_add, show l + 1 + (62 - l) = 63 by omega] at h2
  have h3 : k * 2 ^ (62 - l) % 2 = 0 := by
    rw [show 62 - l = (61 - l) + 1 by omega, Nat.pow_succ, ← Nat.mul_assoc, Nat.mul_mod_left]
  omega

theorem raise_amt (e M : Int) (m0 : 0 < M) (m1 : M < 281474976710656) (e0 : -298 ≤ e) (e1 : e ≤ 400) :
    (M * 2 ^ (63 - lenI M).toNat).toNat * 2 ^ (e - (63 - lenI M) + 10100).toNat = upN (amtE e M) := by
  obtain ⟨l0, l1, _⟩ := raise_fit M m0 m1
  generalize lenI M = L at *
  obtain ⟨k, rfl⟩ := Int.eq_ofNat_of_zero_le (Int.le_of_lt m0)
  have q : ∀ j : Nat, k * 2 ^ (e + 298).toNat * 2 ^ j = k * 2 ^ ((e + 298).toNat + j) := fun j => by rw [Nat.mul_assoc, ← Nat.pow_add]
  unfold upN amtE
  rw [pow2_cast, ← Int.natCast_mul, Int.toNat_natCast, Int.toNat_natCast, Nat.mul_assoc, ← Nat.pow_add]
  rw [show (63 - L).toNat + (e - (63 - L) + 10100).toNat = (e + 298).toNat + 9802 by omega]
  exact (q 9802).symm

/-! The ways of the program's Mul and Fma. -/
theorem inf_parts (f : Int) (s : Bool) : clsI f (infI f s) = 3 ∧ fS f (infI f s) = s ∧ 0 ≤ infI f s ∧ infI f s ≤ 4294967295 := by
  rcases fmt_cases f with ⟨rfl, hf⟩ | ⟨rfl, hf⟩ | ⟨⟨c0, c1⟩, hf⟩ <;> obtain ⟨e1, e2, e3, e4, e5, e6, e7, e8, e9⟩ := hf
  all_goals
    unfold clsI fX fF fS infI zerI
    rw [e3, e4, e5, e7]
    cases s <;> decide

theorem cls_nou (f a : Int) (h : clsI f a = 0) : unM f a = 0 := by
  have c := cls_cases f a
  have ht := topx_pos f
  unfold unM
  rw [if_neg (by omega), if_pos (by omega)]; omega

theorem cls_bd (f a : Int) : 0 ≤ clsI f a ∧ clsI f a ≤ 5 := by unfold clsI; (repeat' split) <;> omega

theorem bad_is (f a b : Int) : badB f a b = ((clsI f a == 0 || clsI f b == 0) && (clsI f a == 3 || clsI f b == 3)) := by
  unfold badB nouB infB
  obtain ⟨a0, a1⟩ := cls_bd f a
  obtain ⟨b0, b1⟩ := cls_bd f b
  generalize clsI f a = A at *
  generalize clsI f b = B at *
  rw [Bool.eq_iff_iff]
  simp
  omega

theorem nan_three : ∀ x4 x5 y4 y5 z4 z5 l : Bool, ((x4 || x5) || (y4 || y5) || (z4 || z5) || l) = ((x5 || y5 || z5) || l || (x4 || y4 || z4)) := by decide

theorem nan_two : ∀ x4 x5 y4 y5 : Bool, ((x4 || x5) || (y4 || y5)) = ((x5 || y5) || (x4 || y4)) := by decide

theorem mul_prog (f mode a b : Int) (G L Q I : Bool) (hG : (clsI f a == 5 || clsI f b == 5) = G) (hL : ((clsI f a == 0 || clsI f b == 0) && (clsI f a == 3 || clsI f b == 3)) = L) (hQ : (clsI f a == 4 || clsI f b == 4) = Q) (hI : (clsI f a == 3 || clsI f b == 3) = I) :
    mulE f mode a b = if (G || L || Q) = true then excE (nanI f) (G || L) else if I = true then excE (infI f (sgP f a b)) false else PackE f mode (sgP f a b) (valN (clampE (unE f a + unE f b)) (unM f a * unM f b) false) := by
  have hn : (nanB f a || nanB f b) = (G || Q) := by rw [← hG, ← hQ]; exact nan_two _ _ _ _
  have hs : (sigB f a || sigB f b) = G := hG
  have hi : (infB f a || infB f b) = I := hI
  unfold mulE
  rw [hn, hs, hi, bad_is, hL, prod_val]
  have hx : L = true → G = false ∧ Q = false := by
    rw [← hL, ← hG, ← hQ]
    intro h
    simp at h ⊢
    omega
  cases G <;> cases L <;> cases Q <;> simp at hx ⊢

theorem fma_prog (f mode a b c : Int) (G L Q I Z : Bool) (hG : (clsI f a == 5 || clsI f b == 5 || clsI f c == 5) = G) (hL : ((clsI f a == 0 || clsI f b == 0) && (clsI f a == 3 || clsI f b == 3)) = L) (hQ : (clsI f a == 4 || clsI f b == 4 || clsI f c == 4) = Q) (hI : (clsI f a == 3 || clsI f b == 3) = I) (hZ : (clsI f a == 0 || clsI f b == 0) = Z) :
    fmaE f mode a b c = if (G || L || Q) = true then excE (nanI f) (G || L) else if I = true then addE f mode (infI f (sgP f a b)) c else if (Z || clsI f c == 3) = true then addE f mode (zerI f (sgP f a b)) c
      else finE f mode (sgP f a b) (amtP f a b) (fS f c) (amtE (unE f c) (unM f c)) := by
  have hn : (nanB f a || nanB f b || nanB f c || badB f a b) = (G || L || Q) := by rw [← hG, ← hQ, bad_is, hL]; exact nan_three _ _ _ _ _ _ _
  have hs : (sigB f a || sigB f b || sigB f c) = G := hG
  have hi : (infB f a || infB f b) = I := hI
  unfold fmaE
  rw [hn, hs, hi, bad_is, hL]
  by_cases h : (G || L || Q) = true
  · rw [if_pos h, if_pos h]
  · rw [if_neg h, if_neg h]
    have hc : nanB f c = false := by
      have h' := (Bool.not_eq_true _).mp h
      rw [← hG, ← hQ] at h'
      unfold nanB
      cases x5 : (clsI f c == 5) <;> cases x4 : (clsI f c == 4) <;> simp_all
    have hL' : L = false := by cases L <;> simp_all
    obtain ⟨i1, i2, i3, i4⟩ := inf_parts f (sgP f a b)
    obtain ⟨z1, z2, z3, z4, z5⟩ := zer_parts f (sgP f a b)
    obtain ⟨m1, m2, m3, m4⟩ := nou_parts f _ z1 z2
    have j1 : nanB f (infI f (sgP f a b)) = false := by unfold nanB; rw [i1]; rfl
    have j2 : infB f (infI f (sgP f a b)) = true := by unfold infB; rw [i1]; rfl
    by_cases hI' : I = true
    · rw [if_pos hI', if_pos hI']
      have e : (sgP f a b != fS f c) = (fS f c != sgP f a b) := by cases sgP f a b <;> cases fS f c <;> rfl
      unfold addE
      simp only [j1, j2, hc, i2, Bool.or_self, Bool.true_and, Bool.false_eq_true, if_false, if_true, e]
    · rw [if_neg hI', if_neg hI']
      have ad : addE f mode (zerI f (sgP f a b)) c = if infB f c = true then excE (infI f (fS f c)) false else finE f mode (sgP f a b) 0 (fS f c) (amtE (unE f c) (unM f c)) := by
        unfold addE
        rw [m1, m3, m4, z3, hc, if_neg (by decide), if_neg (by simp), if_neg (by decide)]
      rw [ad]
      by_cases hC : infB f c = true
      · rw [if_pos hC, if_pos hC]
        have : (clsI f c == 3) = true := hC
        rw [this, Bool.or_true, if_pos rfl]
      · rw [if_neg hC, if_neg hC]
        have hC' : (clsI f c == 3) = false := (Bool.not_eq_true _).mp hC
        rw [hC', Bool.or_false]
        by_cases hZ' : Z = true
        · rw [if_pos hZ']
          have hz : amtP f a b = 0 := by
            rw [amtP_zero]
            rw [← hZ] at hZ'
            simp at hZ'
            rcases hZ' with g | g
            · left; exact cls_nou f a g
            · right; exact cls_nou f b g
          rw [hz]
        · rw [if_neg hZ']

/-- Of a third that is nought: the product alone. -/
theorem fin_third (f mode : Int) (a b c : Int) (h : clsI f c = 0) (hp : 0 < amtP f a b) : finE f mode (sgP f a b) (amtP f a b) (fS f c) (amtE (unE f c) (unM f c)) = PackE f mode (sgP f a b) (valN (clampE (unE f a + unE f b)) (unM f a * unM f b) false) := by
  rw [(amt_zero _ _ (unM_bd f c).1).2 (cls_nou f c h), prod_val]
  by_cases g : sgP f a b = fS f c
  · rw [← g, fin_like f mode _ _ _ (by omega), Nat.add_zero]
  · rw [fin_more f mode _ _ _ _ g hp, Nat.sub_zero]

/-- A quotient cut behind k bits; whether more is behind. -/
def quoN (M N k : Nat) : Nat := M * 2 ^ k / N

def quoB (M N k : Nat) : Bool := decide (M * 2 ^ k % N ≠ 0)

/-- The quotient M / N times 2 to e, rounded. -/
def quoE (f mode : Int) (s : Bool) (e : Int) (M N : Nat) : Ending := PackE f mode s (quoN M N 100 * 2 ^ (e - 100 + 10100).toNat + (quoB M N 100).toNat)

theorem quo_cut (M N k d : Nat) (hN : 0 < N) : quoN M N (k + d) / 2 ^ d = quoN M N k ∧ (quoB M N k = true ↔ (quoN M N (k + d) % 2 ^ d ≠ 0 ∨ quoB M N (k + d) = true)) := by
  have hd := np2 d
  unfold quoN quoB
  rw [Nat.pow_add, ← Nat.mul_assoc]
  generalize M * 2 ^ k = A
  have e1 : A * 2 ^ d / N / 2 ^ d = A / N := by
    rw [Nat.div_div_eq_div_mul, Nat.mul_div_mul_right _ _ hd]
  refine ⟨e1, ?_⟩
  simp only [decide_eq_true_eq]
  have a := Nat.div_add_mod A N
  have b := Nat.div_add_mod (A * 2 ^ d) N
  have c := Nat.div_add_mod (A * 2 ^ d / N) (2 ^ d)
  rw [e1] at c
  have la := Nat.mod_lt A hN
  have lb := Nat.mod_lt (A * 2 ^ d) hN
  constructor
  · intro h
    by_cases g : A * 2 ^ d / N % 2 ^ d = 0
    · right
      intro h2
      apply h
      rw [g, Nat.add_zero] at c
      rw [h2, Nat.add_zero, ← c] at b
      have : N * (A / N) * 2 ^ d = A * 2 ^ d := by rw [← b, Nat.mul_assoc, Nat.mul_comm (A / N)]
      have := Nat.eq_of_mul_eq_mul_right hd this
      omega
    · exact .inl g
  · intro h h0
    rw [h0, Nat.add_zero] at a
    have e2 : A * 2 ^ d = N * (A / N * 2 ^ d) := by rw [← Nat.mul_assoc, a]
    rcases h with h | h
    · apply h
      rw [e2, Nat.mul_div_cancel_left _ hN, Nat.mul_mod_left]
    · apply h
      rw [e2, Nat.mul_mod_right]

/-- What is cut at k bits is rounded as what is cut d bits later. -/
theorem cut_alike (f mode : Int) (s : Bool) (X Y : Nat) (p q : Bool) (d E : Nat) (hX : Y / 2 ^ d = X) (hp : p = true ↔ (Y % 2 ^ d ≠ 0 ∨ q = true)) (hE : 1 ≤ E) (hb : 2 ^ (fn f + 3) ≤ X) :
    PackE f mode s (X * 2 ^ (d + E) + p.toNat) = PackE f mode s (Y * 2 ^ E + q.toNat) := by
  have hd := np2 d
  have h2 : 2 ≤ 2 ^ E := Nat.pow_le_pow_right (n := 2) (by decide) hE
  have hq : q.toNat ≤ 1 := Bool.toNat_le _
  have hm := Nat.mod_lt Y hd
  have hY := Nat.div_add_mod Y (2 ^ d)
  rw [hX] at hY
  have e : Y * 2 ^ E + q.toNat = X * 2 ^ (d + E) + (Y % 2 ^ d * 2 ^ E + q.toNat) := by
    rw [← hY, Nat.pow_add, Nat.add_mul, ← Nat.mul_assoc, Nat.mul_comm (2 ^ d) X]
    have : (2 ^ d * X + Y % 2 ^ d) % 2 ^ d = Y % 2 ^ d := by rw [hY]
    rw [Nat.mul_comm X (2 ^ d), this]; omega
  rw [e]
  refine sticky_sum f mode s X (d + E) _ p hb ?_ ?_ (by omega)
  · have h1 : (Y % 2 ^ d + 1) * 2 ^ E ≤ 2 ^ d * 2 ^ E := Nat.mul_le_mul_right _ hm
    rw [Nat.add_mul] at h1
    rw [Nat.pow_add]; omega
  · rw [hp]
    have z := mul_nz (Y % 2 ^ d) _ (np2 E)
    cases q
    · simp only [Bool.false_eq_true, or_false, Bool.toNat_false, Nat.add_zero]; exact z.symm
    · simp

/-- The quotient, cut wherever it has bits enough. -/
theorem quo_is (f mode : Int) (s : Bool) (e : Int) (M N k : Nat) (hN : 0 < N) (hk : k ≤ 100) (h0 : -9000 ≤ e) (h1 : e ≤ 9000) (hb : 2 ^ (fn f + 3) ≤ quoN M N k) :
    PackE f mode s (valN (clampE (e - k)) (quoN M N k : Int) (quoB M N k)) = quoE f mode s e M N := by
  obtain ⟨d, hd⟩ : ∃ d, k + d = 100 := ⟨100 - k, by omega⟩
  obtain ⟨a, b⟩ := quo_cut M N k d hN
  rw [hd] at a b
  unfold quoE
  rw [toNat_val (e - k) _ _ (quoN M N k) (d + (e - 100 + 10100).toNat) (by rw [clamp_in _ (by omega) (by omega)]; omega) rfl]
  exact cut_alike f mode s _ _ _ _ d _ a b (by omega) hb

theorem quo_scale (M N i j k : Nat) (hN : 0 < N) (h : j ≤ i + k) : quoN (M * 2 ^ i) (N * 2 ^ j) k = quoN M N (i + k - j) ∧ quoB (M * 2 ^ i) (N * 2 ^ j) k = quoB M N (i + k - j) := by
  have e : M * 2 ^ i * 2 ^ k = M * 2 ^ (i + k - j) * 2 ^ j := by
    rw [Nat.mul_assoc, ← Nat.pow_add, Nat.mul_assoc, ← Nat.pow_add]; congr 2; omega
  unfold quoN quoB
  rw [e, Nat.mul_div_mul_right _ _ (np2 j), Nat.mul_mod_mul_right]
  refine ⟨rfl, ?_⟩
  congr 1
  rw [eq_iff_iff, Nat.mul_ne_zero_iff]
  have := np2 j
  omega

/-! Roots. -/
/-- The root of a whole number, cut. -/
def IsRoot (M R : Nat) : Prop := R * R ≤ M ∧ M < (R + 1) * (R + 1)

theorem root_one (M R S : Nat) (h : IsRoot M R) (g : IsRoot M S) : R = S := by
  obtain ⟨a, b⟩ := h
  obtain ⟨c, d⟩ := g
  rcases Nat.lt_trichotomy R S with x | x | x
  · exfalso
    have : (R + 1) * (R + 1) ≤ S * S := Nat.mul_le_mul x x
    omega
  · exact x
  · exfalso
    have : (S + 1) * (S + 1) ≤ R * R := Nat.mul_le_mul x x
    omega

theorem root_cut (M R d : Nat) (h : IsRoot (M * 4 ^ d) R) : IsRoot M (R / 2 ^ d) ∧ (decide (R / 2 ^ d * (R / 2 ^ d) ≠ M) = true ↔ (R % 2 ^ d ≠ 0 ∨ decide (R * R ≠ M * 4 ^ d) = true)) := by
  have hd := np2 d
  have h4 : 4 ^ d = 2 ^ d * 2 ^ d := by rw [← Nat.mul_pow]
  obtain ⟨a, b⟩ := h
  have c := Nat.div_add_mod R (2 ^ d)
  have l := Nat.mod_lt R hd
  rw [h4] at a b ⊢
  generalize R / 2 ^ d = q at *
  generalize R % 2 ^ d = r at *
  generalize 2 ^ d = D at *
  subst c
  have e1 : q * q * (D * D) = (D * q) * (D * q) := by grind
  have e2 : (q + 1) * (q + 1) * (D * D) = (D * q + D) * (D * q + D) := by grind
  have a1 : q * q ≤ M := by
    refine Nat.le_of_mul_le_mul_right (c := D * D) ?_ (Nat.mul_pos hd hd)
    rw [e1]
    exact Nat.le_trans (Nat.mul_le_mul (Nat.le_add_right _ r) (Nat.le_add_right _ r)) a
  have b1 : M < (q + 1) * (q + 1) := by
    refine Nat.lt_of_mul_lt_mul_right (a := D * D) ?_
    rw [e2]
    exact Nat.lt_of_lt_of_le b (Nat.mul_le_mul (by omega) (by omega))
  refine ⟨⟨a1, b1⟩, ?_⟩
  simp only [decide_eq_true_eq]
  constructor
  · intro h
    by_cases g : r = 0
    · right
      intro h2
      subst g
      apply h
      rw [Nat.add_zero, ← e1] at h2
      exact Nat.eq_of_mul_eq_mul_right (Nat.mul_pos hd hd) h2
    · exact .inl g
  · intro h h0
    subst h0
    rw [e1] at a b
    have hr : r = 0 := by
      rcases Nat.eq_zero_or_pos r with g | g
      · exact g
      · exfalso
        have : (D * q + 1) * (D * q + 1) ≤ (D * q + r) * (D * q + r) := Nat.mul_le_mul (by omega) (by omega)
        have e : (D * q + 1) * (D * q + 1) = (D * q) * (D * q) + 2 * (D * q) + 1 := by grind
        omega
    rcases h with h | h
    · exact h hr
    · apply h
      rw [hr, Nat.add_zero, e1]

/-- The root, cut at k bits and at d more: rounded alike. -/
theorem roo_is (f mode : Int) (s : Bool) (e : Int) (M R S k d : Nat) (h : IsRoot (M * 4 ^ k) R) (g : IsRoot (M * 4 ^ (k + d)) S) (h0 : -9000 ≤ e - k - d) (h1 : e ≤ 9000) (hb : 2 ^ (fn f + 3) ≤ R) :
    PackE f mode s (valN (clampE (e - k)) (R : Int) (decide (R * R ≠ M * 4 ^ k))) = PackE f mode s (valN (clampE (e - k - d)) (S : Int) (decide (S * S ≠ M * 4 ^ (k + d)))) := by
  have e4 : M * 4 ^ (k + d) = M * 4 ^ k * 4 ^ d := by rw [Nat.pow_add, Nat.mul_assoc]
  rw [e4] at g ⊢
  obtain ⟨a, b⟩ := root_cut (M * 4 ^ k) S d g
  have hr := root_one _ _ _ a h
  rw [hr] at b
  obtain ⟨E, hE⟩ : ∃ E : Nat, e - k - d + 10100 = E := ⟨(e - k - d + 10100).toNat, by omega⟩
  rw [toNat_val (e - k) _ _ R (d + E) (by rw [clamp_in _ (by omega) (by omega)]; omega) rfl]
  rw [toNat_val (e - k - d) _ _ S E (by rw [clamp_in _ (by omega) (by omega)]; omega) rfl]
  exact cut_alike f mode s R S _ _ d E hr b (by omega) hb

/-- A number, and that it was divided by nought. -/
def divZ (v : Int) : Ending := .returned (.tuple #[.int .u32 v, .agg #[.bool false, .bool true, .bool false, .bool false, .bool false]])

theorem divZ_is (v : Int) : .returned (.tuple #[.int .u32 v, .agg #[.bool false, .bool true, .bool false, .bool false, .bool false]]) = divZ v := rfl

/-- Div of any bits. -/
def divE (f mode a b : Int) : Ending :=
  if (nanB f a || nanB f b) = true then excE (nanI f) (sigB f a || sigB f b)
  else if (nouB f a && nouB f b || infB f a && infB f b) = true then excE (nanI f) true
  else if infB f a = true then excE (infI f (sgP f a b)) false
  else if (infB f b || nouB f a) = true then excE (zerI f (sgP f a b)) false
  else if nouB f b = true then divZ (infI f (sgP f a b))
  else quoE f mode (sgP f a b) (unE f a - unE f b) (unM f a).toNat (unM f b).toNat

theorem num_pos (f a : Int) (h : nanB f a = false) (z : nouB f a = false) (i : infB f a = false) : 0 < unM f a := by
  have n := nou_is f a (fin_of f a h i)
  rw [amt_zero _ _ (unM_bd f a).1] at n
  have := (unM_bd f a).1
  have : unM f a ≠ 0 := fun g => by rw [n.2 g] at z; exact absurd z (by decide)
  omega

/-- A number moved until it has 24 bits. -/
structure UpTo (M : Int) (i : Nat) : Prop where
  lo : 0 < M * 2 ^ i
  hi : M * 2 ^ i < 16777216

theorem upto_zero (M : Int) (h0 : 0 < M) (h1 : M < 16777216) : UpTo M 0 := ⟨by omega, by omega⟩

theorem upto_next (M : Int) (i : Nat) (h : UpTo M i) (c : M * 2 ^ i < 8388608) : UpTo M (i + 1) ∧ IntKind.u64.wrap (M * 2 ^ i * 2) = M * 2 ^ (i + 1) := by
  obtain ⟨a, b⟩ := h
  have e : M * 2 ^ (i + 1) = M * 2 ^ i * 2 := by rw [Int.pow_succ, Int.mul_assoc]
  exact ⟨⟨by omega, by omega⟩, by rw [e]; exact u64w _ (by omega) (by omega)⟩

/-- What the reference hands to Pack is the quotient. -/
theorem rquo_is (f mode : Int) (s : Bool) (x y M K : Int) (i j : Nat) (m0 : 0 < M) (k0 : 0 < K) (hx : -200 ≤ x) (hx1 : x ≤ 200) (hy : -200 ≤ y) (hy1 : y ≤ 200) (hi : i ≤ 23) (hj : j ≤ 23) (hM : 8388608 ≤ M * 2 ^ i) (hM2 : M * 2 ^ i < 16777216) (hK : 8388608 ≤ K * 2 ^ j) (hK2 : K * 2 ^ j < 16777216) :
    PackE f mode s (valN (clampE (x - (i : Int) - (y - (j : Int)) - 40)) (M * 2 ^ i * 1099511627776 / (K * 2 ^ j)) (decide (M * 2 ^ i * 1099511627776 % (K * 2 ^ j) ≠ 0))) = quoE f mode s (x - y) M.toNat K.toNat := by
  obtain ⟨A, rfl⟩ := Int.eq_ofNat_of_zero_le (Int.le_of_lt m0)
  obtain ⟨B, rfl⟩ := Int.eq_ofNat_of_zero_le (Int.le_of_lt k0)
  rw [Int.toNat_natCast, Int.toNat_natCast]
  rw [pow2_cast, ← Int.natCast_mul] at hM hM2
  rw [pow2_cast, ← Int.natCast_mul] at hK hK2
  obtain ⟨q1, q2⟩ := quo_scale A B i j 40 (by omega) (by omega)
  have hb : 2 ^ (fn f + 3) ≤ quoN A B (i + 40 - j) := by
    rw [← q1]
    unfold quoN
    have h26 : 2 ^ (fn f + 3) ≤ 67108864 := by
      have h : 2 ^ (fn f + 3) ≤ 2 ^ 26 := Nat.pow_le_pow_right (by decide) (by have := fn_bd f; omega)
      exact h
    generalize A * 2 ^ i = P at hM hM2 ⊢
    generalize B * 2 ^ j = R at hK hK2 ⊢
    refine Nat.le_trans h26 ((Nat.le_div_iff_mul_le (by omega)).2 ?_)
    rw [show (2 : Nat) ^ 40 = 1099511627776 from rfl]
    omega
  have h := quo_is f mode s (x - y) A B (i + 40 - j) (by omega) (by omega) (by omega) (by omega) hb
  rw [← h, ← q1, ← q2]
  have e1 : (A : Int) * 2 ^ i * 1099511627776 / ((B : Int) * 2 ^ j) = ((quoN (A * 2 ^ i) (B * 2 ^ j) 40 : Nat) : Int) := by
    unfold quoN
    rw [pow2_cast i, pow2_cast j, ← Int.natCast_mul, ← Int.natCast_mul, show (1099511627776 : Int) = ((2 ^ 40 : Nat) : Int) from rfl, ← Int.natCast_mul, ← Int.natCast_ediv]
  have e2 : decide ((A : Int) * 2 ^ i * 1099511627776 % ((B : Int) * 2 ^ j) ≠ 0) = quoB (A * 2 ^ i) (B * 2 ^ j) 40 := by
    unfold quoB
    rw [pow2_cast i, pow2_cast j, ← Int.natCast_mul, ← Int.natCast_mul, show (1099511627776 : Int) = ((2 ^ 40 : Nat) : Int) from rfl, ← Int.natCast_mul, ← Int.natCast_emod]
    congr 1
    rw [eq_iff_iff]; omega
  rw [e1, e2, show x - (i : Int) - (y - (j : Int)) - 40 = x - y - ((i + 40 - j : Nat) : Int) by omega]

/-! Roots of any bits. -/
/-- M times 2 to x as a number times a power of four. -/
def evM (x : Int) (M : Nat) : Nat := if x % 2 = 0 then M else 2 * M

def evX (x : Int) : Int := if x % 2 = 0 then x / 2 else (x - 1) / 2

def rooN (M k : Nat) : Nat := isq (M * 4 ^ k)

def rooB (M k : Nat) : Bool := decide (rooN M k * rooN M k ≠ M * 4 ^ k)

theorem roo_root (M k : Nat) : IsRoot (M * 4 ^ k) (rooN M k) := isq_le _

/-- The root of M times 2 to x, rounded. -/
def rooE (f mode x : Int) (M : Nat) : Ending := PackE f mode false (valN (clampE (evX x - 60)) (rooN (evM x M) 60 : Int) (rooB (evM x M) 60))

/-- Sqrt of any bits. -/
def sqrE (f mode a : Int) : Ending :=
  if nanB f a = true then excE (nanI f) (sigB f a)
  else if nouB f a = true then excE (zerI f (fS f a)) false
  else if fS f a = true then excE (nanI f) true
  else if infB f a = true then excE (infI f false) false
  else rooE f mode (unE f a) (unM f a).toNat

/-- What is handed to Pack of a number that is moved by i is the root. -/
theorem rroo_is (f mode : Int) (x M P y : Int) (i : Nat) (m0 : 0 < M) (hx : -2000 ≤ x) (hx1 : x ≤ 2000) (hi : i ≤ 119) (hP : P = M * 2 ^ i) (hy : y = x - (i : Int)) (he : y % 2 = 0) (h61 : 2305843009213693952 ≤ P) :
    PackE f mode false (valN (clampE (y / 2)) (rootI P) (!(rootI P * rootI P == P))) = rooE f mode x M.toNat := by
  obtain ⟨A, rfl⟩ := Int.eq_ofNat_of_zero_le (Int.le_of_lt m0)
  rw [Int.toNat_natCast]
  obtain ⟨k, hk⟩ : ∃ k : Nat, k = i / 2 := ⟨_, rfl⟩
  have hev : A * 2 ^ i = evM x A * 4 ^ k := by
    unfold evM
    have h4 : (4 : Nat) ^ k = 2 ^ (2 * k) := by rw [Nat.pow_mul]
    rw [h4]
    by_cases c : x % 2 = 0
    · rw [if_pos c, show 2 * k = i by omega]
    · rw [if_neg c, show i = 2 * k + 1 by omega, Nat.pow_succ]
      generalize 2 ^ (2 * k) = q
      grind
  have hP2 : P = ((evM x A * 4 ^ k : Nat) : Int) := by rw [hP, pow2_cast, ← Int.natCast_mul, hev]
  have hr : rootI P = ((rooN (evM x A) k : Nat) : Int) := by
    unfold rootI rooN; rw [hP2, Int.toNat_natCast]
  have hb : (!(rootI P * rootI P == P)) = decide (rooN (evM x A) k * rooN (evM x A) k ≠ evM x A * 4 ^ k) := by
    rw [hr, hP2, ← Int.natCast_mul, Bool.eq_iff_iff]
    simp only [Bool.not_eq_true', beq_eq_false_iff_ne, ne_eq, decide_eq_true_eq]
    omega
  have hxy : y / 2 = evX x - (k : Int) := by
    unfold evX; split <;> omega
  have hroot := roo_root (evM x A) k
  have hbits : 2 ^ (fn f + 3) ≤ rooN (evM x A) k := by
    have h26 : 2 ^ (fn f + 3) ≤ 67108864 := by
      have h : 2 ^ (fn f + 3) ≤ 2 ^ 26 := Nat.pow_le_pow_right (by decide) (by have := fn_bd f; omega)
      exact h
    refine Nat.le_trans h26 (Nat.le_of_not_lt fun g => ?_)
    have : (rooN (evM x A) k + 1) * (rooN (evM x A) k + 1) ≤ 67108864 * 67108864 := Nat.mul_le_mul g g
    have := hroot.2
    omega
  have hE : -2000 ≤ evX x ∧ evX x ≤ 2000 := by unfold evX; split <;> omega
  obtain ⟨d, hd⟩ : ∃ d, k + d = 60 := ⟨60 - k, by omega⟩
  have h := roo_is f mode false (evX x) (evM x A) (rooN (evM x A) k) (rooN (evM x A) 60) k d hroot (by rw [hd]; exact roo_root _ _) (by omega) (by omega) hbits
  rw [hb, hr, hxy, h, hd]
  unfold rooE rooB
  rw [show evX x - (k : Int) - (d : Int) = evX x - 60 by omega]
end Go.Proofs.Ytheaeclojljecaa
