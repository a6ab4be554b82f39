/- Sums of two raised numbers; the ways of package prod's Mul and Fma (no program here). -/
import Derived.Test.YtianheeefhemhaaProdMath
namespace Go.Proofs.Ytianheeefhemhaa
open Go.RowKit
set_option linter.unusedVariables false
set_option linter.unusedSimpArgs false

/-- The sum of two finite ones, in units of 2 to -10100. -/
def finU (f mode : Int) (n : Bool) (V : Nat) (m : Bool) (W : Nat) : Ending :=
  if V = 0 ∧ W = 0 ∧ n = m then excE (zerI f n) false else if amT n V m W = 0 then excE (zerI f (mode == 3)) false else PackE f mode (sgT n V m W) (amT n V m W)

theorem fin_up (f mode : Int) (n : Bool) (V : Nat) (m : Bool) (W : Nat) : finE f mode n V m W = finU f mode n (upN V) m (upN W) := by
  have lt : ∀ A B : Nat, upN A < upN B ↔ A < B := by
    have q : ∀ k : Nat, 0 < k → ∀ A B : Nat, (A * k < B * k ↔ A < B) := fun k hk A B => Nat.mul_lt_mul_right hk
    exact q _ (np2 9802)
  have ad : ∀ A B : Nat, upN A + upN B = upN (A + B) := by
    have q : ∀ k A B : Nat, A * k + B * k = (A + B) * k := fun k A B => (Nat.add_mul A B k).symm
    exact q _
  have sb : ∀ A B : Nat, upN A - upN B = upN (A - B) := by
    have q : ∀ k A B : Nat, A * k - B * k = (A - B) * k := fun k A B => (Nat.sub_mul A B k).symm
    exact q _
  have hs : sgT n (upN V) m (upN W) = sgT n V m W := by unfold sgT; simp only [lt]
  have ha : amT n (upN V) m (upN W) = upN (amT n V m W) := by
    unfold amT
    by_cases h : n = m
    · rw [if_pos h, if_pos h, ad]
    · rw [if_neg h, if_neg h]
      by_cases c : V < W
      · rw [if_pos c, if_pos ((lt V W).2 c), sb]
      · rw [if_neg c, if_neg (fun g => c ((lt V W).1 g)), sb]
  unfold finE totE finU
  rw [hs, ha]
  simp only [up_zero]

theorem finU_like (f mode : Int) (n : Bool) (V W : Nat) (h : V + W ≠ 0) : finU f mode n V n W = PackE f mode n (V + W) := by
  unfold finU amT sgT
  simp only [if_true]
  rw [if_neg (show ¬ (V = 0 ∧ W = 0 ∧ True) from fun g => h (by omega)), if_neg h]

theorem finU_more (f mode : Int) (n m : Bool) (V W : Nat) (h : ¬ n = m) (c : W < V) : finU f mode n V m W = PackE f mode n (V - W) := by
  have c' : ¬ V < W := by omega
  unfold finU amT sgT
  rw [if_neg (show ¬ (V = 0 ∧ W = 0 ∧ n = m) from fun g => h g.2.2)]
  simp only [if_neg h, if_neg c']
  rw [if_neg (by omega)]

theorem finU_even (f mode : Int) (n m : Bool) (V : Nat) (h : ¬ n = m) : finU f mode n V m V = excE (zerI f (mode == 3)) false := by
  unfold finU amT sgT
  rw [if_neg (show ¬ (V = 0 ∧ V = 0 ∧ n = m) from fun g => h g.2.2)]
  simp only [if_neg h, if_neg (Nat.lt_irrefl V), Nat.sub_self, if_true]

/-- A sum of two near 2 to 63. -/
theorem tog_is (f mode : Int) (n m : Bool) (P Q d E2 : Nat) (e1 : Int) (hP : 4611686018427387904 ≤ P) (hQ : Q ≤ 9223372036854775807) (h2 : Q % 2 = 0) (he : clampE e1 + 10100 = ((d + E2 : Nat) : Int)) (hE : 1 ≤ d + E2) (hd : d = 0 → Q ≤ P) :
    fuE f mode n m (P : Int) ((Q / 2 ^ d : Nat) : Int) e1 (decide (Q % 2 ^ d ≠ 0)) = finU f mode n (P * 2 ^ (d + E2)) m (Q * 2 ^ E2) := by
  have hb := Nat.div_add_mod Q (2 ^ d)
  have hrl := Nat.mod_lt Q (np2 d)
  have hdd := np2 d
  have hEE := np2 (d + E2)
  have hE2 := np2 E2
  have hfn : 2 ^ (fn f + 3) ≤ 2 ^ 26 := Nat.pow_le_pow_right (by decide) (by have := fn_bd f; omega)
  have hq0 : d = 0 → Q / 2 ^ d = Q := fun h => by subst h; simp
  have hq1 : 1 ≤ d → Q / 2 ^ d ≤ Q / 2 := fun h => Nat.div_le_div_left (Nat.pow_le_pow_right (n := 2) (by decide) h) (by decide)
  have hq2 : 2 ≤ d → Q / 2 ^ d ≤ Q / 4 := fun h => Nat.div_le_div_left (Nat.pow_le_pow_right (n := 2) (by decide) h) (by decide)
  have hr2 : Q % 2 ^ d ≠ 0 → 2 ≤ d := by
    intro h
    rcases (show d = 0 ∨ d = 1 ∨ 2 ≤ d by omega) with c | c | c
    · subst c; simp [Nat.mod_one] at h
    · subst c; exact absurd h2 h
    · exact c
  have hW : Q * 2 ^ E2 = Q / 2 ^ d * 2 ^ (d + E2) + Q % 2 ^ d * 2 ^ E2 := by
    rw [Nat.pow_add, ← Nat.mul_assoc, ← Nat.add_mul, Nat.mul_comm (Q / 2 ^ d), hb]
  have ht : ∀ t, t < 2 ^ d → t * 2 ^ E2 < 2 ^ (d + E2) := by
    intro t h; rw [Nat.pow_add]; exact Nat.mul_lt_mul_of_pos_right h hE2
  have hsplit : 2 ^ (d + E2) = 2 ^ d * 2 ^ E2 := Nat.pow_add 2 d E2
  rw [hW]
  generalize Q / 2 ^ d = q at *
  generalize hr : Q % 2 ^ d = r at *
  have hPV : 0 < P * 2 ^ (d + E2) := Nat.mul_pos (by omega) hEE
  by_cases r0 : r = 0
  · subst r0
    rw [show decide ((0 : Nat) ≠ 0) = false from rfl, Nat.zero_mul, Nat.add_zero]
    have hqP : q ≤ P := by
      rcases (show d = 0 ∨ 1 ≤ d by omega) with c | c
      · rw [hq0 c]; exact hd c
      · have := hq1 c; omega
    by_cases h : n = m
    · subst h
      rw [fu_like, finU_like f mode n _ _ (by omega), val_is e1 _ false (P + q) (d + E2) he (by omega), Bool.toNat_false, Nat.add_zero, Nat.add_mul]
    · by_cases c : q = P
      · subst c
        rw [fu_even f mode n m _ _ h, finU_even f mode n m _ h]
      · rw [fu_down f mode n m _ _ _ h (by omega), finU_more f mode n m _ _ h (Nat.mul_lt_mul_of_pos_right (by omega) hEE), val_is e1 _ false (P - q) (d + E2) he (by omega), Bool.toNat_false, Nat.add_zero, Nat.sub_mul]
  · rw [show decide (r ≠ 0) = true from decide_eq_true r0]
    have d2 := hr2 r0
    have hq := hq2 d2
    have h4 : q + 1 ≤ P := by omega
    have hlt : q * 2 ^ (d + E2) + r * 2 ^ E2 < P * 2 ^ (d + E2) := by
      have h1 : (q + 1) * 2 ^ (d + E2) ≤ P * 2 ^ (d + E2) := Nat.mul_le_mul_right _ h4
      have h3 := ht r hrl
      rw [Nat.add_mul, Nat.one_mul] at h1; omega
    by_cases h : n = m
    · subst h
      rw [fu_like, finU_like f mode n _ _ (by omega), val_is e1 _ true (P + q) (d + E2) he (by omega)]
      rw [show P * 2 ^ (d + E2) + (q * 2 ^ (d + E2) + r * 2 ^ E2) = (P + q) * 2 ^ (d + E2) + r * 2 ^ E2 by rw [Nat.add_mul]; omega]
      exact sticky_sum f mode n (P + q) _ _ true (by omega) (ht r hrl) (by simp only [true_iff]; exact mul_nz r _ hE2 |>.2 r0) hE
    · rw [fu_more f mode n m _ _ _ h, finU_more f mode n m _ _ h hlt, val_is e1 _ true (P - q - 1) (d + E2) he (by omega)]
      have hx : (2 ^ d - r) * 2 ^ E2 = 2 ^ (d + E2) - r * 2 ^ E2 := by rw [Nat.sub_mul, hsplit]
      have h3 := ht r hrl
      have h1 : (q + 1) * 2 ^ (d + E2) ≤ P * 2 ^ (d + E2) := Nat.mul_le_mul_right _ h4
      rw [show P * 2 ^ (d + E2) - (q * 2 ^ (d + E2) + r * 2 ^ E2) = (P - q - 1) * 2 ^ (d + E2) + (2 ^ d - r) * 2 ^ E2 by
        rw [hx, Nat.sub_mul, Nat.sub_mul, Nat.one_mul]
        rw [Nat.add_mul, Nat.one_mul] at h1
        omega]
      exact sticky_sum f mode n (P - q - 1) _ _ true (by omega) (ht _ (by omega)) (by simp only [true_iff]; exact mul_nz _ _ hE2 |>.2 (by omega)) hE

/-- A number raised to 63 bits. -/
theorem raise_fit (M : Int) (m0 : 0 < M) (m1 : M < 281474976710656) : 1 ≤ lenI M ∧ lenI M ≤ 48 ∧ 4611686018427387904 ≤ M * 2 ^ (63 - lenI M).toNat ∧ M * 2 ^ (63 - lenI M).toNat ≤ 9223372036854775807 ∧ (M * 2 ^ (63 - lenI M).toNat) % 2 = 0 := by
  have hl := len_log M m0
  have h48 := len_bd M 48 (by omega) (by omega)
  obtain ⟨k, rfl⟩ := Int.eq_ofNat_of_zero_le (Int.le_of_lt m0)
  rw [Int.toNat_natCast] at hl
  have hk : k ≠ 0 := by omega
  have a := Nat.log2_self_le hk
  have b := Nat.lt_log2_self (n := k)
  generalize k.log2 = l at *
  rw [hl]
  have hl47 : l ≤ 47 := by omega
  have e : (63 - ((l : Int) + 1)).toNat = 62 - l := by omega
  rw [e, pow2_cast, ← Int.natCast_mul]
  have h1 : 2 ^ l * 2 ^ (62 - l) ≤ k * 2 ^ (62 - l) := Nat.mul_le_mul_right _ a
  have h2 : k * 2 ^ (62 - l) < 2 ^ (l + 1) * 2 ^ (62 - l) := Nat.mul_lt_mul_of_pos_right b (np2 _)
  rw [← Nat.pow_add, show l + (62 - l) = 62 by omega] at h1
  rw [← Nat.pow_add, show l + 1 + (62 - l) = 63 by omega] at h2
  have h3 : k * 2 ^ (62 - l) % 2 = 0 := by
    rw [show 62 - l = (61 - l) + 1 by omega, Nat.pow_succ, ← Nat.mul_assoc, Nat.mul_mod_left]
  omega

theorem raise_amt (e M : Int) (m0 : 0 < M) (m1 : M < 281474976710656) (e0 : -298 ≤ e) (e1 : e ≤ 400) :
    (M * 2 ^ (63 - lenI M).toNat).toNat * 2 ^ (e - (63 - lenI M) + 10100).toNat = upN (amtE e M) := by
  obtain ⟨l0, l1, _⟩ := raise_fit M m0 m1
  generalize lenI M = L at *
  obtain ⟨k, rfl⟩ := Int.eq_ofNat_of_zero_le (Int.le_of_lt m0)
  have q : ∀ j : Nat, k * 2 ^ (e + 298).toNat * 2 ^ j = k * 2 ^ ((e + 298).toNat + j) := fun j => by rw [Nat.mul_assoc, ← Nat.pow_add]
  unfold upN amtE
  rw [pow2_cast, ← Int.natCast_mul, Int.toNat_natCast, Int.toNat_natCast, Nat.mul_assoc, ← Nat.pow_add]
  rw [show (63 - L).toNat + (e - (63 - L) + 10100).toNat = (e + 298).toNat + 9802 by omega]
  exact (q 9802).symm

/-! The ways of the program's Mul and Fma. -/
theorem inf_parts (f : Int) (s : Bool) : clsI f (infI f s) = 3 ∧ fS f (infI f s) = s ∧ 0 ≤ infI f s ∧ infI f s ≤ 4294967295 := by
  rcases fmt_cases f with ⟨rfl, hf⟩ | ⟨rfl, hf⟩ | ⟨⟨c0, c1⟩, hf⟩ <;> obtain ⟨e1, e2, e3, e4, e5, e6, e7, e8, e9⟩ := hf
  all_goals
    unfold clsI fX fF fS infI zerI
    rw [e3, e4, e5, e7]
    cases s <;> decide

theorem cls_nou (f a : Int) (h : clsI f a = 0) : unM f a = 0 := by
  have c := cls_cases f a
  have ht := topx_pos f
  unfold unM
  rw [if_neg (by omega), if_pos (by omega)]; omega

theorem cls_bd (f a : Int) : 0 ≤ clsI f a ∧ clsI f a ≤ 5 := by unfold clsI; (repeat' split) <;> omega

theorem bad_is (f a b : Int) : badB f a b = ((clsI f a == 0 || clsI f b == 0) && (clsI f a == 3 || clsI f b == 3)) := by
  unfold badB nouB infB
  obtain ⟨a0, a1⟩ := cls_bd f a
  obtain ⟨b0, b1⟩ := cls_bd f b
  generalize clsI f a = A at *
  generalize clsI f b = B at *
  rw [Bool.eq_iff_iff]
  simp
  omega

theorem nan_three : ∀ x4 x5 y4 y5 z4 z5 l : Bool, ((x4 || x5) || (y4 || y5) || (z4 || z5) || l) = ((x5 || y5 || z5) || l || (x4 || y4 || z4)) := by decide

theorem nan_two : ∀ x4 x5 y4 y5 : Bool, ((x4 || x5) || (y4 || y5)) = ((x5 || y5) || (x4 || y4)) := by decide

theorem mul_prog (f mode a b : Int) (G L Q I : Bool) (hG : (clsI f a == 5 || clsI f b == 5) = G) (hL : ((clsI f a == 0 || clsI f b == 0) && (clsI f a == 3 || clsI f b == 3)) = L) (hQ : (clsI f a == 4 || clsI f b == 4) = Q) (hI : (clsI f a == 3 || clsI f b == 3) = I) :
    mulE f mode a b = if (G || L || Q) = true then excE (nanI f) (G || L) else if I = true then excE (infI f (sgP f a b)) false else PackE f mode (sgP f a b) (valN (clampE (unE f a + unE f b)) (unM f a * unM f b) false) := by
  have hn : (nanB f a || nanB f b) = (G || Q) := by rw [← hG, ← hQ]; exact nan_two _ _ _ _
  have hs : (sigB f a || sigB f b) = G := hG
  have hi : (infB f a || infB f b) = I := hI
  unfold mulE
  rw [hn, hs, hi, bad_is, hL, prod_val]
  have hx : L = true → G = false ∧ Q = false := by
    rw [← hL, ← hG, ← hQ]
    intro h
    simp at h ⊢
    omega
  cases G <;> cases L <;> cases Q <;> simp at hx ⊢

theorem fma_prog (f mode a b c : Int) (G L Q I Z : Bool) (hG : (clsI f a == 5 || clsI f b == 5 || clsI f c == 5) = G) (hL : ((clsI f a == 0 || clsI f b == 0) && (clsI f a == 3 || clsI f b == 3)) = L) (hQ : (clsI f a == 4 || clsI f b == 4 || clsI f c == 4) = Q) (hI : (clsI f a == 3 || clsI f b == 3) = I) (hZ : (clsI f a == 0 || clsI f b == 0) = Z) :
    fmaE f mode a b c = if (G || L || Q) = true then excE (nanI f) (G || L) else if I = true then addE f mode (infI f (sgP f a b)) c else if (Z || clsI f c == 3) = true then addE f mode (zerI f (sgP f a b)) c
      else finE f mode (sgP f a b) (amtP f a b) (fS f c) (amtE (unE f c) (unM f c)) := by
  have hn : (nanB f a || nanB f b || nanB f c || badB f a b) = (G || L || Q) := by rw [← hG, ← hQ, bad_is, hL]; exact nan_three _ _ _ _ _ _ _
  have hs : (sigB f a || sigB f b || sigB f c) = G := hG
  have hi : (infB f a || infB f b) = I := hI
  unfold fmaE
  rw [hn, hs, hi, bad_is, hL]
  by_cases h : (G || L || Q) = true
  · rw [if_pos h, if_pos h]
  · rw [if_neg h, if_neg h]
    have hc : nanB f c = false := by
      have h' := (Bool.not_eq_true _).mp h
      rw [← hG, ← hQ] at h'
      unfold nanB
      cases x5 : (clsI f c == 5) <;> cases x4 : (clsI f c == 4) <;> simp_all
    have hL' : L = false := by cases L <;> simp_all
    obtain ⟨i1, i2, i3, i4⟩ := inf_parts f (sgP f a b)
    obtain ⟨z1, z2, z3, z4, z5⟩ := zer_parts f (sgP f a b)
    obtain ⟨m1, m2, m3, m4⟩ := nou_parts f _ z1 z2
    have j1 : nanB f (infI f (sgP f a b)) = false := by unfold nanB; rw [i1]; rfl
    have j2 : infB f (infI f (sgP f a b)) = true := by unfold infB; rw [i1]; rfl
    by_cases hI' : I = true
    · rw [if_pos hI', if_pos hI']
      have e : (sgP f a b != fS f c) = (fS f c != sgP f a b) := by cases sgP f a b <;> cases fS f c <;> rfl
      unfold addE
      simp only [j1, j2, hc, i2, Bool.or_self, Bool.true_and, Bool.false_eq_true, if_false, if_true, e]
    · rw [if_neg hI', if_neg hI']
      have ad : addE f mode (zerI f (sgP f a b)) c = if infB f c = true then excE (infI f (fS f c)) false else finE f mode (sgP f a b) 0 (fS f c) (amtE (unE f c) (unM f c)) := by
        unfold addE
        rw [m1, m3, m4, z3, hc, if_neg (by decide), if_neg (by simp), if_neg (by decide)]
      rw [ad]
      by_cases hC : infB f c = true
      · rw [if_pos hC, if_pos hC]
        have : (clsI f c == 3) = true := hC
        rw [this, Bool.or_true, if_pos rfl]
      · rw [if_neg hC, if_neg hC]
        have hC' : (clsI f c == 3) = false := (Bool.not_eq_true _).mp hC
        rw [hC', Bool.or_false]
        by_cases hZ' : Z = true
        · rw [if_pos hZ']
          have hz : amtP f a b = 0 := by
            rw [amtP_zero]
            rw [← hZ] at hZ'
            simp at hZ'
            rcases hZ' with g | g
            · left; exact cls_nou f a g
            · right; exact cls_nou f b g
          rw [hz]
        · rw [if_neg hZ']

/-- Of a third that is nought: the product alone. -/
theorem fin_third (f mode : Int) (a b c : Int) (h : clsI f c = 0) (hp : 0 < amtP f a b) : finE f mode (sgP f a b) (amtP f a b) (fS f c) (amtE (unE f c) (unM f c)) = PackE f mode (sgP f a b) (valN (clampE (unE f a + unE f b)) (unM f a * unM f b) false) := by
  rw [(amt_zero _ _ (unM_bd f c).1).2 (cls_nou f c h), prod_val]
  by_cases g : sgP f a b = fS f c
  · rw [← g, fin_like f mode _ _ _ (by omega), Nat.add_zero]
  · rw [fin_more f mode _ _ _ _ g hp, Nat.sub_zero]
end Go.Proofs.Ytianheeefhemhaa
