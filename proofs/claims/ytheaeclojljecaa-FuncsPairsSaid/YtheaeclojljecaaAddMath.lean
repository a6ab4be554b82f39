/- Sums of two numbers: what they come to (no program here). -/
import Derived.Test.YtheaeclojljecaaMath
import Derived.Test.YtheaeclojljecaaTotal
import Derived.Test.YtheaeclojljecaaNans
namespace Go.Proofs.Ytheaeclojljecaa
open Go.RowKit
set_option linter.unusedVariables false

/-! Sums of two numbers: what they come to (no program here). -/
/-- M times 2 to e, in units of 2 to -298. -/
def amtE (e M : Int) : Nat := M.toNat * 2 ^ (e + 298).toNat

/-- The sum of two finite ones. -/
def finE (f mode : Int) (n : Bool) (V : Nat) (m : Bool) (W : Nat) : Ending :=
  if V = 0 ∧ W = 0 ∧ n = m then excE (zerI f n) false else totE f mode n V m W

/-- Add of any bits. -/
def addE (f mode a b : Int) : Ending :=
  if (nanB f a || nanB f b) = true then excE (nanI f) (sigB f a || sigB f b)
  else if (infB f a && infB f b && (fS f a != fS f b)) = true then excE (nanI f) true
  else if infB f a = true then excE (infI f (fS f a)) false
  else if infB f b = true then excE (infI f (fS f b)) false
  else finE f mode (fS f a) (amtE (unE f a) (unM f a)) (fS f b) (amtE (unE f b) (unM f b))

/-- What the program's sum of two comes to, brought to one exponent. -/
def fuE (f mode : Int) (n m : Bool) (P Q X : Int) (B : Bool) : Ending :=
  if n = m then PackE f mode n (valN (clampE X) (P + Q) B)
  else if B = true then PackE f mode n (valN (clampE X) (P - Q - 1) true)
  else if Q < P then PackE f mode n (valN (clampE X) (P - Q) false)
  else if P < Q then PackE f mode m (valN (clampE X) (Q - P) false)
  else excE (zerI f (mode == 3)) false

theorem pack_zero_is (f mode : Int) (n : Bool) : PackE f mode n 0 = excE (zerI f n) false := by
  obtain ⟨z1, z2, z3, z4⟩ := rd_zero f mode n
  rw [← packE_is, z1, z2, z3, z4]; rfl

theorem up_zero (V : Nat) : upN V = 0 ↔ V = 0 := by
  have q : ∀ k : Nat, 0 < k → (V * k = 0 ↔ V = 0) := fun k hk => by rw [Nat.mul_eq_zero]; omega
  exact q _ (np2 9802)

theorem fin_noughts (f mode : Int) (n : Bool) : finE f mode n 0 n 0 = excE (zerI f n) false := by unfold finE; rw [if_pos ⟨rfl, rfl, rfl⟩]

theorem fin_like (f mode : Int) (n : Bool) (V W : Nat) (h : V + W ≠ 0) : finE f mode n V n W = PackE f mode n (upN (V + W)) := by
  unfold finE totE amT sgT
  simp only [if_true]
  rw [if_neg (show ¬ (V = 0 ∧ W = 0 ∧ True) from fun g => h (by omega)), if_neg h]

theorem fin_less (f mode : Int) (n m : Bool) (V W : Nat) (h : ¬ n = m) (c : V < W) : finE f mode n V m W = PackE f mode m (upN (W - V)) := by
  unfold finE totE amT sgT
  rw [if_neg (show ¬ (V = 0 ∧ W = 0 ∧ n = m) from fun g => h g.2.2)]
  simp only [if_neg h, if_pos c]
  rw [if_neg (by omega)]

theorem fin_more (f mode : Int) (n m : Bool) (V W : Nat) (h : ¬ n = m) (c : W < V) : finE f mode n V m W = PackE f mode n (upN (V - W)) := by
  have c' : ¬ V < W := by omega
  unfold finE totE amT sgT
  rw [if_neg (show ¬ (V = 0 ∧ W = 0 ∧ n = m) from fun g => h g.2.2)]
  simp only [if_neg h, if_neg c']
  rw [if_neg (by omega)]

theorem fin_even (f mode : Int) (n m : Bool) (V : Nat) (h : ¬ n = m) : finE f mode n V m V = excE (zerI f (mode == 3)) false := by
  unfold finE totE amT sgT
  rw [if_neg (show ¬ (V = 0 ∧ V = 0 ∧ n = m) from fun g => h g.2.2)]
  simp only [if_neg h, if_neg (Nat.lt_irrefl V), Nat.sub_self, if_true]

/-- Which one comes first doesn't count. -/
theorem fin_swap (f mode : Int) (n : Bool) (V : Nat) (m : Bool) (W : Nat) : finE f mode m W n V = finE f mode n V m W := by
  by_cases h : n = m
  · subst h
    by_cases c : V + W = 0
    · rw [show V = 0 by omega, show W = 0 by omega]
    · rw [fin_like f mode n V W c, fin_like f mode n W V (by omega), Nat.add_comm]
  · have h' : ¬ m = n := fun g => h g.symm
    rcases Nat.lt_trichotomy V W with c | c | c
    · rw [fin_less f mode n m V W h c, fin_more f mode m n W V h' c]
    · subst c; rw [fin_even f mode n m V h, fin_even f mode m n V h']
    · rw [fin_more f mode n m V W h c, fin_less f mode m n W V h' c]

theorem fu_like (f mode : Int) (n : Bool) (P Q X : Int) (B : Bool) : fuE f mode n n P Q X B = PackE f mode n (valN (clampE X) (P + Q) B) := by unfold fuE; rw [if_pos rfl]

theorem fu_more (f mode : Int) (n m : Bool) (P Q X : Int) (h : ¬ n = m) : fuE f mode n m P Q X true = PackE f mode n (valN (clampE X) (P - Q - 1) true) := by unfold fuE; rw [if_neg h, if_pos rfl]

theorem fu_down (f mode : Int) (n m : Bool) (P Q X : Int) (h : ¬ n = m) (c : Q < P) : fuE f mode n m P Q X false = PackE f mode n (valN (clampE X) (P - Q) false) := by unfold fuE; rw [if_neg h, if_neg (by decide), if_pos c]

theorem fu_up (f mode : Int) (n m : Bool) (P Q X : Int) (h : ¬ n = m) (c : P < Q) : fuE f mode n m P Q X false = PackE f mode m (valN (clampE X) (Q - P) false) := by unfold fuE; rw [if_neg h, if_neg (by decide), if_neg (by omega), if_pos c]

theorem fu_even (f mode : Int) (n m : Bool) (P X : Int) (h : ¬ n = m) : fuE f mode n m P P X false = excE (zerI f (mode == 3)) false := by unfold fuE; rw [if_neg h, if_neg (by decide), if_neg (by omega), if_neg (by omega)]

/-- What is far below counts only as being there. -/
theorem sticky_sum (f mode : Int) (n : Bool) (X E t : Nat) (B : Bool) (hX : 2 ^ (fn f + 3) ≤ X) (ht : t < 2 ^ E) (hB : B = true ↔ t ≠ 0) (hE : 1 ≤ E) :
    PackE f mode n (X * 2 ^ E + B.toNat) = PackE f mode n (X * 2 ^ E + t) := by
  have hX0 : X ≠ 0 := by have := p2 (fn f + 3); omega
  have hl : fn f + 3 ≤ X.log2 := (Nat.le_log2 hX0).2 hX
  have h2 : 2 ≤ 2 ^ E := Nat.pow_le_pow_right (n := 2) (by decide) hE
  have hb : B.toNat ≤ 1 := Bool.toNat_le _
  refine sticky f mode n X E B.toNat t hX0 (by omega) ht (by rw [← hB]; cases B <;> simp) ?_
  unfold dN
  rw [log_above X E t ht hX0]
  omega

theorem val_is (X S : Int) (B : Bool) (s E : Nat) (hX : clampE X + 10100 = E) (hS : S = s) : valN (clampE X) S B = s * 2 ^ E + B.toNat := toNat_val X S B s E hX hS

/-- Near one another: exact. -/
theorem fu_near (f mode : Int) (n m : Bool) (p q k : Nat) (X : Int) (hX : clampE X + 10100 = ((k + 9802 : Nat) : Int)) :
    fuE f mode n m (p : Int) (q : Int) X false = finE f mode n (p * 2 ^ k) m (q * 2 ^ k) := by
  have hk := np2 k
  have up : ∀ s : Nat, s * 2 ^ (k + 9802) + false.toNat = upN (s * 2 ^ k) := by
    intro s; unfold upN; rw [Bool.toNat_false, Nat.add_zero, Nat.pow_add, Nat.mul_assoc]
  have z : ∀ s : Nat, s * 2 ^ k = 0 ↔ s = 0 := by intro s; rw [Nat.mul_eq_zero]; omega
  have lt : p * 2 ^ k < q * 2 ^ k ↔ p < q := Nat.mul_lt_mul_right hk
  by_cases h : n = m
  · subst h
    rw [fu_like, val_is X _ false (p + q) (k + 9802) hX (by omega), up]
    by_cases c : p + q = 0
    · rw [show p = 0 by omega, show q = 0 by omega, Nat.zero_mul, fin_noughts, ← pack_zero_is f mode n]
      rw [(up_zero 0).2 rfl]
    · rw [fin_like f mode n _ _ (by rw [← Nat.add_mul]; exact fun g => c ((z _).1 g)), Nat.add_mul]
  · rcases Nat.lt_trichotomy p q with c | c | c
    · rw [fu_up f mode n m _ _ _ h (by omega), fin_less f mode n m _ _ h (lt.2 c), ← Nat.sub_mul, val_is X _ false (q - p) (k + 9802) hX (by omega), up]
    · subst c; rw [fu_even f mode n m _ _ h, fin_even f mode n m _ h]
    · rw [fu_down f mode n m _ _ _ h (by omega), fin_more f mode n m _ _ h ((Nat.mul_lt_mul_right hk).2 c), ← Nat.sub_mul, val_is X _ false (p - q) (k + 9802) hX (by omega), up]

theorem up_two (s t d k j : Nat) : (s * 2 ^ d + t) * 2 ^ k * 2 ^ j = s * 2 ^ (d + (k + j)) + t * 2 ^ (k + j) := by
  rw [Nat.mul_assoc, ← Nat.pow_add, Nat.add_mul, Nat.mul_assoc, ← Nat.pow_add]

/-- Far from one another. -/
theorem fu_far (f mode : Int) (n m : Bool) (p q r d k : Nat) (X : Int) (B : Bool) (hX : clampE X + 10100 = ((d + (k + 9802) : Nat) : Int)) (hd : 1 ≤ d) (hp : 2 ^ fn f * 4294967296 ≤ p) (hq : q < 16777216) (hr : r < 2 ^ d) (hB : B = true ↔ r ≠ 0) :
    fuE f mode n m (p : Int) (q : Int) X B = finE f mode n (p * 2 ^ d * 2 ^ k) m ((q * 2 ^ d + r) * 2 ^ k) := by
  have hf := p2 (fn f)
  have hk := np2 k
  have hdd := np2 d
  have hqp : q + 1 < p := by omega
  have e3 : 2 ^ (fn f + 3) = 2 ^ fn f * 8 := by rw [Nat.pow_add]
  have hE : d + (k + 9802) = d + k + 9802 := by omega
  have h2 : 2 ≤ 2 ^ d := Nat.pow_le_pow_right (n := 2) (by decide) hd
  -- what is left, at its place
  have lt : ∀ t, t < 2 ^ d → t * 2 ^ (k + 9802) < 2 ^ (d + (k + 9802)) := by
    intro t ht; rw [Nat.pow_add 2 d]; exact Nat.mul_lt_mul_of_pos_right ht (np2 _)
  have up : ∀ s t : Nat, upN ((s * 2 ^ d + t) * 2 ^ k) = s * 2 ^ (d + (k + 9802)) + t * 2 ^ (k + 9802) := by
    intro s t; exact up_two s t d k 9802
  have tz : ∀ t : Nat, t * 2 ^ (k + 9802) ≠ 0 ↔ t ≠ 0 := fun t => mul_nz t _ (np2 _)
  have hV : p * 2 ^ d * 2 ^ k ≠ 0 := by
    have h1 := Nat.mul_pos (Nat.mul_pos (show 0 < p by omega) hdd) hk
    omega
  have hlt : q * 2 ^ d + r < p * 2 ^ d := by
    have h1 : (q + 1) * 2 ^ d ≤ p * 2 ^ d := Nat.mul_le_mul_right _ (by omega)
    rw [Nat.add_mul] at h1; omega
  have hWV : (q * 2 ^ d + r) * 2 ^ k < p * 2 ^ d * 2 ^ k := Nat.mul_lt_mul_of_pos_right hlt hk
  by_cases h : n = m
  · subst h
    rw [fu_like, fin_like f mode n _ _ (by omega), val_is X _ B (p + q) (d + (k + 9802)) hX (by omega)]
    rw [show p * 2 ^ d * 2 ^ k + (q * 2 ^ d + r) * 2 ^ k = ((p + q) * 2 ^ d + r) * 2 ^ k by rw [← Nat.add_mul, Nat.add_mul p q]; congr 1; omega, up]
    exact sticky_sum f mode n (p + q) _ _ B (by omega) (lt r hr) (by rw [tz]; exact hB) (by omega)
  · rw [fin_more f mode n m _ _ h hWV]
    cases B
    · have hr0 : r = 0 := Classical.byContradiction fun c => absurd (hB.2 c) (by decide)
      subst hr0
      rw [fu_down f mode n m _ _ _ h (by omega), val_is X _ false (p - q) (d + (k + 9802)) hX (by omega)]
      rw [← Nat.sub_mul, Nat.add_zero (q * 2 ^ d), ← Nat.sub_mul]
      have := up (p - q) 0
      rw [Nat.add_zero] at this
      rw [this, Bool.toNat_false, Nat.zero_mul]
    · have hr0 : r ≠ 0 := hB.1 rfl
      rw [fu_more f mode n m _ _ _ h, val_is X _ true (p - q - 1) (d + (k + 9802)) hX (by omega)]
      have e : p * 2 ^ d - (q * 2 ^ d + r) = (p - q - 1) * 2 ^ d + (2 ^ d - r) := by
        rw [Nat.sub_mul, Nat.sub_mul, Nat.one_mul]
        have h1 : (q + 1) * 2 ^ d ≤ p * 2 ^ d := Nat.mul_le_mul_right _ (by omega)
        rw [Nat.add_mul, Nat.one_mul] at h1
        omega
      rw [← Nat.sub_mul, e, up]
      exact sticky_sum f mode n (p - q - 1) _ _ true (by omega) (lt _ (by omega)) (by rw [tz]; simp; omega) (by omega)

/-- How far the greater one is moved; what it is then. -/
def upI (a b : Int) : Int := if 32 < a - b then 32 else a - b

theorem fu_is (f mode : Int) (n m : Bool) (e1 e2 M1 M2 : Int) (he : e2 ≤ e1) (e0 : -298 ≤ e2) (e3 : e1 ≤ 400) (m0 : 0 ≤ M1) (m1 : M1 < 16777216) (k0 : 0 ≤ M2) (k1 : M2 < 16777216) (hM : e2 < e1 → ((2 ^ fn f : Nat) : Int) ≤ M1) :
    fuE f mode n m (M1 * 2 ^ (upI e1 e2).toNat) (shV M2 (e1 - upI e1 e2 - e2)) (e1 - upI e1 e2) (shO M2 (e1 - upI e1 e2 - e2)) = finE f mode n (amtE e1 M1) m (amtE e2 M2) := by
  obtain ⟨a, rfl⟩ := Int.eq_ofNat_of_zero_le m0
  obtain ⟨b, rfl⟩ := Int.eq_ofNat_of_zero_le k0
  unfold amtE
  rw [Int.toNat_natCast, Int.toNat_natCast]
  by_cases c : 32 < e1 - e2
  · have hU : upI e1 e2 = 32 := if_pos c
    rw [hU]
    obtain ⟨d, hd⟩ : ∃ d : Nat, e1 - 32 - e2 = d := ⟨(e1 - 32 - e2).toNat, by omega⟩
    obtain ⟨k, hk⟩ : ∃ k : Nat, e2 + 298 = k := ⟨(e2 + 298).toNat, by omega⟩
    have s1 : shV (b : Int) (e1 - 32 - e2) = ((b / 2 ^ d : Nat) : Int) := by
      unfold shV; rw [if_neg (by omega), hd, Int.toNat_natCast, pow2_cast, ← Int.natCast_ediv]
    have s2 : shO (b : Int) (e1 - 32 - e2) = decide (b % 2 ^ d ≠ 0) := by
      unfold shO; rw [if_neg (by omega), hd, Int.toNat_natCast, pow2_cast, ← Int.natCast_emod]
      congr 1
      rw [eq_iff_iff]; omega
    rw [s1, s2, show (a : Int) * 2 ^ (32 : Int).toNat = ((a * 2 ^ 32 : Nat) : Int) by rw [show (32 : Int).toNat = 32 from rfl]; omega]
    have hb := Nat.div_add_mod b (2 ^ d)
    have hq : b / 2 ^ d ≤ b := Nat.div_le_self _ _
    have hfar := fu_far f mode n m (a * 2 ^ 32) (b / 2 ^ d) (b % 2 ^ d) d k (e1 - 32) (decide (b % 2 ^ d ≠ 0)) (by rw [clamp_in _ (by omega) (by omega)]; omega) (by omega) (by have := hM (by omega); omega) (by omega) (Nat.mod_lt _ (np2 d)) (by simp)
    rw [hfar, Nat.mul_comm (b / 2 ^ d), hb]
    rw [show (e1 + 298).toNat = 32 + d + k by omega, show (e2 + 298).toNat = k by omega, Nat.pow_add, Nat.pow_add, ← Nat.mul_assoc, ← Nat.mul_assoc]
  · have hU : upI e1 e2 = e1 - e2 := if_neg c
    rw [hU]
    obtain ⟨d, hd⟩ : ∃ d : Nat, e1 - e2 = d := ⟨(e1 - e2).toNat, by omega⟩
    obtain ⟨k, hk⟩ : ∃ k : Nat, e2 + 298 = k := ⟨(e2 + 298).toNat, by omega⟩
    have hz : e1 - (e1 - e2) - e2 = 0 := by omega
    have s1 : shV (b : Int) 0 = (b : Int) := by simp [shV]
    have s2 : shO (b : Int) 0 = false := by simp [shO, Int.emod_one]
    rw [hz, s1, s2, hd, Int.toNat_natCast, pow2_cast, ← Int.natCast_mul]
    rw [fu_near f mode n m (a * 2 ^ d) b k (e1 - (d : Int)) (by rw [clamp_in _ (by omega) (by omega)]; omega)]
    rw [show (e1 + 298).toNat = d + k by omega, show (e2 + 298).toNat = k by omega, Nat.pow_add, ← Nat.mul_assoc]

theorem up_bd (a b : Int) (h : b ≤ a) : 0 ≤ upI a b ∧ upI a b ≤ 32 ∧ upI a b ≤ a - b := by unfold upI; split <;> omega

theorem sh_bd24 (v k : Int) (h0 : 0 ≤ v) (h1 : v < 16777216) (hk : 0 ≤ k) : 0 ≤ shV v k ∧ shV v k < 16777216 := by
  unfold shV
  rw [if_neg (by omega)]
  have hp := pow2_pos k.toNat
  have a := Int.ediv_nonneg h0 (Int.le_of_lt hp)
  have b := Int.ediv_le_self (2 ^ k.toNat) h0
  omega

theorem sh_out_room (M1 M2 a b : Int) (h : b ≤ a) (m0 : 128 ≤ M1 ∨ a = b) (k0 : 0 ≤ M2) (k1 : M2 < 16777216) (ho : shO M2 (a - upI a b - b) = true) : shV M2 (a - upI a b - b) + 1 ≤ M1 * 2 ^ (upI a b).toNat := by
  by_cases c : 32 < a - b
  · have hU : upI a b = 32 := if_pos c
    rw [hU] at *
    have := sh_bd24 M2 (a - 32 - b) k0 k1 (by omega)
    rw [show (32 : Int).toNat = 32 from rfl]
    omega
  · have hU : upI a b = a - b := if_neg c
    rw [hU, show a - (a - b) - b = 0 by omega] at ho
    simp [shO, Int.emod_one] at ho

/-! Numbers' parts in sums: bounds, noughts, other signs (no program here). -/
theorem unE_top (f x : Int) : unE f x ≤ 120 := by
  have hX := fX_bd f x
  rcases fmt_cases f with ⟨rfl, hf⟩ | ⟨rfl, hf⟩ | ⟨⟨c0, c1⟩, hf⟩ <;> obtain ⟨e1, e2, e3, e4, e5, e6, e7, e8, e9⟩ := hf
  all_goals
    unfold unE
    rw [e4] at hX ⊢
    rw [e6]
    (repeat' split) <;> omega

theorem fit_of (V j k : Nat) (h : V < 2 ^ j) (hj : j ≤ 64 * k) : FitN V k := ⟨Nat.lt_of_lt_of_le h (Nat.pow_le_pow_right (by decide) hj)⟩

theorem amt_nine (f x : Int) : FitN (amtE (unE f x) (unM f x)) 9 := by
  obtain ⟨m0, m1⟩ := unM_bd f x
  obtain ⟨e0, e1⟩ := unE_bd f x
  have e2 := unE_top f x
  refine fit_of _ (24 + (unE f x + 298).toNat) 9 ?_ (by omega)
  unfold amtE
  have h : (unM f x).toNat < 2 ^ 24 := by omega
  have a := Nat.mul_lt_mul_of_pos_right h (np2 (unE f x + 298).toNat)
  rw [← Nat.pow_add] at a
  exact a

theorem spr_amt (e M : Int) (h : 0 ≤ e + 298) : sprN M.toNat ((e + 298) / 64).toNat ((e + 298) % 64).toNat = amtE e M := by
  unfold sprN amtE
  rw [show 64 * ((e + 298) / 64).toNat + ((e + 298) % 64).toNat = (e + 298).toNat by omega]

theorem fin_of (f a : Int) (hn : nanB f a = false) (hi : infB f a = false) : finI f a = true := by
  have c := cls_cases f a
  unfold nanB at hn
  unfold infB at hi
  simp at hn hi
  rcases three_ways f a with ⟨x, y, z⟩ | ⟨x, y, z⟩ | ⟨x, y, z, t⟩
  · omega
  · exact y
  · exact z

theorem amt_zero (e M : Int) (h : 0 ≤ M) : amtE e M = 0 ↔ M = 0 := by
  unfold amtE
  have := np2 (e + 298).toNat
  rw [Nat.mul_eq_zero]; omega

theorem nou_is (f a : Int) (h : finI f a = true) : nouB f a = true ↔ amtE (unE f a) (unM f a) = 0 := by
  rw [amt_zero _ _ (unM_bd f a).1]
  have c := cls_cases f a
  have hh := hid_pos f
  have hF := fF_bd f a
  have ht := topx_pos f
  unfold nouB
  rw [beq_iff_eq]
  rcases three_ways f a with ⟨x, y, z⟩ | ⟨x, y, z, t⟩ | ⟨x, y, z, t, u⟩
  · rw [h] at y; exact absurd y (by decide)
  · omega
  · omega

/-- Numbers of like parts are told alike. -/
theorem add_like (f mode a b c : Int) (hX : fX f b = fX f c) (hF : fF f b = fF f c) (hS : nanB f b = false → fS f b = fS f c) : addE f mode a b = addE f mode a c := by
  have hc : clsI f b = clsI f c := by unfold clsI; rw [hX, hF]
  have hn : nanB f b = nanB f c := by unfold nanB; rw [hc]
  have hs : sigB f b = sigB f c := by unfold sigB; rw [hc]
  have hi : infB f b = infB f c := by unfold infB; rw [hc]
  have hE : unE f b = unE f c := by unfold unE; rw [hX]
  have hM : unM f b = unM f c := by unfold unM; rw [hX, hF]
  unfold addE
  rw [← hn, ← hs, ← hi, ← hE, ← hM]
  by_cases g : (nanB f a || nanB f b) = true
  · rw [if_pos g, if_pos g]
  · have g2 : nanB f b = false := by cases h : nanB f b <;> simp_all
    rw [if_neg g, if_neg g, hS g2]

/-- The reference's number of the other sign. -/
def minI (f v : Int) : Int := if nanB f v then bits .and .u32 v (msk f) else bits .and .u32 (xorI f v) (msk f)

theorem min_bd (f v : Int) (h0 : 0 ≤ v) (h1 : v ≤ 4294967295) : 0 ≤ minI f v ∧ minI f v ≤ 4294967295 := by
  obtain ⟨x1, x2, x3, x4, x5⟩ := xor_parts f v h0 h1
  unfold minI; split
  · exact (and_parts f v h0 h1).2.2.2
  · exact (and_parts f _ x4 x5).2.2.2

/-- A sum with the other sign, by either way to turn it. -/
theorem sub_alike (f mode a b : Int) (h0 : 0 ≤ b) (h1 : b ≤ 4294967295) : addE f mode a (minI f b) = addE f mode a (xorI f b) := by
  obtain ⟨x1, x2, x3, x4, x5⟩ := xor_parts f b h0 h1
  obtain ⟨y1, y2, y3, y4, y5⟩ := and_parts f b h0 h1
  obtain ⟨z1, z2, z3, z4, z5⟩ := and_parts f _ x4 x5
  unfold minI
  by_cases h : nanB f b = true
  · rw [if_pos h]
    refine add_like f mode a _ _ (by rw [y1, x1]) (by rw [y2, x2]) (fun g => ?_)
    have : nanB f (bits .and .u32 b (msk f)) = nanB f b := by unfold nanB clsI; rw [y1, y2]
    rw [this, h] at g; exact absurd g (by decide)
  · rw [if_neg h]
    exact add_like f mode a _ _ z1 z2 (fun _ => z3)
end Go.Proofs.Ytheaeclojljecaa
