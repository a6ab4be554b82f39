/- Whole numbers in ten limbs of 64 bits, their blocks (no program here). -/
import Derived.Test.YtbmcohikblldjaaMath
import Derived.Test.YtbmcohikblldjaaWorld
namespace Go.Proofs.Ytbmcohikblldjaa
open Go.RowKit
set_option linter.unusedVariables false
set_option linter.unusedSimpArgs false

/-! Whole numbers in ten limbs of 64 bits (no program here). -/
/-- A limb of a whole number; ten of them. -/
def limb (V i : Nat) : Int := ((V / 2 ^ (64 * i) % 2 ^ 64 : Nat) : Int)

def wideV (neg : Bool) (V : Nat) : Value :=
  .agg #[.bool neg, .int .u64 (limb V 0), .int .u64 (limb V 1), .int .u64 (limb V 2), .int .u64 (limb V 3), .int .u64 (limb V 4), .int .u64 (limb V 5), .int .u64 (limb V 6), .int .u64 (limb V 7), .int .u64 (limb V 8), .int .u64 (limb V 9)]

theorem limb_bd (V i : Nat) : 0 ≤ limb V i ∧ limb V i ≤ 18446744073709551615 := by
  have := Nat.mod_lt (V / 2 ^ (64 * i)) (Nat.pow_pos (n := 64) (show 0 < 2 by decide))
  unfold limb; omega

theorem np2 (n : Nat) : 0 < 2 ^ n := Nat.pow_pos (by decide)

/-- sig moved to bit 64 A + B. -/
def sprN (sig : Nat) (A B : Nat) : Nat := sig * 2 ^ (64 * A + B)

theorem spr_low (sig A B i : Nat) (h : i < A) : limb (sprN sig A B) i = 0 := by
  unfold limb sprN
  obtain ⟨k, rfl⟩ : ∃ k, A = i + 1 + k := ⟨A - i - 1, by omega⟩
  have e : sig * 2 ^ (64 * (i + 1 + k) + B) = (sig * 2 ^ (64 * k + B)) * 2 ^ 64 * 2 ^ (64 * i) := by
    rw [show 64 * (i + 1 + k) + B = (64 * k + B) + 64 + 64 * i by omega, Nat.pow_add, Nat.pow_add, Nat.mul_assoc, Nat.mul_assoc]; simp only [Nat.mul_assoc]
  rw [e, Nat.mul_div_cancel _ (np2 _), Nat.mul_mod_left]; rfl

theorem spr_at (sig A B : Nat) : limb (sprN sig A B) A = ((sig * 2 ^ B % 2 ^ 64 : Nat) : Int) := by
  unfold limb sprN
  rw [show 64 * A + B = B + 64 * A by omega, Nat.pow_add, ← Nat.mul_assoc, Nat.mul_div_cancel _ (np2 _)]

theorem spr_next (sig A B : Nat) (hs : sig < 2 ^ 64) (hB : B < 64) : limb (sprN sig A B) (A + 1) = ((sig * 2 ^ B / 2 ^ 64 : Nat) : Int) := by
  unfold limb sprN
  rw [show 64 * A + B = B + 64 * A by omega, Nat.pow_add, ← Nat.mul_assoc, show 64 * (A + 1) = 64 * A + 64 by omega, Nat.pow_add, ← Nat.div_div_eq_div_mul, Nat.mul_div_cancel _ (np2 _)]
  rw [Nat.mod_eq_of_lt]
  rw [Nat.div_lt_iff_lt_mul (np2 _)]
  have : 2 ^ B ≤ 2 ^ 64 := Nat.pow_le_pow_right (by decide) (by omega)
  exact Nat.mul_lt_mul_of_lt_of_le hs this (np2 _)

theorem spr_high (sig A B i : Nat) (hs : sig < 2 ^ 64) (hB : B < 64) (h : A + 1 < i) : limb (sprN sig A B) i = 0 := by
  unfold limb sprN
  obtain ⟨k, rfl⟩ : ∃ k, i = A + 2 + k := ⟨i - A - 2, by omega⟩
  rw [show 64 * A + B = B + 64 * A by omega, Nat.pow_add, ← Nat.mul_assoc, show 64 * (A + 2 + k) = 64 * A + (128 + 64 * k) by omega, Nat.pow_add 2 (64 * A), ← Nat.div_div_eq_div_mul, Nat.mul_div_cancel _ (np2 _)]
  have : 2 ^ B ≤ 2 ^ 64 := Nat.pow_le_pow_right (by decide) (by omega)
  have h1 : sig * 2 ^ B < 2 ^ 64 * 2 ^ 64 := Nat.mul_lt_mul_of_lt_of_le hs this (np2 _)
  have h2 : 2 ^ 64 * 2 ^ 64 ≤ 2 ^ (128 + 64 * k) := by rw [← Nat.pow_add]; exact Nat.pow_le_pow_right (by decide) (by omega)
  rw [Nat.div_eq_of_lt (by omega)]; rfl

theorem spr_div (sig B : Nat) (hB : 0 < B) (hB2 : B < 64) : sig * 2 ^ B / 2 ^ 64 = sig / 2 ^ (64 - B) := by
  have e : 2 ^ 64 = 2 ^ (64 - B) * 2 ^ B := by rw [← Nat.pow_add, show 64 - B + B = 64 by omega]
  rw [e, Nat.mul_div_mul_right _ _ (np2 B)]

theorem div_step (V i : Nat) : V / 2 ^ (64 * i) = V / 2 ^ (64 * (i + 1)) * 2 ^ 64 + V / 2 ^ (64 * i) % 2 ^ 64 := by
  rw [show 64 * (i + 1) = 64 * i + 64 by omega, Nat.pow_add 2 (64 * i), ← Nat.div_div_eq_div_mul]
  have := Nat.div_add_mod (V / 2 ^ (64 * i)) (2 ^ 64)
  omega

theorem top_step (V W i : Nat) (h : V / 2 ^ (64 * (i + 1)) = W / 2 ^ (64 * (i + 1))) (hl : limb V i = limb W i) : V / 2 ^ (64 * i) = W / 2 ^ (64 * i) := by
  unfold limb at hl
  rw [div_step V i, div_step W i, h]; omega

theorem limb_zero (i : Nat) : limb 0 i = 0 := by unfold limb; simp

theorem limbs_top : ∀ (n V W : Nat), V / 2 ^ (64 * n) = W / 2 ^ (64 * n) → (∀ i, i < n → limb V i = limb W i) → V = W
  | 0, V, W, h, _ => by simpa using h
  | n + 1, V, W, h, hl => limbs_top n V W (top_step V W n h (hl n (by omega))) (fun i hi => hl i (by omega))

theorem limbs_ext (n V W : Nat) (hV : V < 2 ^ (64 * n)) (hW : W < 2 ^ (64 * n)) (h : ∀ i, i < n → limb V i = limb W i) : V = W :=
  limbs_top n V W (by rw [Nat.div_eq_of_lt hV, Nat.div_eq_of_lt hW]) h

theorem limbs_zero (n V : Nat) (hV : V < 2 ^ (64 * n)) (h : ∀ i, i < n → limb V i = 0) : V = 0 :=
  limbs_ext n V 0 hV (np2 _) (fun i hi => by rw [h i hi, limb_zero])

/-- The first limb from above that is unlike tells which is below. -/
theorem top_less (V W i : Nat) (h : V / 2 ^ (64 * (i + 1)) = W / 2 ^ (64 * (i + 1))) (hl : limb V i ≠ limb W i) : (V < W ↔ limb V i < limb W i) := by
  have a := div_step V i
  have b := div_step W i
  have hne : limb V i < limb W i ↔ V / 2 ^ (64 * i) < W / 2 ^ (64 * i) := by unfold limb at *; rw [h] at a; omega
  rw [hne]
  constructor
  · intro g
    have := Nat.div_le_div_right (c := 2 ^ (64 * i)) (Nat.le_of_lt g)
    have ne : V / 2 ^ (64 * i) ≠ W / 2 ^ (64 * i) := by intro e; apply hl; unfold limb; rw [e]
    omega
  · intro g
    rcases Nat.lt_or_ge V W with h1 | h1
    · exact h1
    · have := Nat.div_le_div_right (c := 2 ^ (64 * i)) h1; omega

theorem limb_wf (V i : Nat) : (Lit.int .u64 (limb V i)).wf = true := by
  have h := limb_bd V i
  simp only [Lit.wf, Bool.and_eq_true, decide_eq_true_eq]
  exact h

/-! Sums and differences of whole numbers limb by limb (no program here). -/
/-- What is carried into limb k of V + W. -/
def carN (V W k : Nat) : Int := ((V % 2 ^ (64 * k) + W % 2 ^ (64 * k)) / 2 ^ (64 * k) : Nat)

theorem car_zero (V W : Nat) : carN V W 0 = 0 := by unfold carN; simp [Nat.mod_one]

theorem car_lt (V W k : Nat) : (V % 2 ^ (64 * k) + W % 2 ^ (64 * k)) / 2 ^ (64 * k) < 2 := by
  have hp := np2 (64 * k)
  have a := Nat.mod_lt V hp
  have b := Nat.mod_lt W hp
  rw [Nat.div_lt_iff_lt_mul hp]; omega

theorem car_01 (V W k : Nat) : carN V W k = 0 ∨ carN V W k = 1 := by
  have := car_lt V W k
  unfold carN
  generalize (V % 2 ^ (64 * k) + W % 2 ^ (64 * k)) / 2 ^ (64 * k) = x at *
  omega

theorem div_both (V W P : Nat) (hp : 0 < P) : (V + W) / P = V / P + W / P + (V % P + W % P) / P := by
  have a := Nat.mod_add_div V P
  have b := Nat.mod_add_div W P
  have e : V + W = (V % P + W % P) + P * (V / P + W / P) := by rw [Nat.mul_add]; omega
  conv => lhs; rw [e]
  rw [Nat.add_mul_div_left _ _ hp]; omega

theorem car_next (V W P : Nat) (hp : 0 < P) : (V % (P * 2 ^ 64) + W % (P * 2 ^ 64)) / (P * 2 ^ 64) = ((V % P + W % P) / P + (V / P % 2 ^ 64 + W / P % 2 ^ 64)) / 2 ^ 64 := by
  rw [Nat.mod_mul, Nat.mod_mul, ← Nat.div_div_eq_div_mul]
  rw [show V % P + P * (V / P % 2 ^ 64) + (W % P + P * (W / P % 2 ^ 64)) = V % P + W % P + P * (V / P % 2 ^ 64 + W / P % 2 ^ 64) by rw [Nat.mul_add]; omega]
  rw [Nat.add_mul_div_left _ _ hp]

theorem car_step (V W k : Nat) : limb V k + limb W k + carN V W k = limb (V + W) k + 18446744073709551616 * carN V W (k + 1) := by
  unfold limb carN
  have hp := np2 (64 * k)
  have e : 2 ^ (64 * (k + 1)) = 2 ^ (64 * k) * 2 ^ 64 := by rw [← Nat.pow_add]; rfl
  rw [e, car_next V W _ hp, div_both V W _ hp]
  generalize (V % 2 ^ (64 * k) + W % 2 ^ (64 * k)) / 2 ^ (64 * k) = c
  generalize V / 2 ^ (64 * k) = v
  generalize W / 2 ^ (64 * k) = u
  omega

/-- A round of the sum, of the difference. -/
theorem plus_way (x y c s t : Int) (x0 : 0 ≤ x) (x1 : x ≤ 18446744073709551615) (y0 : 0 ≤ y) (y1 : y ≤ 18446744073709551615) (hc : c = 0 ∨ c = 1) (ht : t = 0 ∨ t = 1) (s0 : 0 ≤ s) (s1 : s ≤ 18446744073709551615)
    (h : x + y + c = s + 18446744073709551616 * t) :
    IntKind.u64.wrap (IntKind.u64.wrap (x + y) + c) = s ∧ ((IntKind.u64.wrap (x + y) < x ∨ IntKind.u64.wrap (IntKind.u64.wrap (x + y) + c) < IntKind.u64.wrap (x + y)) ↔ t = 1) := by
  simp only [IntKind.wrap_u64]; omega

theorem minus_way (x y c s t : Int) (x0 : 0 ≤ x) (x1 : x ≤ 18446744073709551615) (y0 : 0 ≤ y) (y1 : y ≤ 18446744073709551615) (hc : c = 0 ∨ c = 1) (ht : t = 0 ∨ t = 1) (s0 : 0 ≤ s) (s1 : s ≤ 18446744073709551615)
    (h : y + s + c = x + 18446744073709551616 * t) :
    IntKind.u64.wrap (IntKind.u64.wrap (x - y) - c) = s ∧ ((x < y ∨ IntKind.u64.wrap (x - y) < c) ↔ t = 1) := by
  simp only [IntKind.wrap_u64]; omega

/-! Blocks of wide numbers, limb by limb (no program here). -/
/-- A limb of the sum where it is done, of the first number else. -/
def mixL (V S k i : Nat) : Int := if i < k then limb S i else limb V i

def mixO (n : Bool) (V S k : Nat) : Array Value := #[.bool n, .int .u64 (mixL V S k 0), .int .u64 (mixL V S k 1), .int .u64 (mixL V S k 2), .int .u64 (mixL V S k 3), .int .u64 (mixL V S k 4), .int .u64 (mixL V S k 5), .int .u64 (mixL V S k 6), .int .u64 (mixL V S k 7), .int .u64 (mixL V S k 8), .int .u64 (mixL V S k 9)]

def wideO (n : Bool) (V : Nat) : Array Value := #[.bool n, .int .u64 (limb V 0), .int .u64 (limb V 1), .int .u64 (limb V 2), .int .u64 (limb V 3), .int .u64 (limb V 4), .int .u64 (limb V 5), .int .u64 (limb V 6), .int .u64 (limb V 7), .int .u64 (limb V 8), .int .u64 (limb V 9)]

def nilO : Array Value := #[.bool false, .int .u64 0, .int .u64 0, .int .u64 0, .int .u64 0, .int .u64 0, .int .u64 0, .int .u64 0, .int .u64 0, .int .u64 0, .int .u64 0]

theorem set_drewN (w : World) (d : Nat) (a : Addr) (v : Value) : (w.drewN d).setCell a v = (w.setCell a v).drewN d := by
  induction d with
  | zero => rfl
  | succ d ih =>
    show ((w.drewN d).drew).setCell a v = ((w.setCell a v).drewN d).drew
    rw [World.setCell_drew, ih]

theorem size_alloc (w : World) (o : Obj) : (w.alloc o).heap.size = w.heap.size + 1 := by simp

theorem set3 (w : World) (A B C : Array Value) (t : TypeId) (d i : Nat) (v : Value) :
    ((((w.alloc (.cells A t)).alloc (.cells B t)).alloc (.cells C t)).drewN d).setCell ⟨w.heap.size, i, none⟩ v
      = (((w.alloc (.cells (A.setIfInBounds i v) t)).alloc (.cells B t)).alloc (.cells C t)).drewN d := by
  rw [set_drewN, World.setCell_alloc_past _ _ _ _ (by rw [size_alloc, size_alloc]; omega), World.setCell_alloc_past _ _ _ _ (by rw [size_alloc]; omega), World.setCell_alloc_at _ _ _ _ _ rfl]

theorem mixL_done (V S k : Nat) : mixL V S (k + 1) k = limb S k := by unfold mixL; rw [if_pos (by omega)]

theorem mixL_same (V S k i : Nat) (h : i ≠ k) : mixL V S (k + 1) i = mixL V S k i := by
  unfold mixL
  by_cases c : i < k
  · rw [if_pos c, if_pos (by omega)]
  · rw [if_neg c, if_neg (by omega)]

/-- One limb more is done. -/
theorem mix_next (n : Bool) (V S k : Nat) (hk : k < 10) (x : Int) (hx : x = limb S k) : (mixO n V S k).setIfInBounds (k + 1) (.int .u64 x) = mixO n V S (k + 1) := by
  subst hx
  have hk' : k = 0 ∨ k = 1 ∨ k = 2 ∨ k = 3 ∨ k = 4 ∨ k = 5 ∨ k = 6 ∨ k = 7 ∨ k = 8 ∨ k = 9 := by omega
  rcases hk' with rfl | rfl | rfl | rfl | rfl | rfl | rfl | rfl | rfl | rfl <;> simp [mixO, mixL]

theorem mix_start (n : Bool) (V S : Nat) : mixO n V S 0 = wideO n V := by simp [mixO, mixL, wideO]

theorem mix_end (n : Bool) (V S : Nat) : mixO n V S 10 = wideO n S := by simp [mixO, mixL, wideO]

theorem round_world (w : World) (n m : Bool) (V W S k : Nat) (t : TypeId) (d : Nat) (x : Int) (hk : k < 10) (hx : x = limb S k) :
    ((((w.alloc (.cells (mixO n V S k) t)).alloc (.cells (wideO m W) t)).alloc (.cells nilO t)).drewN d).setCell ⟨w.heap.size, k + 1, none⟩ (.int .u64 x)
      = (((w.alloc (.cells (mixO n V S (k + 1)) t)).alloc (.cells (wideO m W) t)).alloc (.cells nilO t)).drewN d := by
  rw [set3, mix_next n V S k hk x hx]

theorem round_world5 (w : World) (n m : Bool) (V W S k : Nat) (E F : Array Value) (t : TypeId) (d : Nat) (x : Int) (hk : k < 10) (hx : x = limb S k) :
    ((((((w.alloc (.cells (mixO n V S k) t)).alloc (.cells (wideO m W) t)).alloc (.cells nilO t)).alloc (.cells E t)).alloc (.cells F t)).drewN d).setCell ⟨w.heap.size, k + 1, none⟩ (.int .u64 x)
      = (((((w.alloc (.cells (mixO n V S (k + 1)) t)).alloc (.cells (wideO m W) t)).alloc (.cells nilO t)).alloc (.cells E t)).alloc (.cells F t)).drewN d := by
  rw [set_drewN, World.setCell_alloc_past _ _ _ _ (by simp only [size_alloc]; omega), World.setCell_alloc_past _ _ _ _ (by simp only [size_alloc]; omega), World.setCell_alloc_past _ _ _ _ (by simp only [size_alloc]; omega), World.setCell_alloc_past _ _ _ _ (by rw [size_alloc]; omega), World.setCell_alloc_at _ _ _ _ _ rfl, mix_next n V S k hk x hx]

theorem is_u64 {a b : Int} (h : a = b) : Value.int .u64 a = .int .u64 b := by rw [h]

/-- One result, in memory. -/
theorem results_one {fn : Func} {p : Tmp} {ty : TypeId} (h : fn.results = #[.cell p ty]) (tmps : Array Value) (P : Program) (w : World) :
    (results fn tmps).run P w = ((asAddr (tmps.getD p undef)).run P w).andThen fun a w₁ => (loadVar ty a).run P w₁ := by
  simp only [results, h]
  simp [Sem.run_bind, Result.andThen]

/-- What is carried, as the round finds it. -/
theorem car_is {P : Prop} {t : Int} (h : P ↔ t = 1) (ht : t = 0 ∨ t = 1) : (P → (1 : Int) = t) ∧ (¬ P → (0 : Int) = t) :=
  ⟨fun p => (h.1 p).symm, fun p => (ht.resolve_right (fun g => p (h.2 g))).symm⟩
end Go.Proofs.Ytbmcohikblldjaa
