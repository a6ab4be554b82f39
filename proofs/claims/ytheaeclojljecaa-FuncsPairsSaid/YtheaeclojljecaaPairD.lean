/- Log there and Exp back: what is near what, polynomials by their coefficients, quotients (no program here). Log there and Exp back: each step's distance from what is exact (no program here). Log's quotient: how near it is (no program here). Log's quotient of any number near 1; what Exp makes of what Log made, where both halve alike (no program here). -/
import Derived.Test.YtheaeclojljecaaFunLand
namespace Go.Proofs.Ytheaeclojljecaa
open Go.RowKit
set_option linter.unusedVariables false
set_option linter.unusedSimpArgs false

def pe : List Rat → Rat → Rat
  | [], _ => 0
  | a :: l, s => a + s * pe l s

def padd : List Rat → List Rat → List Rat
  | [], q => q
  | a :: p, [] => a :: p
  | a :: p, b :: q => (a + b) :: padd p q

def pscale (c : Rat) : List Rat → List Rat
  | [] => []
  | a :: p => (c * a) :: pscale c p

def pmul : List Rat → List Rat → List Rat
  | [], _ => []
  | a :: p, q => padd (pscale a q) (0 :: pmul p q)

def rabs (a : Rat) : Rat := if a < 0 then -a else a

def pabs : List Rat → Rat → Rat
  | [], _ => 0
  | a :: l, S => rabs a + S * pabs l S

theorem pe_add (p q : List Rat) (s : Rat) : pe (padd p q) s = pe p s + pe q s := by
  induction p generalizing q with
  | nil => simp [padd, pe]; grind
  | cons a p ih =>
    cases q with
    | nil => simp [padd, pe]; grind
    | cons b q => simp only [padd, pe, ih]; grind

theorem pe_scale (c : Rat) (p : List Rat) (s : Rat) : pe (pscale c p) s = c * pe p s := by
  induction p with
  | nil => simp [pscale, pe]
  | cons a p ih => simp only [pscale, pe, ih]; grind

theorem pe_mul (p q : List Rat) (s : Rat) : pe (pmul p q) s = pe p s * pe q s := by
  induction p with
  | nil => simp [pmul, pe]
  | cons a p ih => simp only [pmul, pe_add, pe_scale, pe, ih]; grind

/-- At most A, of either sign. -/
def Bd (x A : Rat) : Prop := -A ≤ x ∧ x ≤ A

/-- At most e apart. -/
def Nr (x y e : Rat) : Prop := -e ≤ x - y ∧ x - y ≤ e

theorem rmul_bd (a b A B : Rat) (h1 : -A ≤ a) (h2 : a ≤ A) (h3 : -B ≤ b) (h4 : b ≤ B) : -(A * B) ≤ a * b ∧ a * b ≤ A * B := by
  have e1 := Rat.mul_nonneg (a := A - a) (b := B + b) (by grind) (by grind)
  have e2 := Rat.mul_nonneg (a := A + a) (b := B - b) (by grind) (by grind)
  have e3 := Rat.mul_nonneg (a := A - a) (b := B - b) (by grind) (by grind)
  have e4 := Rat.mul_nonneg (a := A + a) (b := B + b) (by grind) (by grind)
  constructor <;> grind

theorem bd_mul {a b A B : Rat} (h : Bd a A) (g : Bd b B) : Bd (a * b) (A * B) := rmul_bd a b A B h.1 h.2 g.1 g.2

theorem bd_more {a A B : Rat} (h : Bd a A) (g : A ≤ B) : Bd a B := by unfold Bd at *; grind

theorem nr_more {a b A B : Rat} (h : Nr a b A) (g : A ≤ B) : Nr a b B := by unfold Nr at *; grind

theorem rabs_bd (a : Rat) : -rabs a ≤ a ∧ a ≤ rabs a := by unfold rabs; split <;> constructor <;> grind

theorem pe_bd (p : List Rat) (s S : Rat) (h : Bd s S) : Bd (pe p s) (pabs p S) := by
  obtain ⟨h0, h1⟩ := h
  unfold Bd
  induction p with
  | nil => simp [pabs, pe]
  | cons a p ih =>
    obtain ⟨i0, i1⟩ := ih
    obtain ⟨m0, m1⟩ := rmul_bd s (pe p s) S (pabs p S) h0 h1 i0 i1
    obtain ⟨r0, r1⟩ := rabs_bd a
    simp only [pabs, pe]
    constructor <;> grind

/-! The series of Log, Exp's of it, and what is left of (1 - s) times that less (1 + s). -/
def pY : List Rat := [0, 2, 0, 11184811 / 16777216, 0, 13421773 / 33554432, 0, 9586981 / 33554432, 0, 14913081 / 67108864]

def pc (p : List Rat) (c : Rat) : List Rat := padd (pmul p pY) [c]

def pP : List Rat := pc (pc (pc (pc (pc (pc [11930465 / 8589934592] (8947849 / 1073741824)) (11184811 / 268435456)) (11184811 / 67108864)) (1 / 2)) 1) 1

def pG : List Rat := padd (pmul [1, -1] pP) [-1, -1]

set_option maxRecDepth 100000 in
theorem pG_bd : pabs pG (1716 / 10000) ≤ 14 / 100000000 := by decide +kernel

theorem pc_is (p : List Rat) (c s : Rat) : pe (pc p c) s = pe p s * pe pY s + c := by unfold pc; rw [pe_add, pe_mul]; simp [pe, Rat.add_zero]

theorem pP_is (s : Rat) : pe pP s = (((((11930465 / 8589934592 * pe pY s + 8947849 / 1073741824) * pe pY s + 11184811 / 268435456) * pe pY s + 11184811 / 67108864) * pe pY s + 1 / 2) * pe pY s + 1) * pe pY s + 1 := by
  unfold pP
  rw [pc_is, pc_is, pc_is, pc_is, pc_is, pc_is]
  have : pe [11930465 / 8589934592] s = 11930465 / 8589934592 := by simp [pe, Rat.add_zero]
  rw [this]

theorem pG_is (s : Rat) : pe pG s = (1 - s) * pe pP s - (1 + s) := by
  unfold pG
  rw [pe_add, pe_mul]
  simp only [pe]
  grind

theorem pY_is (s : Rat) : pe pY s = s * ((((14913081 / 67108864 * (s * s) + 9586981 / 33554432) * (s * s) + 13421773 / 33554432) * (s * s) + 11184811 / 16777216) * (s * s)) + 2 * s := by
  simp only [pY, pe]
  grind

theorem nr_mul {x a X A δ D R M : Rat} (hx : Nr x X δ) (ha : Nr a A D) (hR : Bd a R) (hM : Bd X M) : Nr (x * a) (X * A) (δ * R + M * D) := by
  have p := rmul_bd (x - X) a δ R hx.1 hx.2 hR.1 hR.2
  have q := rmul_bd X (a - A) M D hM.1 hM.2 ha.1 ha.2
  unfold Nr
  constructor <;> grind

/-- A product and sum of what is near. -/
theorem fma_near {a b c : Int} {X A C δ D γ R M T : Rat} (E ε : Rat) (fa : finI 2 a = true) (fb : finI 2 b = true) (fc : finI 2 c = true) (hc : Nr (rv c) C γ) (hx : Nr (rv a) X δ) (ha : Nr (rv b) A D) (hR : Bd (rv b) R) (hM : Bd X M)
    (hT : Bd (X * A + C) T) (n1 : T + (δ * R + M * D + γ) ≤ E) (n2 : 1 / 1099511627776 ≤ E) (n3 : E ≤ 1099511627776) (n4 : E / 8000000 + (δ * R + M * D + γ) ≤ ε) :
    finI 2 (fmaV a b c) = true ∧ Nr (rv (fmaV a b c)) (X * A + C) ε := by
  have p := nr_mul hx ha hR hM
  unfold Nr Bd at *
  generalize δ * R + M * D = w at *
  obtain ⟨f, e1, e2⟩ := fma_err a b c E fa fb fc n2 n3 (by grind) (by grind)
  exact ⟨f, by grind, by grind⟩

theorem mul_near {a b : Int} {X A δ D R M T : Rat} (E ε : Rat) (fa : finI 2 a = true) (fb : finI 2 b = true) (hx : Nr (rv a) X δ) (ha : Nr (rv b) A D) (hR : Bd (rv b) R) (hM : Bd X M)
    (hT : Bd (X * A) T) (n1 : T + (δ * R + M * D) ≤ E) (n2 : 1 / 1099511627776 ≤ E) (n3 : E ≤ 1099511627776) (n4 : E / 8000000 + (δ * R + M * D) ≤ ε) :
    finI 2 (mulV a b) = true ∧ Nr (rv (mulV a b)) (X * A) ε := by
  have p := nr_mul hx ha hR hM
  unfold Nr Bd at *
  generalize δ * R + M * D = w at *
  obtain ⟨f, e1, e2⟩ := mul_err a b E fa fb n2 n3 (by grind) (by grind)
  exact ⟨f, by grind, by grind⟩

theorem nr_self (x : Rat) : Nr x x 0 := by unfold Nr; constructor <;> grind

theorem nr_eq {x y : Rat} (h : x = y) : Nr x y 0 := by subst h; exact nr_self x

theorem bd_step {P Y M R : Rat} (C : Rat) (hM : Bd P M) (hR : Bd Y R) (hC : 0 ≤ C) : Bd (P * Y + C) (M * R + C) := by
  have := bd_mul hM hR
  unfold Bd at *
  constructor <;> grind

theorem bd_near {x y A e : Rat} (h : Bd y A) (g : Nr x y e) : Bd x (A + e) := by unfold Bd Nr at *; grind

theorem xor_back (x : Int) (x0 : 0 ≤ x) (x1 : x ≤ 4294967295) : xorI 2 (xorI 2 x) = x := by
  have h : ∀ y, 0 ≤ y → y ≤ 4294967295 → xorI 2 y = if y / 2147483648 % 2 = 1 then y - 2147483648 else y + 2147483648 := fun y y0 y1 => by
    unfold xorI
    rw [show sgb 2 = 2147483648 by rfl, xor32 y 31 (b := 2147483648) y0 y1 (by decide) (by decide)]
  obtain ⟨_, _, _, w0, w1⟩ := xor_parts 2 x x0 x1
  rw [h (xorI 2 x) w0 w1, h x x0 x1]
  by_cases c : x / 2147483648 % 2 = 1
  · rw [if_pos c, if_neg (by omega)]; omega
  · rw [if_neg c, if_pos (by omega)]; omega

theorem div_neg_is (a b : Int) (a0 : 0 ≤ a) (a1 : a ≤ 4294967295) : divV (xorI 2 a) b = negV (divV a b) := by
  obtain ⟨x1, x2, x3, x4, x5⟩ := xor_parts 2 a a0 a1
  have hc : clsI 2 (xorI 2 a) = clsI 2 a := by unfold clsI; rw [x1, x2]
  have h1 : nanB 2 (xorI 2 a) = nanB 2 a := by unfold nanB; rw [hc]
  have h2 : infB 2 (xorI 2 a) = infB 2 a := by unfold infB; rw [hc]
  have h3 : nouB 2 (xorI 2 a) = nouB 2 a := by unfold nouB; rw [hc]
  have h5 : sgP 2 (xorI 2 a) b = !sgP 2 a b := by unfold sgP; rw [x3]; cases fS 2 a <;> cases fS 2 b <;> rfl
  have hu : unE 2 (xorI 2 a) = unE 2 a ∧ unM 2 (xorI 2 a) = unM 2 a := by unfold unE unM; rw [x1, x2]; exact ⟨rfl, rfl⟩
  have hnan : nanI 2 = negV (nanI 2) := by decide
  have hi : ∀ s, infI 2 (!s) = negV (infI 2 s) := fun s => by
    unfold infI
    have : topx 2 * hid 2 = 2139095040 := rfl
    rw [neg_zer _ _ (by omega) (by omega)]
  have hz : ∀ s, zerI 2 (!s) = negV (zerI 2 s) := fun s => by
    have := neg_zer s 0 (by omega) (by omega)
    simp only [Int.add_zero] at this
    exact this.symm
  unfold divV divE
  rw [h1, h2, h3, h5, hu.1, hu.2]
  split
  · exact hnan
  · split
    · exact hnan
    · split
      · exact hi _
      · split
        · exact hz _
        · split
          · exact hi _
          · exact pack_neg _ _

theorem pair_consts : rv 1046711865 = 14913081 / 67108864 ∧ rv 1049774373 = 9586981 / 33554432 ∧ rv 1053609165 = 13421773 / 33554432 ∧ rv 1059760811 = 11184811 / 16777216 := by
  refine ⟨?_, ?_, ?_, ?_⟩ <;> decide +kernel

theorem pair_consts2 : rv 985008993 = 11930465 / 8589934592 ∧ rv 1007192201 = 8947849 / 1073741824 ∧ rv 1026206379 = 11184811 / 268435456 ∧ rv 1042983595 = 11184811 / 67108864 ∧ rv 1056964608 = 1 / 2 ∧ rv 1065353216 = 1 ∧ rv 1073741824 = 2 := by
  refine ⟨?_, ?_, ?_, ?_, ?_, ?_, ?_⟩ <;> decide +kernel

theorem pair_consts3 : rv 1060205056 = 11629056 / 16777216 ∧ rv 901758606 = 12566158 / 8796093022208 := by
  refine ⟨?_, ?_⟩ <;> decide +kernel

set_option maxHeartbeats 2000000 in
/-- Log's series, of what it is taken of. -/
theorem log_chain (s : Int) (fs : finI 2 s = true) (hs : Bd (rv s) (1716 / 10000)) : finI 2 (logY s) = true ∧ Nr (rv (logY s)) (pe pY (rv s)) (9 / 100000000) := by
  obtain ⟨c0, c1, c2, c3⟩ := pair_consts
  rw [pY_is]
  have hl : logY s = fmaV s (mulV (fmaV (fmaV (fmaV 1046711865 (mulV s s) 1049774373) (mulV s s) 1053609165) (mulV s s) 1059760811) (mulV s s)) (addV s s) := rfl
  rw [hl]
  have B2 : Bd (rv s * rv s) (2945 / 100000) := bd_more (bd_mul hs hs) (by decide +kernel)
  obtain ⟨z0, z1⟩ := mul_near (3 / 100) (4 / 1000000000) fs fs (nr_self (rv s)) (nr_self (rv s)) hs hs B2 (by decide +kernel) (by decide +kernel) (by decide +kernel) (by decide +kernel)
  have zb := bd_more (bd_near B2 z1) (show _ ≤ 295 / 10000 by decide +kernel)
  generalize mulV s s = z at *
  have d0 : Bd (14913081 / 67108864) (223 / 1000) := ⟨by decide +kernel, by decide +kernel⟩
  have t1 := bd_more (bd_step (9586981 / 33554432) d0 B2 (by decide +kernel)) (show _ ≤ 2930 / 10000 by decide +kernel)
  obtain ⟨f1, e1⟩ := fma_near (301 / 1000) (4 / 100000000) (show finI 2 1046711865 = true by decide) z0 (show finI 2 1049774373 = true by decide) (nr_eq c1) (nr_eq c0) z1 zb d0 t1 (by decide +kernel) (by decide +kernel) (by decide +kernel) (by decide +kernel)
  generalize fmaV 1046711865 z 1049774373 = q1 at *
  have t2 := bd_more (bd_step (13421773 / 33554432) t1 B2 (by decide +kernel)) (show _ ≤ 410 / 1000 by decide +kernel)
  obtain ⟨f2, e2⟩ := fma_near (411 / 1000) (55 / 1000000000) f1 z0 (show finI 2 1053609165 = true by decide) (nr_eq c2) e1 z1 zb t1 t2 (by decide +kernel) (by decide +kernel) (by decide +kernel) (by decide +kernel)
  generalize fmaV q1 z 1053609165 = q2 at *
  have t3 := bd_more (bd_step (11184811 / 16777216) t2 B2 (by decide +kernel)) (show _ ≤ 680 / 1000 by decide +kernel)
  obtain ⟨f3, e3⟩ := fma_near (681 / 1000) (9 / 100000000) f2 z0 (show finI 2 1059760811 = true by decide) (nr_eq c3) e2 z1 zb t2 t3 (by decide +kernel) (by decide +kernel) (by decide +kernel) (by decide +kernel)
  generalize fmaV q2 z 1059760811 = q3 at *
  have t4 := bd_more (bd_mul t3 B2) (show _ ≤ 201 / 10000 by decide +kernel)
  obtain ⟨f4, e4⟩ := mul_near (202 / 10000) (9 / 1000000000) f3 z0 e3 z1 zb t3 t4 (by decide +kernel) (by decide +kernel) (by decide +kernel) (by decide +kernel)
  have wb := bd_more (bd_near t4 e4) (show _ ≤ 202 / 10000 by decide +kernel)
  generalize mulV q3 z = w at *
  have sb : Bd (2 * rv s) (3432 / 10000) := by unfold Bd at hs ⊢; constructor <;> grind
  obtain ⟨f5, g1, g2⟩ := add_err s s (344 / 1000) fs fs (by decide +kernel) (by decide +kernel) (by unfold Bd at hs; grind) (by unfold Bd at hs; grind)
  have e5 : Nr (rv (addV s s)) (2 * rv s) (44 / 1000000000) := by unfold Nr; constructor <;> grind
  generalize addV s s = a2 at *
  have t5 : Bd (rv s * ((((14913081 / 67108864 * (rv s * rv s) + 9586981 / 33554432) * (rv s * rv s) + 13421773 / 33554432) * (rv s * rv s) + 11184811 / 16777216) * (rv s * rv s)) + 2 * rv s) (347 / 1000) := by
    have u := bd_more (bd_mul hs t4) (show _ ≤ 35 / 10000 by decide +kernel)
    generalize rv s * ((((14913081 / 67108864 * (rv s * rv s) + 9586981 / 33554432) * (rv s * rv s) + 13421773 / 33554432) * (rv s * rv s) + 11184811 / 16777216) * (rv s * rv s)) = U at u ⊢
    unfold Bd at *; constructor <;> grind
  exact fma_near (3471 / 10000) (9 / 100000000) fs f4 f5 e5 (nr_self (rv s)) e4 wb hs t5 (by decide +kernel) (by decide +kernel) (by decide +kernel) (by decide +kernel)

set_option maxHeartbeats 2000000 in
/-- Exp's polynomial, of what is near Y. -/
theorem exp_chain (r : Int) (Y : Rat) (fr : finI 2 r = true) (hr : Nr (rv r) Y (46 / 100000000)) (hY : Bd Y (347 / 1000)) :
    finI 2 (alongV 985008993 r [1007192201, 1026206379, 1042983595, 1056964608, 1065353216, 1065353216]) = true
    ∧ Nr (rv (alongV 985008993 r [1007192201, 1026206379, 1042983595, 1056964608, 1065353216, 1065353216])) ((((((11930465 / 8589934592 * Y + 8947849 / 1073741824) * Y + 11184811 / 268435456) * Y + 11184811 / 67108864) * Y + 1 / 2) * Y + 1) * Y + 1) (92 / 100000000) := by
  obtain ⟨c0, c1, c2, c3, c4, c5, _⟩ := pair_consts2
  have hl : alongV 985008993 r [1007192201, 1026206379, 1042983595, 1056964608, 1065353216, 1065353216] = fmaV (fmaV (fmaV (fmaV (fmaV (fmaV 985008993 r 1007192201) r 1026206379) r 1042983595) r 1056964608) r 1065353216) r 1065353216 := rfl
  rw [hl]
  have rb := bd_more (bd_near hY hr) (show _ ≤ 3471 / 10000 by decide +kernel)
  have d0 : Bd (11930465 / 8589934592) (139 / 100000) := ⟨by decide +kernel, by decide +kernel⟩
  have t1 := bd_more (bd_step (8947849 / 1073741824) d0 hY (by decide +kernel)) (show _ ≤ 9 / 1000 by decide +kernel)
  obtain ⟨f1, e1⟩ := fma_near (91 / 10000) (2 / 1000000000) (show finI 2 985008993 = true by decide) fr (show finI 2 1007192201 = true by decide) (nr_eq c1) (nr_eq c0) hr rb d0 t1 (by decide +kernel) (by decide +kernel) (by decide +kernel) (by decide +kernel)
  generalize fmaV 985008993 r 1007192201 = p1 at *
  have t2 := bd_more (bd_step (11184811 / 268435456) t1 hY (by decide +kernel)) (show _ ≤ 45 / 1000 by decide +kernel)
  obtain ⟨f2, e2⟩ := fma_near (451 / 10000) (11 / 1000000000) f1 fr (show finI 2 1026206379 = true by decide) (nr_eq c2) e1 hr rb t1 t2 (by decide +kernel) (by decide +kernel) (by decide +kernel) (by decide +kernel)
  generalize fmaV p1 r 1026206379 = p2 at *
  have t3 := bd_more (bd_step (11184811 / 67108864) t2 hY (by decide +kernel)) (show _ ≤ 183 / 1000 by decide +kernel)
  obtain ⟨f3, e3⟩ := fma_near (1831 / 10000) (48 / 1000000000) f2 fr (show finI 2 1042983595 = true by decide) (nr_eq c3) e2 hr rb t2 t3 (by decide +kernel) (by decide +kernel) (by decide +kernel) (by decide +kernel)
  generalize fmaV p2 r 1042983595 = p3 at *
  have t4 := bd_more (bd_step (1 / 2) t3 hY (by decide +kernel)) (show _ ≤ 564 / 1000 by decide +kernel)
  obtain ⟨f4, e4⟩ := fma_near (5641 / 10000) (175 / 1000000000) f3 fr (show finI 2 1056964608 = true by decide) (nr_eq c4) e3 hr rb t3 t4 (by decide +kernel) (by decide +kernel) (by decide +kernel) (by decide +kernel)
  generalize fmaV p3 r 1056964608 = p4 at *
  have t5 := bd_more (bd_step 1 t4 hY (by decide +kernel)) (show _ ≤ 1196 / 1000 by decide +kernel)
  obtain ⟨f5, e5⟩ := fma_near (1197 / 1000) (48 / 100000000) f4 fr (show finI 2 1065353216 = true by decide) (nr_eq c5) e4 hr rb t4 t5 (by decide +kernel) (by decide +kernel) (by decide +kernel) (by decide +kernel)
  generalize fmaV p4 r 1065353216 = p5 at *
  have t6 := bd_more (bd_step 1 t5 hY (by decide +kernel)) (show _ ≤ 1416 / 1000 by decide +kernel)
  exact fma_near (1417 / 1000) (92 / 100000000) f5 fr (show finI 2 1065353216 = true by decide) (nr_eq c5) e5 hr rb t5 t6 (by decide +kernel) (by decide +kernel) (by decide +kernel) (by decide +kernel)

set_option maxHeartbeats 2000000 in
/-- k logarithms of 2 laid on and taken off. -/
theorem lin_chain (K N y : Int) (k Y : Rat) (fK : finI 2 K = true) (fN : finI 2 N = true) (hK : rv K = k) (hN : rv N = -k) (hk : Bd k 2) (fy : finI 2 y = true) (hy : Nr (rv y) Y (9 / 100000000)) (hY : Bd Y (347 / 1000)) :
    finI 2 (logT K y) = true ∧ Nr (rv (logT K y)) (k * (11629056 / 16777216) + (k * (12566158 / 8796093022208) + Y)) (352 / 1000000000)
    ∧ finI 2 (fmaV N 901758606 (fmaV N 1060205056 (logT K y))) = true ∧ Nr (rv (fmaV N 901758606 (fmaV N 1060205056 (logT K y)))) Y (46 / 100000000) := by
  obtain ⟨ch, cl⟩ := pair_consts3
  have hl : logT K y = fmaV K 1060205056 (fmaV K 901758606 y) := rfl
  rw [hl]
  have lb : Bd (12566158 / 8796093022208) (15 / 10000000) := ⟨by decide +kernel, by decide +kernel⟩
  have hb : Bd (11629056 / 16777216) (694 / 1000) := ⟨by decide +kernel, by decide +kernel⟩
  have lbr : Bd (rv 901758606) (15 / 10000000) := by rw [cl]; exact lb
  have hbr : Bd (rv 1060205056) (694 / 1000) := by rw [ch]; exact hb
  have t1 : Bd (k * (12566158 / 8796093022208) + Y) (3471 / 10000) := by unfold Bd at *; constructor <;> grind
  obtain ⟨f1, e1⟩ := fma_near (3472 / 10000) (134 / 1000000000) fK (show finI 2 901758606 = true by decide) fy hy (nr_eq hK) (nr_eq cl) lbr hk t1 (by decide +kernel) (by decide +kernel) (by decide +kernel) (by decide +kernel)
  generalize fmaV K 901758606 y = l1 at *
  have t2 : Bd (k * (11629056 / 16777216) + (k * (12566158 / 8796093022208) + Y)) (17335 / 10000) := by unfold Bd at *; constructor <;> grind
  obtain ⟨f2, e2⟩ := fma_near (1734 / 1000) (352 / 1000000000) fK (show finI 2 1060205056 = true by decide) f1 e1 (nr_eq hK) (nr_eq ch) hbr hk t2 (by decide +kernel) (by decide +kernel) (by decide +kernel) (by decide +kernel)
  generalize fmaV K 1060205056 l1 = l at *
  have hnk : Bd (-k) 2 := by unfold Bd at *; constructor <;> grind
  have r1 : -k * (11629056 / 16777216) + (k * (11629056 / 16777216) + (k * (12566158 / 8796093022208) + Y)) = k * (12566158 / 8796093022208) + Y := by grind
  obtain ⟨f3, e3⟩ := fma_near (3472 / 10000) (396 / 1000000000) fN (show finI 2 1060205056 = true by decide) f2 e2 (nr_eq hN) (nr_eq ch) hbr hnk (by rw [r1]; exact t1) (by decide +kernel) (by decide +kernel) (by decide +kernel) (by decide +kernel)
  rw [r1] at e3
  generalize fmaV N 1060205056 l = r' at *
  have r2 : -k * (12566158 / 8796093022208) + (k * (12566158 / 8796093022208) + Y) = Y := by grind
  obtain ⟨f4, e4⟩ := fma_near (3472 / 10000) (46 / 100000000) fN (show finI 2 901758606 = true by decide) f3 e3 (nr_eq hN) (nr_eq cl) lbr hnk (by rw [r2]; exact hY) (by decide +kernel) (by decide +kernel) (by decide +kernel) (by decide +kernel)
  rw [r2] at e4
  exact ⟨f2, e2, f4, e4⟩

theorem unE_of (x : Int) (x0 : 0 ≤ x) (x1 : x < 2139095040) : unE 2 x = if x / 8388608 = 0 then -149 else x / 8388608 - 150 := by
  have eX : fX 2 x = x / 8388608 := by show x / 8388608 % 256 = _; omega
  have t : topx 2 = 255 := rfl
  have l : lst 2 = -149 := rfl
  unfold unE
  rw [eX, t, l, if_neg (by omega)]
  split <;> omega

theorem quo_floor (M N : Nat) (hN : 0 < N) : quoN M N 100 * N ≤ M * 2 ^ 100 ∧ M * 2 ^ 100 < (quoN M N 100 + 1) * N := by
  unfold quoN
  generalize M * 2 ^ 100 = X
  have h1 := Nat.div_add_mod X N
  have h2 := Nat.mod_lt X hN
  have h3 := Nat.mul_comm N (X / N)
  rw [Nat.add_mul, Nat.one_mul]
  omega

/-- A quotient's amounts: how far it lies from its numbers. -/
theorem div_units (q M N E A B T : Nat) (hE : E + B + 100 = A + T) (h1 : q * N ≤ M * 2 ^ 100) (h2 : M * 2 ^ 100 < (q + 1) * N) :
    (q * 2 ^ E) * (N * 2 ^ B) ≤ M * 2 ^ A * 2 ^ T ∧ M * 2 ^ A * 2 ^ T < (q * 2 ^ E + 2 ^ E) * (N * 2 ^ B) := by
  have e : M * 2 ^ A * 2 ^ T = M * 2 ^ 100 * 2 ^ (E + B) := by
    rw [Nat.mul_assoc, ← Nat.pow_add, Nat.mul_assoc, ← Nat.pow_add, show A + T = 100 + (E + B) by omega]
  have e2 : (q * 2 ^ E) * (N * 2 ^ B) = q * N * 2 ^ (E + B) := by
    rw [Nat.pow_add]; generalize (2 : Nat) ^ E = x; generalize (2 : Nat) ^ B = y; grind
  have e3 : (q * 2 ^ E + 2 ^ E) * (N * 2 ^ B) = (q + 1) * N * 2 ^ (E + B) := by
    rw [Nat.pow_add]; generalize (2 : Nat) ^ E = x; generalize (2 : Nat) ^ B = y; grind
  rw [e, e2, e3]
  exact ⟨Nat.mul_le_mul_right _ h1, Nat.mul_lt_mul_of_pos_right h2 (p2 _)⟩

theorem rS_prod2 (S T : Int) : rS (S * T) = rS S * rS T * rU := by
  have p := rU_pos
  unfold rS; rw [Rat.intCast_mul]; grind

theorem rS_tw1 : rS ((2 ^ tw : Nat) : Int) = 1 := by
  have := rS_tw 1
  rw [Int.one_mul] at this; exact this

theorem unit_small (E : Nat) (h : E ≤ 200) : rS ((2 ^ E : Nat) : Int) ≤ 1 / 100000000000000000000 ∧ rS 1 ≤ 1 / 100000000000000000000 ∧ 0 ≤ rS ((2 ^ E : Nat) : Int) := by
  have a : rS ((2 ^ 200 : Nat) : Int) ≤ 1 / 100000000000000000000 := by decide +kernel
  have b : rS 1 ≤ 1 / 100000000000000000000 := by decide +kernel
  have c : rS ((2 ^ E : Nat) : Int) ≤ rS ((2 ^ 200 : Nat) : Int) := rS_le.2 (by have := Nat.pow_le_pow_right (show 0 < 2 by decide) h; omega)
  have d : rS 0 ≤ rS ((2 ^ E : Nat) : Int) := rS_le.2 (Int.natCast_nonneg _)
  have z : rS 0 = 0 := by decide +kernel
  rw [z] at d
  exact ⟨Rat.le_trans c a, b, d⟩

theorem sV_pos_is (x : Int) (x0 : 0 ≤ x) (x1 : x < 2147483648) : sV x = (((unM 2 x).toNat * 2 ^ (unE 2 x + 298).toNat : Nat) : Int) := by
  unfold sV sg amtE
  rw [fS_two x x0 (by omega), decide_eq_false (by omega)]; rfl

theorem up_split (q E T : Nat) (h : T = 9802) : q * 2 ^ (E + T) = upN (q * 2 ^ E) := by
  unfold upN; rw [← h]; exact pow_split q E T

theorem up_next (V bit T : Nat) (hT : T = 9802) (h : bit ≤ 1) : upN V + bit ≤ upN (V + 1) := by
  unfold upN
  rw [← hT, Nat.add_mul, Nat.one_mul]
  have := p2 T
  omega

theorem div_side (A0 Q o : Rat) (hA0 : 1 / 1048576 ≤ A0) (hA1 : A0 ≤ 1048576) (q0 : 0 ≤ Q) (q1 : Q ≤ A0) (o0 : 0 ≤ o) (o1 : o ≤ 1 / 100000000000000000000) :
    1 / 1099511627776 ≤ A0 * (1000001 / 1000000) ∧ A0 * (1000001 / 1000000) ≤ 1099511627776 ∧ -(A0 * (1000001 / 1000000)) ≤ Q ∧ Q ≤ A0 * (1000001 / 1000000) ∧ -(A0 * (1000001 / 1000000)) ≤ Q + o ∧ Q + o ≤ A0 * (1000001 / 1000000) := by
  refine ⟨?_, ?_, ?_, ?_, ?_, ?_⟩ <;> grind

theorem div_close (X X1 X2 Q U o A0 b a : Rat) (hA0 : 1 / 1048576 ≤ A0) (hb : 0 < b) (o1 : o ≤ 1 / 100000000000000000000) (u1 : U ≤ 1 / 100000000000000000000) (l1 : X1 ≤ X) (l2 : X ≤ X2)
    (g : -(A0 * (1000001 / 1000000) / 8000000) ≤ X1 - Q) (i : X2 - (Q + o) ≤ A0 * (1000001 / 1000000) / 8000000) (q3 : Q * b ≤ a) (q4 : a ≤ (Q + U) * b) : Nr (X * b) a (A0 / 7900000 * b) := by
  have y1 : Q - A0 * (1000001 / 1000000) / 8000000 ≤ X := by grind
  have y2 : X ≤ Q + (1 / 100000000000000000000 + A0 * (1000001 / 1000000) / 8000000) := by grind
  have x1 := Rat.mul_le_mul_of_nonneg_right y1 (Rat.le_of_lt hb)
  have x2 := Rat.mul_le_mul_of_nonneg_right y2 (Rat.le_of_lt hb)
  have x3 := Rat.mul_le_mul_of_nonneg_right (show U + A0 * (1000001 / 1000000) / 8000000 ≤ A0 / 7900000 by grind) (Rat.le_of_lt hb)
  have x4 := Rat.mul_le_mul_of_nonneg_right (show 1 / 100000000000000000000 + A0 * (1000001 / 1000000) / 8000000 ≤ A0 / 7900000 by grind) (Rat.le_of_lt hb)
  clear y1 y2 l1 l2 g i hA0 o1 u1
  unfold Nr
  constructor <;> grind

set_option maxHeartbeats 1000000 in
/-- A quotient of numbers above nought. -/
theorem div_near (a b : Int) (A0 : Rat) (a0 : 0 < a) (a1 : a ≤ 1065353216) (b0 : 1056964608 ≤ b) (b1 : b < 1082130432) (hA : rv a ≤ A0 * rv b) (hA0 : 1 / 1048576 ≤ A0) (hA1 : A0 ≤ 1048576) :
    finI 2 (divV a b) = true ∧ 0 ≤ divV a b ∧ divV a b ≤ 2139095040 ∧ 0 < rv b ∧ Nr (rv (divV a b) * rv b) (rv a) (A0 / 7900000 * rv b) := by
  have fa : finI 2 a = true := fin_of_kz a (by omega) (by omega) (by rw [kz_pos a (by omega)]; omega) (by rw [kz_pos a (by omega)]; omega)
  have fD : finI 2 b = true := fin_of_kz b (by omega) (by omega) (by rw [kz_pos b (by omega)]; omega) (by rw [kz_pos b (by omega)]; omega)
  obtain ⟨a2, a3⟩ := fin_kinds a fa
  obtain ⟨d2, d3⟩ := fin_kinds b fD
  have na : nouB 2 a = false := by
    cases h' : nouB 2 a
    · rfl
    · have := (nou_a 2 a).1 h'; rw [a_two] at this; omega
  have nD : nouB 2 b = false := by
    cases h' : nouB 2 b
    · rfl
    · have := (nou_a 2 b).1 h'; rw [a_two] at this; omega
  have hs : sgP 2 a b = false := by unfold sgP; rw [fS_two a (by omega) (by omega), fS_two b (by omega) (by omega), decide_eq_false (by omega), decide_eq_false (by omega)]; rfl
  have ea := unE_of a (by omega) (by omega)
  have eb := unE_of b (by omega) (by omega)
  have ea0 : -149 ≤ unE 2 a ∧ unE 2 a ≤ -23 := by rw [ea]; split <;> omega
  have eb0 : -24 ≤ unE 2 b ∧ unE 2 b ≤ -22 := by rw [eb]; rw [if_neg (by omega)]; omega
  have sa := sV_pos_is a (by omega) (by omega)
  have sb := sV_pos_is b (by omega) (by omega)
  have hN : 0 < (unM 2 b).toNat := by have := num_pos 2 b d2 nD d3; omega
  obtain ⟨h1, h2⟩ := quo_floor (unM 2 a).toNat (unM 2 b).toNat hN
  have hb1 := Bool.toNat_le (quoB (unM 2 a).toNat (unM 2 b).toNat 100)
  have hval : divV a b = (magN 2 0 false (quoN (unM 2 a).toNat (unM 2 b).toNat 100 * 2 ^ (unE 2 a - unE 2 b - 100 + 10100).toNat + (quoB (unM 2 a).toNat (unM 2 b).toNat 100).toNat) : Int) := by
    unfold divV divE quoE
    rw [a2, d2, na, nD, a3, d3, hs, if_neg (by decide), if_neg (by decide), if_neg (by decide), if_neg (by decide), if_neg (by decide)]
    show zerI 2 false + _ = _
    rw [show zerI 2 false = 0 by rfl, Int.zero_add]
  generalize (quoB (unM 2 a).toNat (unM 2 b).toNat 100).toNat = bit at hb1 hval
  generalize quoN (unM 2 a).toNat (unM 2 b).toNat 100 = q at h1 h2 hval
  generalize (unM 2 a).toNat = M at h1 h2 sa
  generalize (unM 2 b).toNat = N at h1 h2 sb hN
  obtain ⟨E, hE⟩ : ∃ E : Nat, (E : Int) = unE 2 a - unE 2 b + 198 := ⟨(unE 2 a - unE 2 b + 198).toNat, by omega⟩
  have hEs : E ≤ 200 := by omega
  rw [show (unE 2 a - unE 2 b - 100 + 10100).toNat = E + 9802 by omega] at hval
  have hup1 := up_next (q * 2 ^ E) bit _ rfl hb1
  rw [up_split q E _ rfl] at hval
  obtain ⟨A', hA'⟩ : ∃ A' : Nat, (unE 2 a + 298).toNat = A' := ⟨_, rfl⟩
  obtain ⟨B', hB'⟩ : ∃ B' : Nat, (unE 2 b + 298).toNat = B' := ⟨_, rfl⟩
  rw [hA'] at sa
  rw [hB'] at sb
  obtain ⟨u1, u2⟩ := div_units q M N E A' B' tw (by have : tw = 298 := rfl; omega) h1 h2
  obtain ⟨s1, s2, s3⟩ := unit_small E hEs
  have m1 := mag_mono 2 0 false (show upN (q * 2 ^ E) ≤ upN (q * 2 ^ E) + bit by omega)
  have m2 := mag_mono 2 0 false hup1
  generalize upN (q * 2 ^ E) + bit = W at hval m1 m2
  rw [← show (magN 2 0 false W : Int) = divV a b from hval.symm]
  clear hval hup1 ea eb
  have top2 : rkN (q * 2 ^ E + 1) ≤ 2139095040 := mag_top _
  have k1 : rkN (q * 2 ^ E) ≤ magN 2 0 false W := m1
  have k2 : magN 2 0 false W ≤ rkN (q * 2 ^ E + 1) := m2
  clear m1 m2
  -- the amounts as fractions
  have q1 : rS ((q * 2 ^ E : Nat) : Int) * rv b ≤ rv a ∧ rv a ≤ (rS ((q * 2 ^ E : Nat) : Int) + rS ((2 ^ E : Nat) : Int)) * rv b := by
    have p := rU_pos
    have v1 : ((q * 2 ^ E : Nat) : Int) * sV b ≤ sV a * ((2 ^ tw : Nat) : Int) := by rw [sa, sb, ← Int.natCast_mul, ← Int.natCast_mul]; omega
    have v2 : sV a * ((2 ^ tw : Nat) : Int) ≤ (((q * 2 ^ E : Nat) : Int) + ((2 ^ E : Nat) : Int)) * sV b := by rw [sa, sb, ← Int.natCast_mul, ← Int.natCast_add, ← Int.natCast_mul]; omega
    have w1 := rS_le.2 v1
    have w2 := rS_le.2 v2
    rw [rS_prod2, rS_prod2, rS_tw1] at w1
    rw [rS_prod2, rS_prod2, rS_tw1, rS_add] at w2
    constructor
    · have := Rat.le_of_mul_le_mul_right w1 p
      rw [Rat.mul_one] at this; exact this
    · have := Rat.le_of_mul_le_mul_right w2 p
      rw [Rat.mul_one] at this; exact this
  have hbp : 0 < rv b := by
    have := (rv_line 1056964608 b (by omega) (by omega) (by omega) (by omega) (by decide) fD).1 (by rw [kz_pos b (by omega), show kz 1056964608 = 1056964608 by decide]; exact b0)
    have h : (0 : Rat) < rv 1056964608 := by decide +kernel
    grind
  have hq0 : 0 ≤ rS ((q * 2 ^ E : Nat) : Int) := by
    have z : rS 0 = 0 := by decide +kernel
    have := rS_le.2 (show (0 : Int) ≤ ((q * 2 ^ E : Nat) : Int) by omega)
    rw [z] at this; exact this
  have hqA : rS ((q * 2 ^ E : Nat) : Int) ≤ A0 := Rat.le_of_mul_le_mul_right (Rat.le_trans q1.1 hA) hbp
  have r1 : rS ((q * 2 ^ E + 1 : Nat) : Int) = rS ((q * 2 ^ E : Nat) : Int) + rS 1 := by rw [Int.natCast_add, rS_add]; rfl
  have ho0 : 0 ≤ rS 1 := by decide +kernel
  obtain ⟨c1, c2, c3, c4, c5, c6⟩ := div_side A0 _ _ hA0 hA1 hq0 hqA ho0 s2
  obtain ⟨g1, g2, g3⟩ := rv_err ((q * 2 ^ E : Nat) : Int) (rkN (q * 2 ^ E) : Int) (by omega) (by omega) (by rw [kz_pos _ (by omega), rk_pos]) (A0 * (1000001 / 1000000)) c1 c2 c3 c4
  obtain ⟨i1, i2, i3⟩ := rv_err ((q * 2 ^ E + 1 : Nat) : Int) (rkN (q * 2 ^ E + 1) : Int) (by omega) (by omega) (by rw [kz_pos _ (by omega), rk_pos]) (A0 * (1000001 / 1000000)) c1 c2 (by rw [r1]; exact c5) (by rw [r1]; exact c6)
  have ft := (fin_kz _ (by omega) (by omega)).1 i1
  rw [kz_pos _ (by omega)] at ft
  have fx : finI 2 (magN 2 0 false W : Int) = true := fin_of_kz _ (by omega) (by omega) (by rw [kz_pos _ (by omega)]; omega) (by rw [kz_pos _ (by omega)]; omega)
  have l1 := (rv_line (rkN (q * 2 ^ E) : Int) (magN 2 0 false W : Int) (by omega) (by omega) (by omega) (by omega) g1 fx).1 (by rw [kz_pos _ (by omega), kz_pos _ (by omega)]; omega)
  have l2 := (rv_line (magN 2 0 false W : Int) (rkN (q * 2 ^ E + 1) : Int) (by omega) (by omega) (by omega) (by omega) fx i1).1 (by rw [kz_pos _ (by omega), kz_pos _ (by omega)]; omega)
  rw [r1] at i2 i3
  exact ⟨fx, by omega, by omega, hbp, div_close _ _ _ _ _ _ _ _ _ hA0 hbp s2 s1 l1 l2 g2 i3 q1.1 q1.2⟩

theorem quo_pos (v t D : Rat) (v0 : 70710682 / 100000000 ≤ v) (v1 : v ≤ 141421357 / 100000000) (ht : Nr t (v - 1) (525 / 10000000000)) (hD : Nr D (2 + t) (3125 / 10000000000)) :
    17 / 10 ≤ D ∧ D ≤ 242 / 100 ∧ t ≤ 1717 / 10000 * D ∧ -t ≤ 1717 / 10000 * D ∧ -1 ≤ t ∧ t ≤ 1 := by
  unfold Nr at *
  refine ⟨?_, ?_, ?_, ?_, ?_, ?_⟩ <;> grind

theorem quo_sig (s t D : Rat) (d0 : 17 / 10 ≤ D) (s0 : 0 ≤ s) (h : t ≤ 1717 / 10000 * D) (hs : Nr (s * D) t (1717 / 10000 / 7900000 * D)) : Bd s (172 / 1000) := by
  have : s * D ≤ 172 / 1000 * D := by unfold Nr at hs; grind
  have := Rat.le_of_mul_le_mul_right this (by grind)
  unfold Bd; constructor <;> grind

theorem quo_E (v t D σ : Rat) (ht : Nr t (v - 1) (525 / 10000000000)) (hD : Nr D (2 + t) (3125 / 10000000000)) (d1 : D ≤ 242 / 100) (hs : Nr (σ * D) t (1717 / 10000 / 7900000 * D)) (hσ : Bd σ (172 / 1000)) : Bd (σ * (1 + v) - (v - 1)) (2 / 10000000) := by
  have p := bd_mul hσ (show Bd (D - (1 + v)) (3651 / 10000000000) by unfold Nr Bd at *; constructor <;> grind)
  unfold Nr Bd at *
  constructor <;> grind

theorem quo_S (v σ : Rat) (v0 : 70710682 / 100000000 ≤ v) (v1 : v ≤ 141421357 / 100000000) (h : Bd (σ * (1 + v) - (v - 1)) (2 / 10000000)) : Bd σ (1716 / 10000) := by
  unfold Bd at *
  have a : σ * (1 + v) ≤ 1716 / 10000 * (1 + v) := by grind
  have b : -(1716 / 10000) * (1 + v) ≤ σ * (1 + v) := by grind
  exact ⟨Rat.le_of_mul_le_mul_right b (by grind), Rat.le_of_mul_le_mul_right a (by grind)⟩

theorem rv_zero : rv 0 = 0 := by decide +kernel

theorem rv_wid : rv 1060439284 ≤ 70710684 / 100000000 ∧ 70710682 / 100000000 ≤ rv 1060439284 ∧ rv 1068827891 ≤ 141421357 / 100000000 ∧ 1 + 1 / 10000000 ≤ rv 1065353217 ∧ rv 1065353215 ≤ 1 - 59 / 1000000000 ∧ rv 1056964608 = 1 / 2 ∧ 3 ≤ rv 1082130431 ∧ rv 1065353216 = 1 ∧ rv 1073741824 = 2 := by
  refine ⟨?_, ?_, ?_, ?_, ?_, ?_, ?_, ?_, ?_⟩ <;> decide +kernel

theorem pos_of_rv (x : Int) (x0 : 0 ≤ x) (x1 : x ≤ 4294967295) (hf : finI 2 x = true) (h : 0 < rv x) : 0 < x ∧ x < 2139095040 ∧ kz x = x := by
  have hk := (fin_kz x x0 x1).1 hf
  have : ¬ kz x ≤ 0 := fun g => by
    have := (rv_line x 0 x0 x1 (by omega) (by omega) hf (by decide)).1 (by rw [show kz 0 = 0 by decide]; exact g)
    rw [rv_zero] at this
    grind
  unfold kz at *
  by_cases c : 2147483648 ≤ x
  · rw [if_pos c] at this; omega
  · rw [if_neg c] at this hk ⊢; omega

theorem neg_back (x : Int) (x0 : 0 ≤ x) (x1 : x ≤ 4294967295) (hn : nanB 2 x = false) : x = negV (negV x) := by
  obtain ⟨h1, h2, _⟩ := neg_is x x0 x1 hn
  obtain ⟨w0, w1⟩ := neg_word x x0 x1
  rw [(neg_is (negV x) w0 w1 h2).1, h1, xor_back x x0 x1]

set_option maxHeartbeats 1000000 in
/-- Log's quotient: s (1 + m) is m - 1, nearly. -/
theorem quo_step (m : Int) (m0 : 1060439284 ≤ m) (m1 : m ≤ 1068827891) :
    finI 2 (logS (subV m 1065353216)) = true ∧ Bd (rv (logS (subV m 1065353216)) * (1 + rv m) - (rv m - 1)) (2 / 10000000) ∧ Bd (rv (logS (subV m 1065353216))) (1716 / 10000) := by
  obtain ⟨w1, w2, w3, w4, w5, w6, w7, w8, w9⟩ := rv_wid
  have fm : finI 2 m = true := fin_of_kz m (by omega) (by omega) (by rw [kz_pos m (by omega)]; omega) (by rw [kz_pos m (by omega)]; omega)
  have v0 := (rv_line 1060439284 m (by omega) (by omega) (by omega) (by omega) (by decide) fm).1 (by rw [kz_pos m (by omega), kz_pos _ (by omega)]; exact m0)
  have v1 := (rv_line m 1068827891 (by omega) (by omega) (by omega) (by omega) fm (by decide)).1 (by rw [kz_pos m (by omega), kz_pos _ (by omega)]; exact m1)
  replace v0 := Rat.le_trans w2 v0
  replace v1 := Rat.le_trans v1 w3
  suffices hh : finI 2 (logS (subV m 1065353216)) = true ∧ Bd (rv (logS (subV m 1065353216)) * (1 + rv m) - (rv m - 1)) (2 / 10000000) from ⟨hh.1, hh.2, quo_S _ _ v0 v1 hh.2⟩
  by_cases c : m = 1065353216
  · subst c
    have e : logS (subV 1065353216 1065353216) = 0 := by kernel_rfl
    rw [e, rv_zero, w8]
    exact ⟨by decide, by unfold Bd; constructor <;> grind⟩
  obtain ⟨ft, t1, t2⟩ := sub_err m 1065353216 (42 / 100) (by omega) (by omega) fm (by decide) (by decide +kernel) (by decide +kernel) (by rw [w8]; grind) (by rw [w8]; grind)
  rw [w8] at t1 t2
  have ht : Nr (rv (subV m 1065353216)) (rv m - 1) (525 / 10000000000) := by unfold Nr; constructor <;> grind
  obtain ⟨x0, x1⟩ := sub_word m 1065353216
  unfold logS
  clear t1 t2
  have hsgn : (1065353216 < m → 0 < rv (subV m 1065353216)) ∧ (m < 1065353216 → rv (subV m 1065353216) < 0) := by
    constructor
    · intro g
      have := (rv_line 1065353217 m (by omega) (by omega) (by omega) (by omega) (by decide) fm).1 (by rw [kz_pos m (by omega), kz_pos _ (by omega)]; omega)
      unfold Nr at ht; grind
    · intro g
      have := (rv_line m 1065353215 (by omega) (by omega) (by omega) (by omega) fm (by decide)).1 (by rw [kz_pos m (by omega), kz_pos _ (by omega)]; omega)
      unfold Nr at ht; grind
  generalize subV m 1065353216 = t at *
  obtain ⟨fD, d1, d2⟩ := add_err 1073741824 t (25 / 10) (by decide) ft (by decide +kernel) (by decide +kernel) (by rw [w9]; unfold Nr at ht; grind) (by rw [w9]; unfold Nr at ht; grind)
  rw [w9] at d1 d2
  have hD : Nr (rv (addV 1073741824 t)) (2 + rv t) (3125 / 10000000000) := by unfold Nr; constructor <;> grind
  obtain ⟨y0, y1⟩ := add_word 1073741824 t
  clear d1 d2
  generalize addV 1073741824 t = D at *
  obtain ⟨e0, e1, e2, e3, e4, e5⟩ := quo_pos _ _ _ v0 v1 ht hD
  obtain ⟨p0, p1, p2'⟩ := pos_of_rv D y0 y1 fD (by grind)
  have D0 := (rv_line 1056964608 D (by omega) (by omega) y0 y1 (by decide) fD).2 (by rw [w6]; grind)
  have D1 := (rv_line D 1082130431 y0 y1 (by omega) (by omega) fD (by decide)).2 (by grind)
  rw [p2', kz_pos _ (by omega)] at D0 D1
  rcases Int.lt_or_lt_of_ne c with g | g
  · have hneg := hsgn.2 g
    obtain ⟨_, _, _, z0, z1⟩ := xor_parts 2 t x0 x1
    have hr := rv_neg t x0 x1
    have hf := (xor_sV t x0 x1).2
    rw [ft] at hf
    obtain ⟨a0, a1, a2⟩ := pos_of_rv (xorI 2 t) z0 z1 hf (by rw [hr]; grind)
    have a3 := (rv_line (xorI 2 t) 1065353216 z0 z1 (by omega) (by omega) hf (by decide)).2 (by rw [hr, w8]; grind)
    rw [a2, kz_pos _ (by omega)] at a3
    obtain ⟨b0, b1, b2, b3, b4⟩ := div_near (xorI 2 t) D (1717 / 10000) a0 a3 D0 (by omega) (by rw [hr]; exact e3) (by decide +kernel) (by decide +kernel)
    have hx : divV t D = negV (divV (xorI 2 t) D) := by
      have hb := (fin_kinds _ b0).1
      have e := div_neg_is (xorI 2 t) D z0 z1
      rw [xor_back t x0 x1] at e
      exact e
    have hs0 : 0 ≤ rv (divV (xorI 2 t) D) := by
      have := (rv_line 0 (divV (xorI 2 t) D) (by omega) (by omega) b1 (by omega) (by decide) b0).1 (by rw [kz_pos _ (by omega), kz_pos _ (by omega)]; exact b1)
      rw [rv_zero] at this; exact this
    have hn := (neg_is (divV (xorI 2 t) D) b1 (by omega) (fin_kinds _ b0).1).1
    have hb := quo_sig _ _ _ e0 hs0 (by rw [hr]; exact e3) b4
    rw [hx, hn, rv_neg _ b1 (by omega)]
    refine ⟨by rw [(xor_sV _ b1 (by omega)).2]; exact b0, ?_⟩
    rw [hr] at b4
    exact quo_E _ _ _ _ ht hD e1 (by unfold Nr at b4 ⊢; constructor <;> grind) (by unfold Bd at hb ⊢; constructor <;> grind)
  · have hpos := hsgn.1 g
    obtain ⟨a0, a1, a2⟩ := pos_of_rv t x0 x1 ft hpos
    have a3 := (rv_line t 1065353216 x0 x1 (by omega) (by omega) ft (by decide)).2 (by rw [w8]; exact e5)
    rw [a2, kz_pos _ (by omega)] at a3
    obtain ⟨b0, b1, b2, b3, b4⟩ := div_near t D (1717 / 10000) a0 a3 D0 (by omega) e2 (by decide +kernel) (by decide +kernel)
    have hs0 : 0 ≤ rv (divV t D) := by
      have := (rv_line 0 (divV t D) (by omega) (by omega) b1 (by omega) (by decide) b0).1 (by rw [kz_pos _ (by omega), kz_pos _ (by omega)]; exact b1)
      rw [rv_zero] at this; exact this
    exact ⟨b0, quo_E _ _ _ _ ht hD e1 b4 (quo_sig _ _ _ e0 hs0 e2 b4)⟩

theorem close_lin (p v σ P G : Rat) (hp : Nr p P (92 / 100000000)) (hG : Bd G (14 / 100000000)) (hG2 : G = (1 - σ) * P - (1 + σ)) (hE : Bd (σ * (1 + v) - (v - 1)) (2 / 10000000)) (hσ : Bd σ (1716 / 10000)) : Nr p v (18 / 10000000) := by
  have q := bd_mul (show Bd (p - P) (92 / 100000000) from hp) (show Bd (1 - σ) (11716 / 10000) by unfold Bd at *; constructor <;> grind)
  have h1 : (p - v) * (1 - σ) ≤ 18 / 10000000 * (1 - σ) := by unfold Bd at *; grind
  have h2 : -(18 / 10000000) * (1 - σ) ≤ (p - v) * (1 - σ) := by unfold Bd at *; grind
  have hs : 0 < 1 - σ := by unfold Bd at *; grind
  exact ⟨Rat.le_of_mul_le_mul_right h2 hs, Rat.le_of_mul_le_mul_right h1 hs⟩

theorem pY_bd (s : Rat) (h : Bd s (1716 / 10000)) : Bd (pe pY s) (347 / 1000) := bd_more (pe_bd pY s _ h) (by decide +kernel)

/-- Where Exp takes out just the powers that Log laid on, what comes back is near what was taken. -/
theorem pair_near (m K N : Int) (k : Rat) (m0 : 1060439284 ≤ m) (m1 : m ≤ 1068827891) (fK : finI 2 K = true) (fN : finI 2 N = true) (hK : rv K = k) (hN : rv N = -k) (hk : Bd k 2) :
    finI 2 (logY (logS (subV m 1065353216))) = true
    ∧ Nr (rv (logY (logS (subV m 1065353216)))) (pe pY (rv (logS (subV m 1065353216)))) (9 / 100000000)
    ∧ finI 2 (logT K (logY (logS (subV m 1065353216)))) = true
    ∧ Nr (rv (logT K (logY (logS (subV m 1065353216))))) (k * (11629056 / 16777216) + (k * (12566158 / 8796093022208) + pe pY (rv (logS (subV m 1065353216))))) (352 / 1000000000)
    ∧ finI 2 (alongV 985008993 (fmaV N 901758606 (fmaV N 1060205056 (logT K (logY (logS (subV m 1065353216)))))) [1007192201, 1026206379, 1042983595, 1056964608, 1065353216, 1065353216]) = true
    ∧ Nr (rv (alongV 985008993 (fmaV N 901758606 (fmaV N 1060205056 (logT K (logY (logS (subV m 1065353216)))))) [1007192201, 1026206379, 1042983595, 1056964608, 1065353216, 1065353216])) (rv m) (18 / 10000000) := by
  obtain ⟨fs, hE, hS⟩ := quo_step m m0 m1
  generalize logS (subV m 1065353216) = s at *
  obtain ⟨fy, hy⟩ := log_chain s fs hS
  have hY := pY_bd _ hS
  generalize logY s = y at *
  obtain ⟨g1, g2, g3, g4⟩ := lin_chain K N y k _ fK fN hK hN hk fy hy hY
  generalize fmaV N 901758606 (fmaV N 1060205056 (logT K y)) = r at *
  obtain ⟨i1, i2⟩ := exp_chain r _ g3 g4 hY
  rw [← pP_is] at i2
  refine ⟨fy, hy, g1, g2, i1, ?_⟩
  exact close_lin _ _ (rv s) _ _ i2 (bd_more (pe_bd pG _ _ hS) pG_bd) (pG_is _) hE hS
end Go.Proofs.Ytheaeclojljecaa
