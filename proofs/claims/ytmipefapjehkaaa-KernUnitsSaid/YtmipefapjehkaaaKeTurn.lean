/- Products of tensors that are turned, as plain numbers. A product and sum with a nought, with a one: what KernUnits asks. No program. -/
import Derived.Test.YtmipefapjehkaaaRProd
import Derived.Test.YtmipefapjehkaaaRFmt
import Derived.Test.YtmipefapjehkaaaNans
import Derived.Test.YtmipefapjehkaaaREach
import Derived.Test.YtmipefapjehkaaaRKern
import Derived.Test.YtmipefapjehkaaaFunMath
namespace Go.Proofs.Ytmipefapjehkaaa
open Go.RowKit
set_option linter.unusedVariables false
set_option linter.unusedSimpArgs false

theorem ten_right {x y n : Nat} {F : Int} {g : Nat → Int} (hx : x ≤ 4096) (hy : y ≤ 4096) (hF : knownB F = true) (hn : n = x * y) (h : ∀ i, i < n → g i ≤ msk F) : rightB x y F n g = true := by
  unfold rightB
  rw [decide_eq_true (by omega), hF, beq_iff_eq.2 (by rw [hn, Int.natCast_mul]), allB_yes fun i hi => decide_eq_true (h i hi)]
  rfl

theorem mil_le (f k : Int) (h0 : 0 ≤ k) : milI f k ≤ msk f := by
  by_cases c : milI f k = 0
  · rw [c]
    rcases fmt_cases f with ⟨rfl, hf⟩ | ⟨rfl, hf⟩ | ⟨⟨c0, c1⟩, hf⟩ <;> obtain ⟨e1, e2, e3, e4, e5, e6, e7, e8, e9⟩ := hf <;> omega
  · exact (mil_norm f k h0 c).2.1

theorem known_rem {f : Int} (h0 : 0 ≤ f) (h : f < 3) : knownB f = true := by
  rcases (show f = 0 ∨ f = 1 ∨ f = 2 by omega) with rfl | rfl | rfl <;> rfl

/-- The three forms' shapes. -/
theorem prodT_is (a b : PT) (ta tb : Bool) (h : prodOk a b ta tb = true) :
    prodT a b ta tb = ⟨prodM a ta, prodK b tb, 2, (prodM a ta).toNat * (prodK b tb).toNat, fun t => prodV a b ta tb (prodK a ta).toNat (t / (prodK b tb).toNat) (t % (prodK b tb).toNat)⟩ ∧ prodX a b ta tb = 0 := by
  unfold prodT prodX
  rw [if_pos h, if_pos h]
  exact ⟨rfl, rfl⟩

theorem turP_at (R C r c : Nat) (hr : r < R) : turP R C (c * R + r) = r * C + c := by
  unfold turP
  rw [Nat.mul_comm c R, Nat.mul_add_mod, Nat.mod_eq_of_lt hr, Nat.mul_add_div (by omega), Nat.div_eq_of_lt hr, Nat.add_zero]

theorem prodV_rows (x y z : Nat) (aF bF : Int) (n m m' : Nat) (ga gb : Nat → Int) (i j : Nat) :
    prodV ⟨x, y, aF, n, ga⟩ ⟨z, y, bF, m, fun t => gb (turP y z t)⟩ false true y i j = prodV ⟨x, y, aF, n, ga⟩ ⟨y, z, bF, m', gb⟩ false false y i j := by
  unfold prodV
  refine dotV_congr (fun q _ => rfl) (fun q hq => ?_)
  show widV bF (fun t => gb (turP y z t)) (ixI false y j q) = widV bF gb (ixI true z j q)
  show conV bF 2 0 (gb (turP y z (j * y + q))) = conV bF 2 0 (gb (q * z + j))
  rw [turP_at y z q j hq]

theorem prodV_cols (x y z : Nat) (aF bF : Int) (n m m' : Nat) (ga gb : Nat → Int) (i j : Nat) (hi : i < x) :
    prodV ⟨y, x, aF, n, fun t => ga (turP x y t)⟩ ⟨y, z, bF, m, gb⟩ true false y i j = prodV ⟨x, y, aF, m', ga⟩ ⟨y, z, bF, m, gb⟩ false false y i j := by
  unfold prodV
  refine dotV_congr (fun q hq => ?_) (fun q _ => rfl)
  show conV aF 2 0 (ga (turP x y (q * x + i))) = conV aF 2 0 (ga (i * y + q))
  rw [turP_at x y i q hi]

/-- All that KernTurned asks of the three products. -/
theorem prod_three (x y z : Nat) (aF bF : Int) (n m : Nat) (ga gb : Nat → Int) (lx : x ≤ 4096) (ly : y ≤ 4096) (lz : z ≤ 4096) (hF : knownB aF = true) (hG : knownB bF = true) (hn : n = x * y) (hm : m = y * z)
    (h1 : ∀ i, i < n → ga i ≤ msk aF) (h2 : ∀ i, i < m → gb i ≤ msk bF) :
    ∃ (N : Nat) (g1 g2 g3 : Nat → Int), (prodT ⟨x, y, aF, n, ga⟩ ⟨y, z, bF, m, gb⟩ false false = ⟨x, z, 2, N, g1⟩ ∧ prodX ⟨x, y, aF, n, ga⟩ ⟨y, z, bF, m, gb⟩ false false = 0) ∧
      (prodT ⟨x, y, aF, n, ga⟩ (rturT ⟨y, z, bF, m, gb⟩) false true = ⟨x, z, 2, N, g2⟩ ∧ prodX ⟨x, y, aF, n, ga⟩ (rturT ⟨y, z, bF, m, gb⟩) false true = 0) ∧
      (prodT (rturT ⟨x, y, aF, n, ga⟩) ⟨y, z, bF, m, gb⟩ true false = ⟨x, z, 2, N, g3⟩ ∧ prodX (rturT ⟨x, y, aF, n, ga⟩) ⟨y, z, bF, m, gb⟩ true false = 0) ∧
      (∀ i, i < N → g1 i = g2 i) ∧ (∀ i, i < N → g1 i = g3 i) ∧
      rturT ⟨y, z, bF, m, gb⟩ = ⟨z, y, bF, m, fun t => gb (turP y z t)⟩ ∧ rturT ⟨x, y, aF, n, ga⟩ = ⟨y, x, aF, n, fun t => ga (turP x y t)⟩ := by
  have ra := ten_right lx ly hF hn h1
  have rb := ten_right ly lz hG hm h2
  have e1 : rturT ⟨y, z, bF, m, gb⟩ = ⟨z, y, bF, m, fun t => gb (turP y z t)⟩ := by
    unfold rturT PT.right
    rw [if_pos rb]
    rfl
  have e2 : rturT ⟨x, y, aF, n, ga⟩ = ⟨y, x, aF, n, fun t => ga (turP x y t)⟩ := by
    unfold rturT PT.right
    rw [if_pos ra]
    rfl
  have rtb : rightB z y bF m (fun t => gb (turP y z t)) = true := ten_right lz ly hG (by rw [hm, Nat.mul_comm]) (fun i hi => h2 _ (by rw [hm] at hi ⊢; exact turP_lt y z i hi))
  have rta : rightB y x aF n (fun t => ga (turP x y t)) = true := ten_right ly lx hF (by rw [hn, Nat.mul_comm]) (fun i hi => h1 _ (by rw [hn] at hi ⊢; exact turP_lt x y i hi))
  have k1 : prodOk ⟨x, y, aF, n, ga⟩ ⟨y, z, bF, m, gb⟩ false false = true := by
    unfold prodOk PT.right prodK prodM
    simp only [Bool.and_eq_true, beq_iff_eq]
    exact ⟨⟨ra, rb⟩, rfl⟩
  have k2 : prodOk ⟨x, y, aF, n, ga⟩ ⟨z, y, bF, m, fun t => gb (turP y z t)⟩ false true = true := by
    unfold prodOk PT.right prodK prodM
    simp only [Bool.and_eq_true, beq_iff_eq]
    exact ⟨⟨ra, rtb⟩, rfl⟩
  have k3 : prodOk ⟨y, x, aF, n, fun t => ga (turP x y t)⟩ ⟨y, z, bF, m, gb⟩ true false = true := by
    unfold prodOk PT.right prodK prodM
    simp only [Bool.and_eq_true, beq_iff_eq]
    exact ⟨⟨rta, rb⟩, rfl⟩
  rw [e1, e2]
  refine ⟨x * z, _, _, _, ⟨(prodT_is _ _ _ _ k1).1, (prodT_is _ _ _ _ k1).2⟩, ⟨(prodT_is _ _ _ _ k2).1, (prodT_is _ _ _ _ k2).2⟩, ⟨(prodT_is _ _ _ _ k3).1, (prodT_is _ _ _ _ k3).2⟩, fun i hi => ?_, fun i hi => ?_, rfl, rfl⟩
  · exact (prodV_rows x y z aF bF n m m ga gb (i / z) (i % z)).symm
  · refine (prodV_cols x y z aF bF n m n ga gb (i / z) (i % z) ?_).symm
    rw [Nat.div_lt_iff_lt_mul (by rcases Nat.eq_zero_or_pos z with e | e; (subst e; omega); exact e)]
    exact hi

/-- A sum with nought is what it is with the nought's own sign. -/
theorem fin_keep (f mode : Int) (n m : Bool) (V : Nat) (h : V ≠ 0) : finE f mode n V m 0 = finE f mode n V n 0 := by
  by_cases e : n = m
  · rw [e]
  · rw [fin_more f mode n m V 0 e (by omega), fin_like f mode n V 0 (by omega), Nat.sub_zero, Nat.add_zero]

/-- A finite number with nought beside it is itself; a nought with a sign is barred. -/
theorem fin_self (x : Int) (m : Bool) (hx : finI 2 x = true) (h0 : 0 ≤ x) (h1 : x ≤ 4294967295) (hz : x ≠ 2147483648) : finE 2 0 (fS 2 x) (amtE (unE 2 x) (unM 2 x)) m 0 = excE x false := by
  by_cases c : amtE (unE 2 x) (unM 2 x) = 0
  · have hM : unM 2 x = 0 := by
      unfold amtE at c
      have := unM_bd 2 x
      rcases Nat.mul_eq_zero.1 c with e | e
      · omega
      · exact absurd e (Nat.ne_of_gt (p2 _))
    have hx0 : x = 0 := by
      have hs := parts_sum 2 x h0 h1
      rcases three_ways 2 x with ⟨a, b, _⟩ | ⟨a, b, c, d⟩ | ⟨a, a2, b, c, d⟩
      · rw [hx] at b; exact absurd b (by decide)
      · have hF : fF 2 x = 0 := by rw [← d]; exact hM
        rw [a, hF] at hs
        cases e : fS 2 x
        · rw [e, show zerI 2 false = 0 by decide] at hs; simp at hs; omega
        · rw [e, show zerI 2 true = 2147483648 by decide] at hs
          exact absurd (by simp at hs; omega) hz
      · have hF := fF_bd 2 x
        have hh := hid_pos 2
        omega
    rw [c]
    subst hx0
    have e0 : fS 2 0 = false := by decide
    rw [e0]
    cases m
    · rw [fin_noughts]; rfl
    · rw [fin_even 2 0 false true 0 (by decide)]; rfl
  · rw [fin_keep _ _ _ _ _ c, fin_like _ _ _ _ _ (by omega), Nat.add_zero, up_num, num_pack 2 0 x h0 h1 hx, excE_is]

theorem valI_exc (x : Int) (b : Bool) : valI (excE x b) = x := rfl

theorem nought_kinds : nanB 2 0 = false ∧ infB 2 0 = false ∧ unM 2 0 = 0 := by decide

theorem one_kinds : nanB 2 1065353216 = false ∧ infB 2 1065353216 = false ∧ oneI 2 = 1065353216 := by decide

/-- fma(x, 0, s) is s. -/
theorem fma_zero (x s : Int) (hx : finI 2 x = true) (hs : finI 2 s = true) (s0 : 0 ≤ s) (s1 : s ≤ 4294967295) (sz : s ≠ 2147483648) : fmaV x 0 s = s := by
  obtain ⟨x1, x2⟩ := fin_kinds x hx
  obtain ⟨y1, y2⟩ := fin_kinds s hs
  obtain ⟨n1, n2, n3⟩ := nought_kinds
  have hb : badB 2 x 0 = false := by unfold badB; rw [x2, n2]; simp
  have ha : amtP 2 x 0 = 0 := (amtP_zero 2 x 0).2 (.inr n3)
  unfold fmaV fmaE
  rw [x1, n1, y1, hb, x2, n2, y2, ha]
  simp only [Bool.or_self, Bool.false_eq_true, if_false]
  rw [fin_swap, fin_self s _ hs s0 s1 sz, valI_exc]

/-- fma(x, 1, 0) is x. -/
theorem fma_unit (x : Int) (hx : finI 2 x = true) (h0 : 0 ≤ x) (h1 : x ≤ 4294967295) (hz : x ≠ 2147483648) : fmaV x 1065353216 0 = x := by
  obtain ⟨x1, x2⟩ := fin_kinds x hx
  obtain ⟨n1, n2, n3⟩ := nought_kinds
  obtain ⟨o1, o2, o3⟩ := one_kinds
  have hb : badB 2 x 1065353216 = false := by unfold badB; rw [x2, o2]; simp
  have ha : amtP 2 x 1065353216 = amtE (unE 2 x) (unM 2 x) := by rw [← o3, amtP_turn, amt_one]
  have hsg : sgP 2 x 1065353216 = fS 2 x := by
    unfold sgP
    rw [← o3, (one_parts 2).2.2.1]
    cases fS 2 x <;> rfl
  have hn : amtE (unE 2 0) (unM 2 0) = 0 := by unfold amtE; rw [n3]; exact Nat.zero_mul _
  unfold fmaV fmaE
  rw [x1, n1, o1, hb, x2, n2, o2, ha, hsg, hn]
  simp only [Bool.or_self, Bool.false_eq_true, if_false]
  rw [fin_self x _ hx h0 h1 hz, valI_exc]

/-- A row by a unit's column: the number that stands at the one. -/
theorem dot_unit (g h : Nat → Int) (n j : Nat) (hj : j < n) (hg : ∀ i, i < n → finI 2 (g i) = true ∧ 0 ≤ g i ∧ g i ≤ 4294967295 ∧ g i ≠ 2147483648) (hh : ∀ i, i < n → h i = if i = j then 1065353216 else 0) : dotV g h n = g j := by
  have key : ∀ k, k ≤ n → dotV g h k = if j < k then g j else 0 := by
    intro k
    induction k with
    | zero => intro _; rw [if_neg (Nat.not_lt_zero j)]; rfl
    | succ k ih =>
      intro hk
      show fmaV (g k) (h k) (dotV g h k) = _
      rw [ih (by omega), hh k (by omega)]
      obtain ⟨a, b, c, d⟩ := hg k (by omega)
      obtain ⟨a', b', c', d'⟩ := hg j hj
      by_cases e : k = j
      · subst e
        rw [if_pos rfl, if_neg (Nat.lt_irrefl k), if_pos (Nat.lt_succ_self k)]
        exact fma_unit _ a b c d
      · rw [if_neg e]
        by_cases l : j < k
        · rw [if_pos l, if_pos (by omega)]
          exact fma_zero _ _ a a' b' c' d'
        · rw [if_neg l, if_neg (by omega)]
          exact fma_zero _ _ a (by decide) (by decide) (by decide) (by decide)
  rw [key n (Nat.le_refl _), if_pos hj]
end Go.Proofs.Ytmipefapjehkaaa
