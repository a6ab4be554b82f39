/- All that QuotBack asks of two small whole numbers (no program here). -/
import Derived.Test.YtianheeefhemhaaRFrom
namespace Go.Proofs.Ytianheeefhemhaa
open Go.RowKit
set_option linter.unusedVariables false
set_option linter.unusedSimpArgs false

/-- X is what FromInt makes of v. -/
structure FromZ (f v X : Int) : Prop where
  neg : v < 0 → ∀ m, PackE f m true (valN (clampE 0) (-v) false) = excE X false
  pos : 0 ≤ v → ∀ m, PackE f m false (valN (clampE 0) v false) = excE X false

theorem cls_fin (f x : Int) (h : finI f x = true) : clsI f x ≤ 2 := by
  have c := cls_cases f x
  have := fin_lt f x h
  omega

theorem zer_cls (f : Int) (u : Bool) : clsI f (zerI f u) = 0 ∧ nanB f (zerI f u) = false ∧ infB f (zerI f u) = false ∧ nouB f (zerI f u) = true ∧ fS f (zerI f u) = u := by
  obtain ⟨x1, x2, x3, x4, x5⟩ := zer_parts f u
  have hc : clsI f (zerI f u) = 0 := by unfold clsI; rw [if_pos x1, if_pos x2]
  exact ⟨hc, by unfold nanB; rw [hc]; rfl, by unfold infB; rw [hc]; rfl, by unfold nouB; rw [hc]; rfl, x3⟩

/-- A number is nought, or a whole one that isn't. -/
theorem from_ways (f v : Int) (h0 : -14 ≤ v) (h1 : v ≤ 14) : (v = 0 ∧ FromZ f v 0) ∨ (v ≠ 0 ∧ ∃ (X e : Int) (M : Nat), FromZ f v X ∧ IsInt f (decide (v < 0)) v.natAbs X M e) := by
  by_cases c : v = 0
  · subst c
    exact .inl ⟨rfl, fun g => absurd g (by decide), fun _ m => from_zero f m⟩
  · obtain ⟨X, M, e, h⟩ := int_exists f (decide (v < 0)) v.natAbs (by omega) (by omega)
    refine .inr ⟨c, X, e, M, ⟨fun g m => ?_, fun g m => ?_⟩, h⟩
    · rw [decide_eq_true g] at h
      have := from_int f m true v.natAbs X e M h
      rw [show ((v.natAbs : Nat) : Int) = -v by omega] at this
      exact this
    · rw [decide_eq_false (by omega)] at h
      have := from_int f m false v.natAbs X e M h
      rw [show ((v.natAbs : Nat) : Int) = v by omega] at this
      exact this

theorem div_of_zer (f m y : Int) (u : Bool) (hn : nanB f y = false) (hi : infB f y = false) (hz : nouB f y = false) : divE f m (zerI f u) y = excE (zerI f (u != fS f y)) false := by
  obtain ⟨c1, c2, c3, c4, c5⟩ := zer_cls f u
  unfold divE sgP
  rw [c2, c3, c4, c5, hn, hi, hz]
  simp

/-- All that the law asks. -/
structure BackOf (f a b X Y P S R : Int) : Prop where
  fx : FromZ f a X
  fy : FromZ f b Y
  mul : ∀ m, mulE f m X Y = excE P false
  sq : mulE f 0 X X = excE S false
  root : ∀ m, sqrE f m S = excE R false
  abs : bits .andNot .u32 X (zerI f true) = R
  bz : b = 0 → ∀ m, divE f m P Y = excE (nanI f) true
  az : b ≠ 0 → a = 0 → ∃ u : Bool, ∀ m, divE f m P Y = excE (zerI f u) false
  nz : b ≠ 0 → a ≠ 0 → ∀ m, divE f m P Y = excE X false
  x0 : 0 ≤ X
  x1 : X ≤ 4294967295
  y0 : 0 ≤ Y
  y1 : Y ≤ 4294967295
  p0 : 0 ≤ P
  p1 : P ≤ 4294967295
  s0 : 0 ≤ S
  s1 : S ≤ 4294967295

theorem sq_zero (f : Int) : mulE f 0 0 0 = excE 0 false ∧ (∀ m, sqrE f m 0 = excE 0 false) ∧ bits .andNot .u32 0 (zerI f true) = 0 := by
  obtain ⟨c1, c2, c3, c4, c5⟩ := zer_cls f false
  rw [show zerI f false = 0 from rfl] at c1 c2 c3 c4 c5
  refine ⟨?_, fun m => ?_, ?_⟩
  · have h := (mul_nought f 0 0).2.2 (by omega)
    rw [c5] at h
    exact h
  · unfold sqrE
    rw [c2, c4, c5, if_neg (by decide), if_pos rfl]; rfl
  · unfold zerI
    rcases sgb_pow f with h | h <;> rw [h] <;> decide

theorem back_all (f a b : Int) (a0 : -14 ≤ a) (a1 : a ≤ 14) (b0 : -14 ≤ b) (b1 : b ≤ 14) : ∃ X Y P S R : Int, BackOf f a b X Y P S R := by
  obtain ⟨z1, z2, z3⟩ := sq_zero f
  rcases from_ways f a a0 a1 with ⟨ha, fa⟩ | ⟨ha, X, e, M, fa, hX⟩
  · -- the first is nought
    rcases from_ways f b b0 b1 with ⟨hb, fb⟩ | ⟨hb, Y, d, K, fb, hY⟩
    · obtain ⟨c1, c2, c3, c4, c5⟩ := zer_cls f false
      rw [show zerI f false = 0 from rfl] at c1 c2 c3 c4 c5
      refine ⟨0, 0, 0, 0, 0, fa, fb, fun m => ?_, z1, z2, z3, fun _ m => ?_, fun g => absurd hb g, fun g => absurd hb g, by omega, by omega, by omega, by omega, by omega, by omega, by omega, by omega⟩
      · have h := (mul_nought f m 0).2.2 (by omega)
        rw [c5] at h
        exact h
      · have h := div_zer f m 0 false c2 c3
        rw [c4, if_pos rfl] at h
        exact h
    · have hm : ∀ m, mulE f m 0 Y = excE (zerI f (fS f Y)) false := fun m => by
        rw [mul_turn]; exact (mul_nought f m Y).2.2 (cls_fin f Y hY.fin)
      obtain ⟨q1, q2, q3, q4, q5⟩ := zer_parts f (fS f Y)
      exact ⟨0, Y, zerI f (fS f Y), 0, 0, fa, fb, hm, z1, z2, z3, fun g => absurd g hb, fun _ _ => ⟨_, fun m => div_of_zer f m Y _ hY.nan hY.inf (int_nou f _ _ Y _ _ hY)⟩, fun _ g => absurd ha g, by omega, by omega, hY.lo, hY.top, q4, q5, by omega, by omega⟩
  · -- it isn't
    obtain ⟨S, c, Q, hS⟩ : ∃ (S c : Int) (Q : Nat), IsInt f false (a.natAbs * a.natAbs) S Q c := by
      have h1 : 0 < a.natAbs * a.natAbs := Nat.mul_pos (by omega) (by omega)
      have h2 : a.natAbs * a.natAbs ≤ 14 * 14 := Nat.mul_le_mul (by omega) (by omega)
      obtain ⟨S, Q, c, h⟩ := int_exists f false (a.natAbs * a.natAbs) h1 (by omega)
      exact ⟨S, c, Q, h⟩
    obtain ⟨hA, hR⟩ := int_abs f _ _ X e M hX
    have hsq : mulE f 0 X X = excE S false := int_mul f 0 _ _ _ _ X X S e e c M M Q hX hX (by rw [show (decide (a < 0) != decide (a < 0)) = false by cases decide (a < 0) <;> rfl]; exact hS)
    have hrt : ∀ m, sqrE f m S = excE (X % sgb f) false := fun m => int_root f m _ (X % sgb f) S e c M Q hA hS
    rcases from_ways f b b0 b1 with ⟨hb, fb⟩ | ⟨hb, Y, d, K, fb, hY⟩
    · obtain ⟨q1, q2, q3, q4, q5⟩ := zer_parts f (fS f X)
      obtain ⟨c1, c2, c3, c4, c5⟩ := zer_cls f (fS f X)
      refine ⟨X, 0, zerI f (fS f X), S, X % sgb f, fa, fb, fun m => (mul_nought f m X).2.2 (cls_fin f X hX.fin), hsq, hrt, hR, fun _ m => ?_, fun g => absurd hb g, fun g => absurd hb g, hX.lo, hX.top, by omega, by omega, q4, q5, hS.lo, hS.top⟩
      have h := div_zer f m (zerI f (fS f X)) false c2 c3
      rw [c4, if_pos rfl] at h
      exact h
    · obtain ⟨P, g, L, hP⟩ : ∃ (P g : Int) (L : Nat), IsInt f (decide (a < 0) != decide (b < 0)) (a.natAbs * b.natAbs) P L g := by
        have h1 : 0 < a.natAbs * b.natAbs := Nat.mul_pos (by omega) (by omega)
        have h2 : a.natAbs * b.natAbs ≤ 14 * 14 := Nat.mul_le_mul (by omega) (by omega)
        obtain ⟨P, L, g, h⟩ := int_exists f (decide (a < 0) != decide (b < 0)) (a.natAbs * b.natAbs) h1 (by omega)
        exact ⟨P, g, L, h⟩
      exact ⟨X, Y, P, S, X % sgb f, fa, fb, fun m => int_mul f m _ _ _ _ X Y P e d g M K L hX hY hP, hsq, hrt, hR, fun h => absurd h hb, fun _ h => absurd h ha, fun _ _ m => int_div f m _ _ _ _ X Y P e d g M K L hX hY hP, hX.lo, hX.top, hY.lo, hY.top, hP.lo, hP.top, hS.lo, hS.top⟩
end Go.Proofs.Ytianheeefhemhaa
