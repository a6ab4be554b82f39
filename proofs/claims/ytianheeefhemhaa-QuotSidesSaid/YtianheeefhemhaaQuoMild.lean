/- Mild numbers without their signs; what QuotSides asks of them (no program here). -/
import Derived.Test.YtianheeefhemhaaQuoSides
import Derived.Test.YtianheeefhemhaaRKey
namespace Go.Proofs.Ytianheeefhemhaa
open Go.RowKit
set_option linter.unusedVariables false
set_option linter.unusedSimpArgs false

/-- A mild number without its sign. -/
def milP (f k : Int) : Int := if k % 7 = 0 then 0 else milA f k

theorem mil_and (f k : Int) (h0 : 0 ≤ k) : bits .andNot .u32 (milI f k) (zerI f true) = milP f k := by
  obtain ⟨n0, n1⟩ := mil_bd f k h0
  have hn := no_sign f (milI f k) n0 n1
  have key : bits .and .u32 (milI f k) (msk f) = milI f k ∧ milI f k % sgb f = milP f k := by
    unfold milP milI milA at *
    rcases fmt_cases f with ⟨rfl, hf⟩ | ⟨rfl, hf⟩ | ⟨⟨c0, c1⟩, hf⟩ <;> obtain ⟨e1, e2, e3, e4, e5, e6, e7, e8, e9⟩ := hf
    all_goals
      rw [e9, e3, e5] at n0 n1
      rw [e8, e9, e3, e5]
      by_cases c7 : k % 7 = 0
      · simp only [if_pos c7]; exact ⟨by decide, by decide⟩
      · simp only [if_neg c7] at n0 n1 ⊢
        rcases Int.emod_two_eq k with c2 | c2
        · rw [if_neg (by omega)] at n0 n1 ⊢
          refine ⟨?_, by omega⟩
          first
            | (rw [and32 _ 16 (p := 65536) (by omega) (by omega) (by decide) (by decide) (by decide)]; omega)
            | (rw [and32 _ 32 (p := 4294967296) (by omega) (by omega) (by decide) (by decide) (by decide)]; omega)
        · rw [if_pos c2] at n0 n1 ⊢
          refine ⟨?_, by omega⟩
          first
            | (rw [and32 _ 16 (p := 65536) (by omega) (by omega) (by decide) (by decide) (by decide)]; omega)
            | (rw [and32 _ 32 (p := 4294967296) (by omega) (by omega) (by decide) (by decide) (by decide)]; omega)
  rw [key.1, key.2] at hn
  exact hn

theorem milP_norm (f k : Int) (h0 : 0 ≤ k) : milP f k = 0 ∨ ∃ X F : Int, milP f k = X * hid f + F ∧ 0 ≤ F ∧ F < hid f ∧ bia f - 2 ≤ X ∧ X ≤ bia f + 1 := by
  unfold milP
  by_cases c7 : k % 7 = 0
  · exact .inl (if_pos c7)
  · rw [if_neg c7]
    refine .inr ⟨milA f k / hid f, milA f k % hid f, ?_, ?_⟩
    · rw [Int.mul_comm]; exact (Int.mul_ediv_add_emod _ _).symm
    · unfold milA
      rcases fmt_cases f with ⟨rfl, hf⟩ | ⟨rfl, hf⟩ | ⟨⟨c0, c1⟩, hf⟩ <;> obtain ⟨e1, e2, e3, e4, e5, e6, e7, e8, e9⟩ := hf
      all_goals
        rw [e9, e3]
        refine ⟨by omega, by omega, by omega, by omega⟩

theorem zero_parts (f : Int) : fX f 0 = 0 ∧ fF f 0 = 0 ∧ fS f 0 = false ∧ finI f 0 = true ∧ unM f 0 = 0 := by
  obtain ⟨x1, x2, x3, x4, x5⟩ := zer_parts f false
  rw [show zerI f false = 0 from rfl] at x1 x2 x3
  have ht := topx_pos f
  refine ⟨x1, x2, x3, by unfold finI; rw [x1]; exact decide_eq_true ht, by unfold unM; rw [x1, x2, if_neg (by omega), if_pos rfl]⟩

/-- All that QuotSides asks of x. -/
def SidesOf (f x : Int) : Prop :=
    ∃ (lo hi p q : Int) (u1 u2 i p1 p2 p3 p4 p5 q1 q2 q3 q4 q5 : Bool),
      sqrE f 1 x = .returned (.tuple #[.int .u32 lo, .agg #[.bool false, .bool false, .bool false, .bool u1, .bool i]])
      ∧ sqrE f 2 x = .returned (.tuple #[.int .u32 hi, .agg #[.bool false, .bool false, .bool false, .bool u2, .bool i]])
      ∧ (0 ≤ lo ∧ lo ≤ 4294967295) ∧ (0 ≤ hi ∧ hi ≤ 4294967295)
      ∧ mulE f 1 lo lo = .returned (.tuple #[.int .u32 p, .agg #[.bool p1, .bool p2, .bool p3, .bool p4, .bool p5]])
      ∧ mulE f 2 hi hi = .returned (.tuple #[.int .u32 q, .agg #[.bool q1, .bool q2, .bool q3, .bool q4, .bool q5]])
      ∧ (0 ≤ p ∧ p ≤ 4294967295) ∧ (0 ≤ q ∧ q ≤ 4294967295)
      ∧ keyI f p ≤ keyI f x ∧ keyI f x ≤ keyI f q ∧ i = (lo != hi) ∧ (lo = hi ∨ hi = lo + 1)

theorem sides_zero (f : Int) : SidesOf f 0 := by
  obtain ⟨x1, x2, x3, x4, x5⟩ := zero_parts f
  have hc : clsI f 0 = 0 := by unfold clsI; rw [if_pos x1, if_pos x2]
  have hn : nanB f 0 = false := by unfold nanB; rw [hc]; rfl
  have hz : nouB f 0 = true := by unfold nouB; rw [hc]; rfl
  have hs : ∀ m, sqrE f m 0 = excE 0 false := by
    intro m
    unfold sqrE
    rw [hn, hz, x3, if_neg (by decide), if_pos rfl]; rfl
  have hm : ∀ m, mulE f m 0 0 = excE 0 false := by
    intro m
    have h := (mul_nought f m 0).2.2 (by omega)
    rw [x3] at h
    exact h
  exact ⟨0, 0, 0, 0, false, false, false, false, false, false, false, false, false, false, false, false, false, hs 1, hs 2, by omega, by omega, hm 1, hm 2, by omega, by omega, Int.le_refl _, Int.le_refl _, rfl, .inl rfl⟩

theorem sides_mild (f k : Int) (h0 : 0 ≤ k) : SidesOf f (milP f k) ∧ 0 ≤ milP f k ∧ milP f k ≤ 4294967295 := by
  obtain ⟨l1, l2, l3⟩ := lim_fmt f
  have hh := hid_pos f
  rcases milP_norm f k h0 with h | ⟨X, F, h, f0, f1, X0, X1⟩
  · rw [h]; exact ⟨sides_zero f, by omega, by omega⟩
  · obtain ⟨p1, p2, p3, p4, p5, p6, p7⟩ := parts_make f false X F (milP f k) (by omega) (by omega) f0 f1 (by rw [show zerI f false = 0 from rfl]; omega)
    exact ⟨sides_all f _ X F h f0 f1 X0 X1, p4, p6⟩
end Go.Proofs.Ytianheeefhemhaa
