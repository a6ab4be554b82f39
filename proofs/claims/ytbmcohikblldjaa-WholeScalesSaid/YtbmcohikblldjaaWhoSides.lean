/- On which side each mode makes a number whole (no program here). -/
import Derived.Test.YtbmcohikblldjaaWhoScale
namespace Go.Proofs.Ytbmcohikblldjaa
open Go.RowKit
set_option linter.unusedVariables false
set_option linter.unusedSimpArgs false

/-- A number made whole by a mode, with its sign. -/
def whV (f mode a : Int) : Int := if fS f a then -(whN f mode a : Int) else (whN f mode a : Int)

theorem to_small (f mode y : Int) (hf : finI f y = true) (he : unE f y < 0) :
    toE f mode y = .returned (.tuple #[.int .i32 (whV f mode y), .agg #[.bool false, .bool false, .bool false, .bool false, .bool (whX f y)]]) := by
  have h := whn_small f mode y he
  unfold toE noInt
  rw [hf, if_neg (by simp; omega)]
  rfl

theorem sides_five (f y : Int) (he : unE f y < 0) :
    (whX f y = false → whV f 3 y = whV f 2 y ∧ whV f 1 y = whV f 3 y ∧ whV f 0 y = whV f 3 y ∧ whV f 4 y = whV f 3 y) ∧
    (whX f y = true → whV f 2 y = whV f 3 y + 1 ∧ whV f 1 y = (if fS f y then whV f 2 y else whV f 3 y) ∧ (whV f 0 y = whV f 3 y ∨ whV f 0 y = whV f 2 y)
      ∧ (whV f 4 y = whV f 0 y ∨ (whV f 0 y % 2 = 0 ∧ (whV f 4 y = whV f 3 y ∨ whV f 4 y = whV f 2 y)))) := by
  have hc := cat_bd (-unE f y).toNat (unM f y).toNat
  unfold whX whV whN
  simp only [if_neg (show ¬ 0 ≤ unE f y by omega), show decide (unE f y < 0) = true by simpa using he, Bool.true_and]
  generalize catU (-unE f y).toNat (unM f y).toNat = c at *
  generalize (unM f y).toNat / 2 ^ (-unE f y).toNat = K
  unfold growB
  cases fS f y
  all_goals
    rcases (show c = 0 ∨ c = 1 ∨ c = 2 ∨ c = 3 by omega) with rfl | rfl | rfl | rfl
    all_goals
      rcases Nat.mod_two_eq_zero_or_one K with p | p
      all_goals
        simp [p]
        try omega

/-- What WholeSides asks of the number that it makes. -/
theorem sides_scaled (k n : Int) (h0 : 0 ≤ k) (n0 : 0 ≤ n) (n1 : n ≤ 11) :
    ∃ y : Int, 0 ≤ y ∧ y ≤ 4294967295 ∧ scaE 2 0 (milI 2 k) n = inxE y false ∧ finI 2 y = true ∧ unE 2 y < 0 := by
  rcases mild_parts 2 k h0 with g | ⟨s, X, F, hz, F0, F1, X0, X1⟩
  · rw [g]
    have h1 := numis_nou 2 0 false
    have h2 := numis_nou 2 (0 + n) false
    rw [show zerI 2 false = 0 from rfl] at h1 h2
    refine ⟨0, by omega, by omega, sca_exact 2 0 n 0 0 false 0 0 h1 h2 (by omega) (by omega) (by omega) (by omega) (by omega), h1.fin, by decide⟩
  · have e3 : hid 2 = 8388608 := rfl
    have e4 : topx 2 = 255 := rfl
    have e6 : lst 2 = -149 := rfl
    have e9 : bia 2 = 127 := rfl
    rw [e9] at X0 X1
    rw [e3] at hz F1
    generalize milI 2 k = x at *
    obtain ⟨p1, p2, p3, p4, p5, p6, p7⟩ := parts_make 2 s X F x (by omega) (by omega) F0 (by omega) (by rw [e3]; exact hz)
    obtain ⟨r1, r2, r3, r4, r5⟩ := norm_parts 2 x X F p1 p2 (by omega) (by omega)
    obtain ⟨y, hy⟩ : ∃ y, y = zerI 2 s + (X + n) * 8388608 + F := ⟨_, rfl⟩
    obtain ⟨q1, q2, q3, q4, q5, q6, q7⟩ := parts_make 2 s (X + n) F y (by omega) (by omega) F0 (by omega) (by rw [e3]; exact hy)
    obtain ⟨t1, t2, t3, t4, t5⟩ := norm_parts 2 y (X + n) F q1 q2 (by omega) (by omega)
    have hx := numis_self 2 x p4 p5 p6 p7 r1
    have hyy := numis_self 2 y q4 q5 q6 q7 t1
    rw [p3, r4, r5] at hx
    rw [q3, t4, t5] at hyy
    rw [show lst 2 + (X + n) - 1 = lst 2 + X - 1 + n by omega] at hyy
    refine ⟨y, q4, q6, sca_exact 2 0 n x y s _ _ hx hyy (by omega) (by omega) (by omega) (by omega) (by omega), q7, by rw [t4]; omega⟩

/-! Signs, bit by bit. -/
theorem w_and_sign (f x : Int) (h0 : 0 ≤ x) (h1 : x ≤ 4294967295) : bits .and .u32 x (zerI f true) = zerI f (fS f x) := by
  rw [show zerI f true = sgb f from rfl]
  unfold zerI fS
  rcases sgb_pow f with h | h <;> rw [h]
  · rw [and_bit32 x 15 h0 h1 (by decide) rfl]
    rcases Int.emod_two_eq (x / 2 ^ 15) with g | g <;> rw [g] <;> decide
  · rw [and_bit32 x 31 h0 h1 (by decide) rfl]
    rcases Int.emod_two_eq (x / 2 ^ 31) with g | g <;> rw [g] <;> decide

theorem w_or_inf (f : Int) (s : Bool) : bits .or .u32 (zerI f s) (infI f false) = infI f s := by
  rcases fmt_cases f with ⟨rfl, hf⟩ | ⟨rfl, hf⟩ | ⟨⟨c0, c1⟩, hf⟩ <;> obtain ⟨e1, e2, e3, e4, e5, e6, e7, e8, e9⟩ := hf
  all_goals
    unfold infI zerI
    rw [e3, e4, e5]
    cases s <;> decide

/-- Nought scaled. -/
theorem sca_nou (f mode n : Int) : scaE f mode 0 n = inxE 0 false := by
  obtain ⟨x1, x2, x3, x4, x5⟩ := zer_parts f false
  rw [show zerI f false = 0 from rfl] at x1 x2 x3
  have ht := topx_pos f
  have hc : clsI f 0 = 0 := by unfold clsI; rw [if_pos x1, if_pos x2]
  have hm : unM f 0 = 0 := by unfold unM; rw [x1, x2, if_neg (by omega), if_pos rfl]
  have hf : finI f 0 = true := by unfold finI; rw [x1]; exact decide_eq_true ht
  have hn : nanB f 0 = false := by unfold nanB; rw [hc]; rfl
  unfold scaE
  rw [if_neg (by rw [hn]; decide), if_neg (by rw [hf]; decide), x3, hm, show valN (clampE (unE f 0 + limI n)) 0 false = 0 by unfold valN; simp, pack_zero_is]
  rfl
end Go.Proofs.Ytbmcohikblldjaa
