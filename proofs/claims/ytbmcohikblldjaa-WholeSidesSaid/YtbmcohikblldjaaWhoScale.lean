/- Mild numbers scaled, a little and far too much (no program here). -/
import Derived.Test.YtbmcohikblldjaaWhoLaw
namespace Go.Proofs.Ytbmcohikblldjaa
open Go.RowKit
set_option linter.unusedVariables false
set_option linter.unusedSimpArgs false

theorem mild_parts (f k : Int) (h0 : 0 ≤ k) : milI f k = 0 ∨ ∃ (s : Bool) (X F : Int), milI f k = zerI f s + X * hid f + F ∧ 0 ≤ F ∧ F < hid f ∧ bia f - 2 ≤ X ∧ X ≤ bia f + 1 := by
  by_cases c7 : k % 7 = 0
  · exact .inl (by unfold milI; rw [if_pos c7])
  · right
    have hz : ∀ g, zerI g true = sgb g ∧ zerI g false = 0 := fun g => ⟨rfl, rfl⟩
    refine ⟨decide (k % 2 = 1), milA f k / hid f, milA f k % hid f, ?_, ?_⟩
    · have := Int.mul_ediv_add_emod (milA f k) (hid f)
      rw [Int.mul_comm] at this
      unfold milI; rw [if_neg c7]
      by_cases c2 : k % 2 = 1
      · rw [if_pos c2, decide_eq_true c2, (hz f).1]; omega
      · rw [if_neg c2, decide_eq_false c2, (hz f).2]; omega
    · unfold milA
      rcases fmt_cases f with ⟨rfl, hf⟩ | ⟨rfl, hf⟩ | ⟨⟨c0, c1⟩, hf⟩ <;> obtain ⟨e1, e2, e3, e4, e5, e6, e7, e8, e9⟩ := hf
      all_goals
        rw [e9, e3]
        refine ⟨by omega, by omega, by omega, by omega⟩

/-- Far too great. -/
theorem far_up (f : Int) (s : Bool) (M E : Nat) (hM : 0 < M) (hE : 13000 ≤ E) : PackE f 0 s (M * 2 ^ E) = .returned (.tuple #[.int .u32 (infI f s), .agg #[.bool false, .bool false, .bool true, .bool false, .bool true]]) := by
  have hfn := fn_bd f
  have hlst := lst_bd f
  have hlu := lu_is f
  have hh := hid_fn f
  have ht : topx f ≤ 255 := by unfold topx; (repeat' split) <;> decide
  have hg := gre_is f
  have hV : M * 2 ^ E ≠ 0 := Nat.ne_of_gt (Nat.mul_pos hM (np2 E))
  have hl : E ≤ (M * 2 ^ E).log2 := by
    rw [Nat.le_log2 hV]
    exact Nat.le_mul_of_pos_left _ hM
  have hd : 2000 ≤ dN f (M * 2 ^ E) := by unfold dN; omega
  have hp : (greN f : Int) < (plcN f 0 s (M * 2 ^ E) : Int) := by
    unfold plcN
    have h1 : 2000 * 2 ^ fn f ≤ dN f (M * 2 ^ E) * 2 ^ fn f := Nat.mul_le_mul_right _ hd
    have h2 : topx f * hid f ≤ 255 * hid f := Int.mul_le_mul_of_nonneg_right ht (Int.le_of_lt (hid_pos f))
    have h3 := hid_pos f
    generalize dN f (M * 2 ^ E) * 2 ^ fn f = D at *
    generalize keptN f (M * 2 ^ E) = K
    generalize (growB 0 s K (catN f (M * 2 ^ E))).toNat = G
    omega
  obtain ⟨a, b, c, d⟩ := pack_over f 0 s (M * 2 ^ E) _ rfl hp
  have hb : beyI f 0 s = infI f s := by unfold beyI inB; rw [if_neg (by simp)]
  unfold PackE
  rw [← a, ← b, ← c, ← d, hb]

/-- Far too small. -/
theorem far_down (f : Int) (s : Bool) (M E : Nat) (hM : 0 < M) (hM2 : M < 16777216) (hE : E ≤ 9000) : PackE f 0 s (M * 2 ^ E) = .returned (.tuple #[.int .u32 (zerI f s), .agg #[.bool false, .bool false, .bool false, .bool true, .bool true]]) := by
  have hfn := fn_bd f
  have hlst := lst_bd f
  have hlu := lu_is f
  have hV0 : 0 < M * 2 ^ E := Nat.mul_pos hM (np2 E)
  obtain ⟨L, hL⟩ : ∃ L, luN f = L + 1 := ⟨luN f - 1, by omega⟩
  have hV : M * 2 ^ E < 2 ^ L := by
    have h1 : M * 2 ^ E < 2 ^ 24 * 2 ^ E := Nat.mul_lt_mul_of_pos_right (by omega) (np2 E)
    have h2 : 2 ^ 24 * 2 ^ E ≤ 2 ^ L := by rw [← Nat.pow_add]; exact Nat.pow_le_pow_right (by decide) (by omega)
    omega
  have hL2 : 2 ^ luN f = 2 * 2 ^ L := by rw [hL, Nat.pow_succ, Nat.mul_comm]
  have hlow : M * 2 ^ E < 2 ^ (fn f + luN f) := by
    have : 2 ^ luN f ≤ 2 ^ (fn f + luN f) := Nat.pow_le_pow_right (by decide) (by omega)
    omega
  obtain ⟨e1, _⟩ := low_plc f 0 s (M * 2 ^ E) hlow
  have e3 : keptN f (M * 2 ^ E) = 0 := by unfold keptN; rw [e1, Nat.add_zero]; exact Nat.div_eq_of_lt (by omega)
  have e4 : catN f (M * 2 ^ E) = 1 := by
    unfold catN catU
    rw [e1, Nat.add_zero, Nat.mod_eq_of_lt (by omega), if_neg (by omega), if_pos (by omega)]
  have hp : plcN f 0 s (M * 2 ^ E) = 0 := by unfold plcN; rw [e1, e3, e4]; simp [growB]
  have hg : 0 ≤ greN f := Nat.zero_le _
  unfold PackE rdV magN rdO rdU rdX rdO
  rw [hp, e4, if_pos hg]
  simp [hlow]

/-- All that WholeScales asks of a mild number that isn't nought. -/
theorem scales_all (f k i j : Int) (h0 : 0 ≤ k) (i0 : 0 ≤ i) (i1 : i ≤ 4) (j0 : 0 ≤ j) (j1 : j ≤ 4) (hx : milI f k ≠ 0) :
    ∃ z1 z2 : Int, 0 ≤ z1 ∧ z1 ≤ 4294967295 ∧ scaE f 0 (milI f k) i = inxE z1 false ∧ scaE f 0 z1 j = inxE z2 false ∧ scaE f 0 (milI f k) (i + j) = inxE z2 false
      ∧ scaE f 0 (milI f k) 4000 = .returned (.tuple #[.int .u32 (infI f (fS f (milI f k))), .agg #[.bool false, .bool false, .bool true, .bool false, .bool true]])
      ∧ scaE f 0 (milI f k) (-4000) = .returned (.tuple #[.int .u32 (zerI f (fS f (milI f k))), .agg #[.bool false, .bool false, .bool false, .bool true, .bool true]]) := by
  rcases mild_parts f k h0 with g | ⟨s, X, F, hz, F0, F1, X0, X1⟩
  · exact absurd g hx
  generalize milI f k = x at *
  have hb : 15 ≤ bia f ∧ lst f + fn f ≤ lst f + bia f - 3 ∧ bia f + 10 ≤ topx f := by
    rcases fmt_cases f with ⟨rfl, hf⟩ | ⟨rfl, hf⟩ | ⟨⟨c0, c1⟩, hf⟩ <;> obtain ⟨e1, e2, e3, e4, e5, e6, e7, e8, e9⟩ := hf <;> rw [e2, e4, e6, e9] <;> decide
  have hlst := lst_bd f
  have hh := hid_fn f
  obtain ⟨p1, p2, p3, p4, p5, p6, p7⟩ := parts_make f s X F x (by omega) (by omega) F0 F1 hz
  obtain ⟨r1, r2, r3, r4, r5⟩ := norm_parts f x X F p1 p2 (by omega) (by omega)
  obtain ⟨m0, m1⟩ := unM_bd f x
  obtain ⟨u0, u1⟩ := unE_bd f x
  have hself := numis_self f x p4 p5 p6 p7 r1
  rw [p3] at hself ⊢
  obtain ⟨q, hq⟩ : ∃ q, (unM f x).toNat = q := ⟨_, rfl⟩
  rw [hq] at hself
  have q0 : 0 < q := by have := hid_pos f; omega
  have q1 : q < 2 ^ (fn f + 1) := by rw [Nat.pow_succ]; omega
  obtain ⟨z1, h1⟩ := numis_exists f s q (unE f x + i) q0 q1 (by omega) (by omega)
  obtain ⟨z2, h2⟩ := numis_exists f s q (unE f x + i + j) q0 q1 (by omega) (by omega)
  refine ⟨z1, z2, h1.lo, h1.top, sca_exact f 0 i x z1 s q (unE f x) hself h1 (by omega) (by omega) (by omega) (by omega) (by omega),
    sca_exact f 0 j z1 z2 s q (unE f x + i) h1 h2 (by omega) (by omega) (by omega) (by omega) (by omega),
    sca_exact f 0 (i + j) x z2 s q (unE f x) hself (by rw [← Int.add_assoc]; exact h2) (by omega) (by omega) (by omega) (by omega) (by omega), ?_, ?_⟩
  · have hl : limI 4000 = 4000 := by decide
    unfold scaE
    rw [if_neg (by rw [r1]; decide), if_neg (by rw [p7]; decide), hl, p3]
    have hv : valN (clampE (unE f x + 4000)) (unM f x) false = q * 2 ^ (unE f x + 4000 + 10100).toNat := by
      rw [clamp_in _ (by omega) (by omega)]; unfold valN; rw [hq]; simp
    rw [hv]
    exact far_up f s q _ q0 (by omega)
  · have hl : limI (-4000) = -4000 := by decide
    unfold scaE
    rw [if_neg (by rw [r1]; decide), if_neg (by rw [p7]; decide), hl, p3]
    have hv : valN (clampE (unE f x + -4000)) (unM f x) false = q * 2 ^ (unE f x + -4000 + 10100).toNat := by
      rw [clamp_in _ (by omega) (by omega)]; unfold valN; rw [hq]; simp
    rw [hv]
    exact far_down f s q _ q0 (by omega) (by omega)
end Go.Proofs.Ytbmcohikblldjaa
