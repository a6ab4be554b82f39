/- Laws of whole numbers (no program here). -/
import Derived.Test.YtbmcohikblldjaaWhoMath
import Derived.Test.YtbmcohikblldjaaSterb
namespace Go.Proofs.Ytbmcohikblldjaa
open Go.RowKit
set_option linter.unusedVariables false
set_option linter.unusedSimpArgs false

/-- z is q times 2 to e, with the sign s. -/
structure NumIs (f : Int) (s : Bool) (q : Nat) (e z : Int) : Prop where
  lo : 0 ≤ z
  hi : z ≤ msk f
  top : z ≤ 4294967295
  fin : finI f z = true
  sgn : fS f z = s
  nan : nanB f z = false
  amt : amtE (unE f z) (unM f z) = q * 2 ^ (e + 298).toNat

theorem numis_exists (f : Int) (s : Bool) (q : Nat) (e : Int) (hq : 0 < q) (hq2 : q < 2 ^ (fn f + 1)) (he : lst f + fn f ≤ e) (he2 : e ≤ lst f + topx f - 2) : ∃ z, NumIs f s q e z := by
  obtain ⟨z, a, b, c, d, g, h, i, j⟩ := num_exists f s q e hq hq2 he he2
  exact ⟨z, a, b, c, d, g, h, j⟩

theorem numis_self (f z : Int) (lo : 0 ≤ z) (hi : z ≤ msk f) (top : z ≤ 4294967295) (fin : finI f z = true) (nan : nanB f z = false) : NumIs f (fS f z) (unM f z).toNat (unE f z) z :=
  ⟨lo, hi, top, fin, rfl, nan, rfl⟩

theorem numis_nou (f e : Int) (s : Bool) : NumIs f s 0 e (zerI f s) := by
  obtain ⟨z1, z2, z3, z4, z5⟩ := zer_parts f s
  have ht := topx_pos f
  have hx : unM f (zerI f s) = 0 := by unfold unM; rw [z1, z2, if_neg (by omega), if_pos rfl]
  have hc : clsI f (zerI f s) = 0 := by unfold clsI; rw [z1, z2, if_pos rfl, if_pos rfl]
  refine ⟨z4, ?_, z5, ?_, z3, by unfold nanB; rw [hc]; rfl, ?_⟩
  · unfold zerI sgb msk; cases s <;> (repeat' split) <;> simp_all
  · unfold finI; rw [z1]; exact decide_eq_true (by omega)
  · unfold amtE; rw [hx]; simp

/-- What is handed to Pack of a number that is moved is the moved number's own. -/
theorem moved_val (f n z z' : Int) (s : Bool) (q : Nat) (e : Int) (h : NumIs f s q e z) (h' : NumIs f s q (e + n) z') (n0 : -298 ≤ n) (n1 : n ≤ 298) (e0 : -298 ≤ e) (e1 : e ≤ 500) (e2 : -298 ≤ e + n) :
    valN (clampE (unE f z + n)) (unM f z) false = numN f z' := by
  obtain ⟨u0, u1⟩ := unE_bd f z
  have ha := h.amt
  have hb := h'.amt
  rw [← up_num, hb, clamp_in _ (by omega) (by omega)]
  unfold amtE at ha
  have key : ∀ T : Nat, T = 9802 → (unM f z).toNat * 2 ^ (unE f z + n + 10100).toNat = q * 2 ^ (e + n + 298).toNat * 2 ^ T := by
    intro T hT
    have g1 : (unE f z + n + 10100).toNat = (unE f z + 298).toNat + (n + T).toNat := by omega
    have g2 : (e + n + 298).toNat + T = (e + 298).toNat + (n + T).toNat := by omega
    rw [g1, Nat.pow_add, ← Nat.mul_assoc, ha, Nat.mul_assoc, ← Nat.pow_add, Nat.mul_assoc, ← Nat.pow_add, g2]
  unfold valN upN
  rw [Bool.toNat_false, Nat.add_zero]
  exact key 9802 rfl

theorem sca_exact (f mode n z z' : Int) (s : Bool) (q : Nat) (e : Int) (h : NumIs f s q e z) (h' : NumIs f s q (e + n) z') (n0 : -298 ≤ n) (n1 : n ≤ 298) (e0 : -298 ≤ e) (e1 : e ≤ 500) (e2 : -298 ≤ e + n) :
    scaE f mode z n = inxE z' false := by
  have hl : limI n = n := by unfold limI; rw [if_neg (by omega), if_neg (by omega)]
  unfold scaE
  rw [if_neg (by rw [h.nan]; decide), if_neg (by rw [h.fin]; decide), hl, moved_val f n z z' s q e h h' n0 n1 e0 e1 e2, h.sgn]
  have hp := num_pack f mode z' h'.lo h'.hi h'.fin
  rw [h'.sgn] at hp
  rw [hp]; rfl

theorem from_exact (f mode v z : Int) (q : Nat) (hq : (q : Int) = if v < 0 then -v else v) (h : NumIs f (decide (v < 0)) q 0 z) : fromE f mode v = inxE z false := by
  have hp := num_pack f mode z h.lo h.hi h.fin
  rw [h.sgn] at hp
  have hV : valN (clampE 0) (q : Int) false = numN f z := by
    rw [← up_num, h.amt, clamp_in _ (by omega) (by omega)]
    have key : ∀ T : Nat, T = 9802 → q * 2 ^ ((0 : Int) + 10100).toNat = q * 2 ^ ((0 : Int) + 298).toNat * 2 ^ T := by
      intro T hT
      rw [Nat.mul_assoc, ← Nat.pow_add, show ((0 : Int) + 298).toNat + T = ((0 : Int) + 10100).toNat by omega]
    unfold valN upN
    rw [Bool.toNat_false, Nat.add_zero, Int.toNat_natCast]
    exact key 9802 rfl
  unfold fromE
  by_cases c : v < 0
  · rw [if_pos c] at hq ⊢
    rw [← hq, hV]
    rw [decide_eq_true c] at hp
    rw [hp]; rfl
  · rw [if_neg c] at hq ⊢
    rw [← hq, hV]
    rw [decide_eq_false c] at hp
    rw [hp]; rfl

theorem grow_none (mode : Int) (s : Bool) (k : Nat) : growB mode s k 0 = false := by
  unfold growB; (repeat' split) <;> simp

/-- A number that is whole is its own amount. -/
theorem who_exact (f mode z : Int) (s : Bool) (q : Nat) (h : NumIs f s q 0 z) : whN f mode z = q ∧ whX f z = false := by
  have ha := h.amt
  obtain ⟨m0, m1⟩ := unM_bd f z
  obtain ⟨u0, u1⟩ := unE_bd f z
  unfold amtE at ha
  unfold whN whX
  generalize (unM f z).toNat = M at ha ⊢
  by_cases c : 0 ≤ unE f z
  · rw [if_pos c]
    refine ⟨?_, by simp; omega⟩
    obtain ⟨T, hT⟩ : ∃ T, T = 298 := ⟨_, rfl⟩
    rw [show (unE f z + 298).toNat = (unE f z).toNat + T by omega, show ((0 : Int) + 298).toNat = T by omega, Nat.pow_add, ← Nat.mul_assoc] at ha
    exact Nat.eq_of_mul_eq_mul_right (np2 T) ha
  · rw [if_neg c]
    obtain ⟨k, hk⟩ : ∃ k : Nat, k = (-unE f z).toNat := ⟨_, rfl⟩
    obtain ⟨T, hT⟩ : ∃ T : Nat, T = (unE f z + 298).toNat := ⟨_, rfl⟩
    rw [← hk]
    rw [← hT, show ((0 : Int) + 298).toNat = k + T by omega, Nat.pow_add, ← Nat.mul_assoc] at ha
    have hM := Nat.eq_of_mul_eq_mul_right (np2 T) ha
    have hc : catU k M = 0 := by unfold catU; rw [hM, Nat.mul_mod_left, if_pos rfl]
    rw [hc, hM, Nat.mul_div_cancel _ (np2 k), grow_none]
    exact ⟨by simp, by simp⟩

theorem int_of_num (f mode z : Int) (s : Bool) (q : Nat) (h : NumIs f s q 0 z) (hq : q < 2147483648) :
    toE f mode z = .returned (.tuple #[.int .i32 (if s then -(q : Int) else q), .agg #[.bool false, .bool false, .bool false, .bool false, .bool false]]) := by
  obtain ⟨a, b⟩ := who_exact f mode z s q h
  unfold toE noInt
  rw [a, b, h.fin, h.sgn, if_neg (by simp; omega)]

theorem low_word (f x : Int) (h0 : 0 ≤ x) (h1 : x ≤ msk f) : bits .and .u32 x (msk f) = x := by
  rcases fmt_cases f with ⟨rfl, hf⟩ | ⟨rfl, hf⟩ | ⟨⟨c0, c1⟩, hf⟩ <;> obtain ⟨e1, e2, e3, e4, e5, e6, e7, e8, e9⟩ := hf <;> rw [e8] at h1 ⊢
  · rw [and32 x 16 (p := 65536) h0 (by omega) (by decide) (by decide) (by decide)]; omega
  · rw [and32 x 16 (p := 65536) h0 (by omega) (by decide) (by decide) (by decide)]; omega
  · rw [and32 x 32 (p := 4294967296) h0 (by omega) (by decide) (by decide) (by decide)]; omega

theorem whole_of_num (f mode z : Int) (s : Bool) (q : Nat) (h : NumIs f s q 0 z) : wholE f mode z = inxE z false := by
  obtain ⟨a, b⟩ := who_exact f mode z s q h
  unfold wholE
  rw [if_neg (by rw [h.nan]; decide), h.fin]
  by_cases c : 0 ≤ unE f z
  · rw [if_pos (by simp [c]), low_word f z h.lo h.hi]
  · rw [if_neg (by simp; omega), a, b]
    have hp := num_pack f mode z h.lo h.hi h.fin
    have hV : valN (clampE 0) (q : Int) false = numN f z := by
      rw [← up_num, h.amt, clamp_in _ (by omega) (by omega)]
      have key : ∀ T : Nat, T = 9802 → q * 2 ^ ((0 : Int) + 10100).toNat = q * 2 ^ ((0 : Int) + 298).toNat * 2 ^ T := by
        intro T hT
        rw [Nat.mul_assoc, ← Nat.pow_add, show ((0 : Int) + 298).toNat + T = ((0 : Int) + 10100).toNat by omega]
      unfold valN upN
      rw [Bool.toNat_false, Nat.add_zero, Int.toNat_natCast]
      exact key 9802 rfl
    rw [hV]
    unfold PackE at hp
    simp only [Ending.returned.injEq, Value.tuple.injEq, Array.mk.injEq, List.cons.injEq, Value.int.injEq, true_and] at hp
    rw [hp.1]

/-- Whole numbers that fit, there and back. -/
theorem back_all (f mode i : Int) (n : Int) (hi0 : -(2 ^ (fn f - 1) : Nat) ≤ i) (hi1 : i ≤ (2 ^ (fn f - 1) : Nat)) (n0 : 0 ≤ n) (n1 : n ≤ 3) :
    ∃ a d : Int, 0 ≤ a ∧ a ≤ 4294967295 ∧ 0 ≤ d ∧ d ≤ 4294967295 ∧ fromE f mode i = inxE a false ∧ wholE f mode a = inxE a false ∧ scaE f mode a n = inxE d false ∧ scaE f mode d (-n) = inxE a false
      ∧ toE f mode a = .returned (.tuple #[.int .i32 i, .agg #[.bool false, .bool false, .bool false, .bool false, .bool false]]) := by
  have hfn := fn_bd f
  have hlst := lst_bd f
  have hl : lst f + fn f ≤ 0 ∧ 3 ≤ lst f + topx f - 2 := by
    rcases fmt_cases f with ⟨rfl, hf⟩ | ⟨rfl, hf⟩ | ⟨⟨c0, c1⟩, hf⟩ <;> obtain ⟨e1, e2, e3, e4, e5, e6, e7, e8, e9⟩ := hf <;> rw [e2, e4, e6] <;> decide
  have hp : 2 ^ (fn f - 1) ≤ 2 ^ 22 := Nat.pow_le_pow_right (by decide) (by omega)
  have hp2 : 2 ^ (fn f - 1) < 2 ^ (fn f + 1) := Nat.pow_lt_pow_right (by decide) (by omega)
  have e22 : (2 : Nat) ^ 22 = 4194304 := by decide
  obtain ⟨q, hq⟩ : ∃ q : Nat, (q : Int) = if i < 0 then -i else i := ⟨(if i < 0 then -i else i).toNat, by split <;> omega⟩
  have hq2 : q ≤ 2 ^ (fn f - 1) := by split at hq <;> omega
  obtain ⟨a, d, ha, hd⟩ : ∃ a d, NumIs f (decide (i < 0)) q 0 a ∧ NumIs f (decide (i < 0)) q n d := by
    by_cases z : q = 0
    · exact ⟨_, _, by rw [z]; exact numis_nou f 0 _, by rw [z]; exact numis_nou f n _⟩
    · obtain ⟨a, ha⟩ := numis_exists f (decide (i < 0)) q 0 (by omega) (by omega) (by omega) (by omega)
      obtain ⟨d, hd⟩ := numis_exists f (decide (i < 0)) q n (by omega) (by omega) (by omega) (by omega)
      exact ⟨a, d, ha, hd⟩
  refine ⟨a, d, ha.lo, ha.top, hd.lo, hd.top, from_exact f mode i a q hq ha, whole_of_num f mode a _ q ha, ?_, ?_, ?_⟩
  · exact sca_exact f mode n a d _ q 0 ha (by rw [Int.zero_add]; exact hd) (by omega) (by omega) (by omega) (by omega) (by omega)
  · exact sca_exact f mode (-n) d a _ q n hd (by rw [Int.add_right_neg]; exact ha) (by omega) (by omega) (by omega) (by omega) (by omega)
  · rw [int_of_num f mode a _ q ha (by omega)]
    have : (if decide (i < 0) = true then -(q : Int) else (q : Int)) = i := by
      by_cases c : i < 0
      · rw [decide_eq_true c]; rw [if_pos c] at hq; simp; omega
      · rw [decide_eq_false c]; rw [if_neg c] at hq; simp; omega
    rw [this]
end Go.Proofs.Ytbmcohikblldjaa
