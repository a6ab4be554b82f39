/- What the laws of layer 6 lean on: by one, by itself, by noughts and infinities (no program here). -/
import Derived.Test.YtheaeclojljecaaFuMath
import Derived.Test.YtheaeclojljecaaPLaw
namespace Go.Proofs.Ytheaeclojljecaa
open Go.RowKit
set_option linter.unusedVariables false
set_option linter.unusedSimpArgs false

theorem divZ_shape (v : Int) (h : 0 ≤ v ∧ v ≤ 4294967295) : ShapeE (divZ v) := ⟨_, _, _, _, _, _, rfl, h.1, h.2⟩

theorem div_shape (f mode a b : Int) : ShapeE (divE f mode a b) := by
  unfold divE quoE
  split
  · exact shape_exc _ _ (nan_bd f)
  · split
    · exact shape_exc _ _ (nan_bd f)
    · split
      · exact shape_exc _ _ (inf_parts f _).2.2
      · split
        · exact shape_exc _ _ (zer_parts f _).2.2.2
        · split
          · exact divZ_shape _ (inf_parts f _).2.2
          · exact shape_pack _ _ _ _

theorem sqr_shape (f mode a : Int) : ShapeE (sqrE f mode a) := by
  unfold sqrE rooE
  split
  · exact shape_exc _ _ (nan_bd f)
  · split
    · exact shape_exc _ _ (zer_parts f _).2.2.2
    · split
      · exact shape_exc _ _ (nan_bd f)
      · split
        · exact shape_exc _ _ (inf_parts f _).2.2
        · exact shape_pack _ _ _ _

/-- A quotient that is whole behind its bits. -/
theorem quo_whole (f mode : Int) (s : Bool) (e : Int) (M N Q : Nat) (hN : 0 < N) (h : M * 2 ^ 100 = Q * N) : quoE f mode s e M N = PackE f mode s (Q * 2 ^ (e - 100 + 10100).toNat) := by
  have h1 : quoN M N 100 = Q := by unfold quoN; rw [h, Nat.mul_div_cancel _ hN]
  have h2 : quoB M N 100 = false := by unfold quoB; rw [h, Nat.mul_mod_left]; rfl
  unfold quoE
  rw [h1, h2, Bool.toNat_false, Nat.add_zero]

/-- A number of finite bits, that isn't nought, by one. -/
theorem div_one (f mode x : Int) (h0 : 0 ≤ x) (h1 : x ≤ msk f) (hn : nanB f x = false) (hi : infB f x = false) : divE f mode x (oneI f) = excE x false := by
  obtain ⟨p1, p2, p3, p4, p5, p6, p7, r1, r2, r3, r4, r5, r6⟩ := one_parts f
  have hs : sgP f x (oneI f) = fS f x := by unfold sgP; rw [p3]; cases fS f x <;> rfl
  have hf := fin_of f x hn hi
  unfold divE
  rw [r1, r3, r4, hn, hi, hs]
  simp only [Bool.or_false, Bool.and_false, Bool.false_or, Bool.false_eq_true, if_false]
  by_cases z : nouB f x = true
  · rw [if_pos z]
    have hm := mask_nou f x h0 (by have := msk_le f; omega) z
    have hp := parts_sum f x h0 h1
    have c := cls_cases f x
    have ht := topx_pos f
    have hc : clsI f x = 0 := by unfold nouB at z; simpa using z
    rw [show fX f x = 0 by omega, show fF f x = 0 by omega, Int.zero_mul, Int.add_zero, Int.add_zero] at hp
    rw [← hp]
  · rw [if_neg z]
    obtain ⟨m0, m1⟩ := unM_bd f x
    obtain ⟨e0, e1⟩ := unE_bd f x
    have hfn := fn_bd f
    have hh := hid_fn f
    obtain ⟨M, hM⟩ := Int.eq_ofNat_of_zero_le m0
    rw [r5, r6, hM, hh, Int.toNat_natCast, Int.toNat_natCast]
    have hw : M * 2 ^ 100 = M * 2 ^ (100 - fn f) * 2 ^ fn f := by rw [Nat.mul_assoc, ← Nat.pow_add]; congr 2; omega
    rw [quo_whole f mode (fS f x) _ M _ _ (np2 _) hw]
    have hp := num_pack f mode x h0 h1 hf
    have e : M * 2 ^ (100 - fn f) * 2 ^ (unE f x - -(fn f : Int) - 100 + 10100).toNat = numN f x := by
      unfold numN
      rw [hM, Int.toNat_natCast, Nat.mul_assoc, ← Nat.pow_add, show 100 - fn f + (unE f x - -(fn f : Int) - 100 + 10100).toNat = (unE f x + 10100).toNat by omega]
    rw [e, hp]; rfl

/-- By itself. -/
theorem div_self_is (f mode x : Int) (hn : nanB f x = false) (hi : infB f x = false) (hz : nouB f x = false) : divE f mode x x = excE (oneI f) false := by
  have hs : sgP f x x = false := by unfold sgP; cases fS f x <;> rfl
  have hf := fin_of f x hn hi
  have hno := nou_is f x hf
  rw [amt_zero _ _ (unM_bd f x).1, hz] at hno
  obtain ⟨m0, m1⟩ := unM_bd f x
  have hpos : 0 < (unM f x).toNat := by
    have : unM f x ≠ 0 := fun g => absurd (hno.2 g) (by decide)
    omega
  unfold divE
  rw [hn, hi, hz, hs]
  simp only [Bool.or_false, Bool.and_false, Bool.false_eq_true, if_false]
  rw [quo_whole f mode false _ _ _ (2 ^ 100) hpos (Nat.mul_comm _ _)]
  have h1 := one_pack f mode
  have q : ∀ a b c : Nat, a + b = c → 2 ^ a * 2 ^ b = (1 : Int).toNat * 2 ^ c + false.toNat := fun a b c h => by
    rw [← h, Nat.pow_add, Bool.toNat_false, Nat.add_zero, show (1 : Int).toNat = 1 from rfl, Nat.one_mul]
  have e : 2 ^ 100 * 2 ^ (unE f x - unE f x - 100 + 10100).toNat = valN (clampE 0) 1 false := by
    unfold valN
    generalize hA : (unE f x - unE f x - 100 + 10100).toNat = A
    generalize hB : (clampE 0 + 10100).toNat = B
    rw [clamp_in _ (by omega) (by omega)] at hB
    exact q 100 A B (by omega)
  rw [e, h1]

/-- By a nought, by an infinity. -/
theorem div_zer (f mode x : Int) (s : Bool) (hn : nanB f x = false) (hi : infB f x = false) : divE f mode x (zerI f s) = if nouB f x = true then excE (nanI f) true else divZ (infI f (fS f x != s)) := by
  obtain ⟨z1, z2, z3, z4, z5⟩ := zer_parts f s
  obtain ⟨m1, m2, m3, m4⟩ := nou_parts f _ z1 z2
  have hc : clsI f (zerI f s) = 0 := by unfold clsI; rw [if_pos z1, if_pos z2]
  have m5 : nouB f (zerI f s) = true := by unfold nouB; rw [hc]; rfl
  unfold divE sgP
  rw [m1, m3, m5, z3, hn, hi]
  simp only [Bool.or_false, Bool.and_false, Bool.and_true, Bool.false_or, Bool.false_eq_true, if_false, if_true]
  split <;> rfl

theorem div_inf (f mode x : Int) (s : Bool) (hn : nanB f x = false) (hi : infB f x = false) : divE f mode x (infI f s) = excE (zerI f (fS f x != s)) false := by
  obtain ⟨i1, i2, i3, i4⟩ := inf_parts f s
  have m1 : nanB f (infI f s) = false := by unfold nanB; rw [i1]; rfl
  have m2 : sigB f (infI f s) = false := by unfold sigB; rw [i1]; rfl
  have m3 : infB f (infI f s) = true := by unfold infB; rw [i1]; rfl
  have m4 : nouB f (infI f s) = false := by unfold nouB; rw [i1]; rfl
  unfold divE sgP
  rw [m1, m3, m4, i2, hn, hi]
  simp
end Go.Proofs.Ytheaeclojljecaa
