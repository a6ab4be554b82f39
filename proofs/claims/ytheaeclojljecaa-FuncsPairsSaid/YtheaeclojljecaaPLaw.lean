/- What the laws of layer 5 lean on: ones, noughts, shapes (no program here). -/
import Derived.Test.YtheaeclojljecaaFuMath
import Derived.Test.YtheaeclojljecaaSterb
namespace Go.Proofs.Ytheaeclojljecaa
open Go.RowKit
set_option linter.unusedVariables false
set_option linter.unusedSimpArgs false

theorem msk_le (f : Int) : msk f ≤ 4294967295 := by unfold msk; (repeat' split) <;> decide

theorem word_bd (f mode : Int) (neg : Bool) (V : Nat) : 0 ≤ rdV f mode neg V ∧ rdV f mode neg V ≤ 4294967295 := by
  have h := rdV_bd f mode neg V
  have := msk_le f
  omega

theorem nan_bd (f : Int) : 0 ≤ nanI f ∧ nanI f ≤ 4294967295 := by
  rcases fmt_cases f with ⟨rfl, hf⟩ | ⟨rfl, hf⟩ | ⟨⟨c0, c1⟩, hf⟩ <;> obtain ⟨e1, e2, e3, e4, e5, e6, e7, e8, e9⟩ := hf
  all_goals
    unfold nanI infI
    rw [show ∀ g, zerI g false = 0 from fun _ => rfl, e3, e4, e7]
    decide

/-- Whatever the answer is, it is a number of 32 bits and five flags. -/
def ShapeE (e : Ending) : Prop := ∃ (v : Int) (b1 b2 b3 b4 b5 : Bool), e = .returned (.tuple #[.int .u32 v, .agg #[.bool b1, .bool b2, .bool b3, .bool b4, .bool b5]]) ∧ 0 ≤ v ∧ v ≤ 4294967295

theorem shape_pack (f mode : Int) (n : Bool) (V : Nat) : ShapeE (PackE f mode n V) := ⟨_, _, _, _, _, _, rfl, (word_bd f mode n V).1, (word_bd f mode n V).2⟩

theorem shape_exc (v : Int) (i : Bool) (h : 0 ≤ v ∧ v ≤ 4294967295) : ShapeE (excE v i) := ⟨_, _, _, _, _, _, rfl, h.1, h.2⟩

theorem mul_shape (f mode a b : Int) : ShapeE (mulE f mode a b) := by
  unfold mulE
  split
  · exact shape_exc _ _ (nan_bd f)
  · split
    · exact shape_exc _ _ (nan_bd f)
    · split
      · exact shape_exc _ _ (inf_parts f _).2.2
      · exact shape_pack _ _ _ _

theorem fin_shapeE (f mode : Int) (n : Bool) (V : Nat) (m : Bool) (W : Nat) : ShapeE (finE f mode n V m W) := by
  unfold finE totE
  split
  · exact shape_exc _ _ (zer_parts f _).2.2.2
  · split
    · exact shape_exc _ _ (zer_parts f _).2.2.2
    · exact shape_pack _ _ _ _

theorem fma_shape (f mode a b c : Int) : ShapeE (fmaE f mode a b c) := by
  unfold fmaE
  split
  · exact shape_exc _ _ (nan_bd f)
  · split
    · split
      · exact shape_exc _ _ (nan_bd f)
      · exact shape_exc _ _ (inf_parts f _).2.2
    · split
      · exact shape_exc _ _ (inf_parts f _).2.2
      · exact fin_shapeE _ _ _ _ _ _

/-! One. -/
def oneI (f : Int) : Int := bia f * hid f

theorem one_parts (f : Int) : fX f (oneI f) = bia f ∧ fF f (oneI f) = 0 ∧ fS f (oneI f) = false ∧ 0 ≤ oneI f ∧ oneI f ≤ msk f ∧ oneI f ≤ 4294967295 ∧ finI f (oneI f) = true ∧ nanB f (oneI f) = false ∧ sigB f (oneI f) = false ∧ infB f (oneI f) = false ∧ nouB f (oneI f) = false ∧ unE f (oneI f) = -(fn f : Int) ∧ unM f (oneI f) = hid f := by
  obtain ⟨l1, l2, l3⟩ := lim_fmt f
  have hb := bia_lst f
  have hh := hid_pos f
  obtain ⟨p1, p2, p3, p4, p5, p6, p7⟩ := parts_make f false (bia f) 0 (oneI f) (by omega) (by omega) (by omega) hh (by rw [show zerI f false = 0 from rfl]; unfold oneI; omega)
  obtain ⟨r1, r2, r3, r4, r5⟩ := norm_parts f (oneI f) (bia f) 0 p1 p2 (by omega) (by omega)
  have hc : clsI f (oneI f) = 2 := by unfold clsI; rw [p1, if_neg (by omega), if_pos (by omega)]
  exact ⟨p1, p2, p3, p4, p5, p6, p7, r1, by unfold sigB; rw [hc]; rfl, r2, r3, by rw [r4]; omega, by rw [r5]; omega⟩

theorem one_pack (f mode : Int) : PackE f mode false (valN (clampE 0) 1 false) = excE (oneI f) false := by
  obtain ⟨p1, p2, p3, p4, p5, p6, p7, r1, r2, r3, r4, r5, r6⟩ := one_parts f
  have hp := num_pack f mode (oneI f) p4 p5 p7
  have hfn := fn_bd f
  have hh := hid_fn f
  rw [p3] at hp
  have e : valN (clampE 0) 1 false = numN f (oneI f) := by
    unfold valN numN
    rw [clamp_in _ (by omega) (by omega), r5, r6, hh, Int.toNat_natCast]
    have q : ∀ E : Nat, E = fn f + (-(fn f : Int) + 10100).toNat → (1 : Int).toNat * 2 ^ E + false.toNat = 2 ^ fn f * 2 ^ (-(fn f : Int) + 10100).toNat := by
      intro E hE
      rw [hE, Nat.pow_add, Bool.toNat_false, Nat.add_zero, show (1 : Int).toNat = 1 from rfl, Nat.one_mul]
    generalize hE : ((0 : Int) + 10100).toNat = E
    exact q E (by omega)
  rw [e, hp]; rfl

/-- One times a number has its amount. -/
theorem amt_one (f x : Int) : amtP f (oneI f) x = amtE (unE f x) (unM f x) := by
  obtain ⟨p1, p2, p3, p4, p5, p6, p7, r1, r2, r3, r4, r5, r6⟩ := one_parts f
  obtain ⟨m0, m1⟩ := unM_bd f x
  obtain ⟨e0, e1⟩ := unE_bd f x
  have hfn := fn_bd f
  have hh := hid_fn f
  obtain ⟨M, hM⟩ := Int.eq_ofNat_of_zero_le m0
  unfold amtP amtE
  rw [r5, r6, hM, hh, ← Int.natCast_mul, Int.toNat_natCast, Int.toNat_natCast, Nat.mul_comm (2 ^ fn f), Nat.mul_assoc, ← Nat.pow_add]
  rw [show fn f + (-(fn f : Int) + unE f x + 298).toNat = (unE f x + 298).toNat by omega]

theorem sgp_one (f x : Int) : sgP f (oneI f) x = fS f x := by
  obtain ⟨p1, p2, p3, _⟩ := one_parts f
  unfold sgP; rw [p3]; cases fS f x <;> rfl

/-- One times a number, and another: their sum. -/
theorem fma_one (f mode x y : Int) : fmaE f mode (oneI f) x y = addE f mode x y := by
  obtain ⟨p1, p2, p3, p4, p5, p6, p7, r1, r2, r3, r4, r5, r6⟩ := one_parts f
  have hb : badB f (oneI f) x = false := by unfold badB; rw [r3, r4]; rfl
  unfold fmaE addE
  rw [r1, r2, r3, hb, sgp_one, amt_one]
  simp only [Bool.false_or, Bool.or_false]
  by_cases h : (nanB f x || nanB f y) = true
  · rw [if_pos h, if_pos h]
  · rw [if_neg h, if_neg h]
    by_cases hx : infB f x = true
    · rw [if_pos hx, if_pos hx, hx]
      by_cases hy : infB f y = true
      · rw [hy]
        cases fS f x <;> cases fS f y <;> rfl
      · rw [(Bool.not_eq_true _).mp hy]
        simp
    · rw [if_neg hx, if_neg hx, (Bool.not_eq_true _).mp hx]
      simp

/-- The product of a number and one. -/
theorem mul_one (f mode x : Int) (h0 : 0 ≤ x) (h1 : x ≤ msk f) : (4 ≤ clsI f x → ∃ i, mulE f mode x (oneI f) = excE (nanI f) i) ∧ (clsI f x = 3 → mulE f mode x (oneI f) = excE x false) ∧ (clsI f x ≤ 2 → mulE f mode x (oneI f) = excE x false) := by
  obtain ⟨p1, p2, p3, p4, p5, p6, p7, r1, r2, r3, r4, r5, r6⟩ := one_parts f
  have hb : badB f x (oneI f) = false := by unfold badB; rw [r3, r4]; cases nouB f x <;> cases infB f x <;> rfl
  have hs : sgP f x (oneI f) = fS f x := by unfold sgP; rw [p3]; cases fS f x <;> rfl
  have ha : amtP f x (oneI f) = amtE (unE f x) (unM f x) := by rw [← amtP_turn, amt_one]
  have hp := parts_sum f x h0 h1
  have c := cls_cases f x
  unfold mulE
  rw [r1, r2, r3, hb, hs, ha]
  simp only [Bool.or_false, Bool.false_eq_true, if_false]
  refine ⟨fun h => ?_, fun h => ?_, fun h => ?_⟩
  · have hn : nanB f x = true := by unfold nanB; simp; omega
    rw [if_pos hn]; exact ⟨_, rfl⟩
  · have hn : nanB f x = false := by unfold nanB; rw [h]; rfl
    have hi : infB f x = true := by unfold infB; rw [h]; rfl
    rw [hn, if_neg (by decide), if_pos hi]
    have e : infI f (fS f x) = x := by unfold infI; rw [show fX f x = topx f by omega, show fF f x = 0 by omega, Int.add_zero] at hp; exact hp.symm
    rw [e]
  · have hn : nanB f x = false := by unfold nanB; simp; omega
    have hi : infB f x = false := by unfold infB; simp; omega
    rw [hn, hi, if_neg (by decide), if_neg (by decide)]
    exact pack_num f mode x _ _ h0 h1 (fin_of f x hn hi) rfl rfl

/-- The product of a number and nought. -/
theorem mul_nought (f mode x : Int) : (4 ≤ clsI f x → ∃ i, mulE f mode x 0 = excE (nanI f) i) ∧ (clsI f x = 3 → mulE f mode x 0 = excE (nanI f) true) ∧ (clsI f x ≤ 2 → mulE f mode x 0 = excE (zerI f (fS f x)) false) := by
  obtain ⟨x1, x2, x3, x4, x5⟩ := zer_parts f false
  rw [show zerI f false = 0 from rfl] at x1 x2 x3
  obtain ⟨m1, m2, m3, m4⟩ := nou_parts f 0 x1 x2
  have hc : clsI f 0 = 0 := by unfold clsI; rw [if_pos x1, if_pos x2]
  have m5 : nouB f 0 = true := by unfold nouB; rw [hc]; rfl
  have hs : sgP f x 0 = fS f x := by unfold sgP; rw [x3]; cases fS f x <;> rfl
  have hz : amtP f x 0 = 0 := (amtP_zero f x 0).2 (.inr (by have := m4; rw [amt_zero _ _ (unM_bd f 0).1] at this; exact this))
  have hb : badB f x 0 = infB f x := by unfold badB; rw [m3, m5]; cases nouB f x <;> cases infB f x <;> rfl
  have c := cls_cases f x
  unfold mulE
  rw [m1, m2, m3, hb, hs, hz]
  simp only [Bool.or_false]
  refine ⟨fun h => ?_, fun h => ?_, fun h => ?_⟩
  · have hn : nanB f x = true := by unfold nanB; simp; omega
    rw [if_pos hn]; exact ⟨_, rfl⟩
  · have hn : nanB f x = false := by unfold nanB; rw [h]; rfl
    have hi : infB f x = true := by unfold infB; rw [h]; rfl
    rw [hn, if_neg (by decide), if_pos hi]
  · have hn : nanB f x = false := by unfold nanB; simp; omega
    have hi : infB f x = false := by unfold infB; simp; omega
    rw [hn, hi, if_neg (by decide), if_neg (by decide), if_neg (by decide), (up_zero 0).2 rfl, pack_zero_is]

/-! Signs, bit by bit. -/
theorem and_sign (f x : Int) (h0 : 0 ≤ x) (h1 : x ≤ 4294967295) : bits .and .u32 x (zerI f true) = zerI f (fS f x) := by
  rw [show zerI f true = sgb f from rfl]
  unfold zerI fS
  rcases sgb_pow f with h | h <;> rw [h]
  · rw [and_bit32 x 15 h0 h1 (by decide) rfl]
    rcases Int.emod_two_eq (x / 2 ^ 15) with g | g <;> rw [g] <;> decide
  · rw [and_bit32 x 31 h0 h1 (by decide) rfl]
    rcases Int.emod_two_eq (x / 2 ^ 31) with g | g <;> rw [g] <;> decide

theorem xor_bit (X Y k : Nat) : (X ^^^ Y) / 2 ^ k % 2 = (X / 2 ^ k + Y / 2 ^ k) % 2 := by
  have e : (X ^^^ Y) / 2 ^ k = (X / 2 ^ k) ^^^ (Y / 2 ^ k) := by
    rw [← Nat.shiftRight_eq_div_pow, Nat.shiftRight_xor_distrib, Nat.shiftRight_eq_div_pow, Nat.shiftRight_eq_div_pow]
  rw [e]
  generalize X / 2 ^ k = p
  generalize Y / 2 ^ k = q
  have := Nat.xor_mod_two_pow (a := p) (b := q) (n := 1)
  simp only [Nat.pow_one] at this
  rw [this]
  rcases Nat.mod_two_eq_zero_or_one p with h | h <;> rcases Nat.mod_two_eq_zero_or_one q with g | g <;> rw [h, g] <;> simp <;> omega

theorem xor_word (x y : Int) (x0 : 0 ≤ x) (x1 : x ≤ 4294967295) (y0 : 0 ≤ y) (y1 : y ≤ 4294967295) : 0 ≤ bits .xor .u32 x y ∧ bits .xor .u32 x y ≤ 4294967295 :=
  ⟨(bounds_u32 (wf_bits .xor .u32 x y)).1, (bounds_u32 (wf_bits .xor .u32 x y)).2⟩

theorem xor_sign (f x y : Int) (x0 : 0 ≤ x) (x1 : x ≤ 4294967295) (y0 : 0 ≤ y) (y1 : y ≤ 4294967295) : fS f (bits .xor .u32 x y) = sgP f x y := by
  have key : ∀ k : Nat, (bits .xor .u32 x y / 2 ^ k % 2 == 1) = ((x / 2 ^ k % 2 == 1) != (y / 2 ^ k % 2 == 1)) := by
    intro k
    rw [u32_xor x y x0 (by omega) y0 (by omega)]
    obtain ⟨X, rfl⟩ := Int.eq_ofNat_of_zero_le x0
    obtain ⟨Y, rfl⟩ := Int.eq_ofNat_of_zero_le y0
    rw [Int.toNat_natCast, Int.toNat_natCast, pow2_cast]
    have := xor_bit X Y k
    have a : (((X ^^^ Y : Nat) : Int) / ((2 ^ k : Nat) : Int) % 2) = (((X ^^^ Y) / 2 ^ k % 2 : Nat) : Int) := by omega
    have b : ((X : Int) / ((2 ^ k : Nat) : Int) % 2) = ((X / 2 ^ k % 2 : Nat) : Int) := by omega
    have c : ((Y : Int) / ((2 ^ k : Nat) : Int) % 2) = ((Y / 2 ^ k % 2 : Nat) : Int) := by omega
    rw [a, b, c, this]
    rcases Nat.mod_two_eq_zero_or_one (X / 2 ^ k) with h | h <;> rcases Nat.mod_two_eq_zero_or_one (Y / 2 ^ k) with g | g <;> rw [Nat.add_mod, h, g] <;> decide
  unfold sgP fS
  rcases sgb_pow f with h | h <;> rw [h] <;> exact key _

/-- Does the product's sign show: the law's own question. -/
theorem sign_asked (f x y : Int) (x0 : 0 ≤ x) (x1 : x ≤ 4294967295) (y0 : 0 ≤ y) (y1 : y ≤ 4294967295) : (bits .and .u32 (bits .xor .u32 x y) (zerI f true) != 0) = sgP f x y := by
  obtain ⟨b0, b1⟩ := xor_word x y x0 x1 y0 y1
  rw [and_sign f _ b0 b1, xor_sign f x y x0 x1 y0 y1]
  unfold zerI
  rcases sgb_pow f with h | h <;> rw [h] <;> cases sgP f x y <;> decide
end Go.Proofs.Ytheaeclojljecaa
