/- What the laws of layer 5 lean on: ones, noughts, shapes (no program here). -/
import Derived.Test.YtheaeclojljecaaGreatFuMath
import Derived.Test.YtheaeclojljecaaGreatSterb
namespace Go.Proofs.YtheaeclojljecaaGreat
open Go.RowKit
set_option linter.unusedVariables false
set_option linter.unusedSimpArgs false

theorem msk_le (f : Int) : msk f ≤ 4294967295 := by unfold msk; (repeat' split) <;> decide

theorem word_bd (f mode : Int) (neg : Bool) (V : Nat) : 0 ≤ rdV f mode neg V ∧ rdV f mode neg V ≤ 4294967295 := by
  have h := rdV_bd f mode neg V
  have := msk_le f
  omega

theorem nan_bd (f : Int) : 0 ≤ nanI f ∧ nanI f ≤ 4294967295 := by
  rcases fmt_cases f with ⟨rfl, hf⟩ | ⟨rfl, hf⟩ | ⟨⟨c0, c1⟩, hf⟩ <;> obtain ⟨e1, e2, e3, e4, e5, e6, e7, e8, e9⟩ := hf
  all_goals
    unfold nanI infI
    rw [show ∀ g, zerI g false = 0 from fun _ => rfl, e3, e4, e7]
    decide

def ShapeE (e : Ending) : Prop := ∃ (v : Int) (b1 b2 b3 b4 b5 : Bool), e = .returned (.tuple #[.int .u32 v, .agg #[.bool b1, .bool b2, .bool b3, .bool b4, .bool b5]]) ∧ 0 ≤ v ∧ v ≤ 4294967295

theorem shape_pack (f mode : Int) (n : Bool) (V : Nat) : ShapeE (PackE f mode n V) := ⟨_, _, _, _, _, _, rfl, (word_bd f mode n V).1, (word_bd f mode n V).2⟩

theorem shape_exc (v : Int) (i : Bool) (h : 0 ≤ v ∧ v ≤ 4294967295) : ShapeE (excE v i) := ⟨_, _, _, _, _, _, rfl, h.1, h.2⟩

theorem mul_shape (f mode a b : Int) : ShapeE (mulE f mode a b) := by
  unfold mulE
  split
  · exact shape_exc _ _ (nan_bd f)
  · split
    · exact shape_exc _ _ (nan_bd f)
    · split
      · exact shape_exc _ _ (inf_parts f _).2.2
      · exact shape_pack _ _ _ _

theorem fin_shapeE (f mode : Int) (n : Bool) (V : Nat) (m : Bool) (W : Nat) : ShapeE (finE f mode n V m W) := by
  unfold finE totE
  split
  · exact shape_exc _ _ (zer_parts f _).2.2.2
  · split
    · exact shape_exc _ _ (zer_parts f _).2.2.2
    · exact shape_pack _ _ _ _

theorem fma_shape (f mode a b c : Int) : ShapeE (fmaE f mode a b c) := by
  unfold fmaE
  split
  · exact shape_exc _ _ (nan_bd f)
  · split
    · split
      · exact shape_exc _ _ (nan_bd f)
      · exact shape_exc _ _ (inf_parts f _).2.2
    · split
      · exact shape_exc _ _ (inf_parts f _).2.2
      · exact fin_shapeE _ _ _ _ _ _

/-! One. -/
def oneI (f : Int) : Int := bia f * hid f

theorem one_parts (f : Int) : fX f (oneI f) = bia f ∧ fF f (oneI f) = 0 ∧ fS f (oneI f) = false ∧ 0 ≤ oneI f ∧ oneI f ≤ msk f ∧ oneI f ≤ 4294967295 ∧ finI f (oneI f) = true ∧ nanB f (oneI f) = false ∧ sigB f (oneI f) = false ∧ infB f (oneI f) = false ∧ nouB f (oneI f) = false ∧ unE f (oneI f) = -(fn f : Int) ∧ unM f (oneI f) = hid f := by
  obtain ⟨l1, l2, l3⟩ := lim_fmt f
  have hb := bia_lst f
  have hh := hid_pos f
  obtain ⟨p1, p2, p3, p4, p5, p6, p7⟩ := parts_make f false (bia f) 0 (oneI f) (by omega) (by omega) (by omega) hh (by rw [show zerI f false = 0 from rfl]; unfold oneI; omega)
  obtain ⟨r1, r2, r3, r4, r5⟩ := norm_parts f (oneI f) (bia f) 0 p1 p2 (by omega) (by omega)
  have hc : clsI f (oneI f) = 2 := by unfold clsI; rw [p1, if_neg (by omega), if_pos (by omega)]
  exact ⟨p1, p2, p3, p4, p5, p6, p7, r1, by unfold sigB; rw [hc]; rfl, r2, r3, by rw [r4]; omega, by rw [r5]; omega⟩

theorem amt_one (f x : Int) : amtP f (oneI f) x = amtE (unE f x) (unM f x) := by
  obtain ⟨p1, p2, p3, p4, p5, p6, p7, r1, r2, r3, r4, r5, r6⟩ := one_parts f
  obtain ⟨m0, m1⟩ := unM_bd f x
  obtain ⟨e0, e1⟩ := unE_bd f x
  have hfn := fn_bd f
  have hh := hid_fn f
  obtain ⟨M, hM⟩ := Int.eq_ofNat_of_zero_le m0
  unfold amtP amtE
  rw [r5, r6, hM, hh, ← Int.natCast_mul, Int.toNat_natCast, Int.toNat_natCast, Nat.mul_comm (2 ^ fn f), Nat.mul_assoc, ← Nat.pow_add]
  rw [show fn f + (-(fn f : Int) + unE f x + 298).toNat = (unE f x + 298).toNat by omega]

theorem mul_one (f mode x : Int) (h0 : 0 ≤ x) (h1 : x ≤ msk f) : (4 ≤ clsI f x → ∃ i, mulE f mode x (oneI f) = excE (nanI f) i) ∧ (clsI f x = 3 → mulE f mode x (oneI f) = excE x false) ∧ (clsI f x ≤ 2 → mulE f mode x (oneI f) = excE x false) := by
  obtain ⟨p1, p2, p3, p4, p5, p6, p7, r1, r2, r3, r4, r5, r6⟩ := one_parts f
  have hb : badB f x (oneI f) = false := by unfold badB; rw [r3, r4]; cases nouB f x <;> cases infB f x <;> rfl
  have hs : sgP f x (oneI f) = fS f x := by unfold sgP; rw [p3]; cases fS f x <;> rfl
  have ha : amtP f x (oneI f) = amtE (unE f x) (unM f x) := by rw [← amtP_turn, amt_one]
  have hp := parts_sum f x h0 h1
  have c := cls_cases f x
  unfold mulE
  rw [r1, r2, r3, hb, hs, ha]
  simp only [Bool.or_false, Bool.false_eq_true, if_false]
  refine ⟨fun h => ?_, fun h => ?_, fun h => ?_⟩
  · have hn : nanB f x = true := by unfold nanB; simp; omega
    rw [if_pos hn]; exact ⟨_, rfl⟩
  · have hn : nanB f x = false := by unfold nanB; rw [h]; rfl
    have hi : infB f x = true := by unfold infB; rw [h]; rfl
    rw [hn, if_neg (by decide), if_pos hi]
    have e : infI f (fS f x) = x := by unfold infI; rw [show fX f x = topx f by omega, show fF f x = 0 by omega, Int.add_zero] at hp; exact hp.symm
    rw [e]
  · have hn : nanB f x = false := by unfold nanB; simp; omega
    have hi : infB f x = false := by unfold infB; simp; omega
    rw [hn, hi, if_neg (by decide), if_neg (by decide)]
    exact pack_num f mode x _ _ h0 h1 (fin_of f x hn hi) rfl rfl
end Go.Proofs.YtheaeclojljecaaGreat
