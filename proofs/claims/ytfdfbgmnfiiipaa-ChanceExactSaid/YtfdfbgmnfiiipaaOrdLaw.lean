/- Laws of the line of numbers (no program here). -/
import Derived.Test.YtfdfbgmnfiiipaaOrdMath
namespace Go.Proofs.Ytfdfbgmnfiiipaa
open Go.RowKit
set_option linter.unusedVariables false
set_option linter.unusedSimpArgs false

/-- A number's bits without its sign are its exponent's and its fraction's. -/
theorem low_parts (f v : Int) : v % sgb f = fX f v * hid f + fF f v := by
  rcases fmt_cases f with ⟨rfl, hf⟩ | ⟨rfl, hf⟩ | ⟨⟨c0, c1⟩, hf⟩ <;> obtain ⟨e1, e2, e3, e4, e5, e6, e7, e8, e9⟩ := hf
  all_goals
    unfold fX fF; rw [e3, e4, e5]; omega

theorem key_parts (f v : Int) : keyI f v = if fS f v then -1 - (fX f v * hid f + fF f v) else fX f v * hid f + fF f v := by
  unfold keyI; rw [low_parts]

theorem low_is (f x : Int) (h0 : 0 ≤ x) (h1 : x ≤ msk f) : bits .and .u32 x (msk f) = x := by
  rcases fmt_cases f with ⟨rfl, hf⟩ | ⟨rfl, hf⟩ | ⟨⟨c0, c1⟩, hf⟩ <;> obtain ⟨e1, e2, e3, e4, e5, e6, e7, e8, e9⟩ := hf <;> rw [e8] at h1 ⊢
  · rw [and32 x 16 (p := 65536) h0 (by omega) (by decide) (by decide) (by decide)]; omega
  · rw [and32 x 16 (p := 65536) h0 (by omega) (by decide) (by decide) (by decide)]; omega
  · rw [and32 x 32 (p := 4294967296) h0 (by omega) (by decide) (by decide) (by decide)]; omega

/-- A nought's key. -/
theorem key_nou (f v : Int) (h : nouB f v = true) : keyI f v = -1 ∨ keyI f v = 0 := by
  have c := cls_cases f v
  have ht := topx_pos f
  unfold nouB at h
  simp at h
  rw [key_parts, show fX f v = 0 by omega, show fF f v = 0 by omega]
  split
  · left; omega
  · right; omega

theorem les_is (f a b : Int) : lesB f a b = true ↔ nanB f a = false ∧ nanB f b = false ∧ ¬ (nouB f a = true ∧ nouB f b = true) ∧ keyI f a < keyI f b := by
  unfold lesB cmpO cmpC
  cases ha : nanB f a <;> cases hb : nanB f b <;> cases za : nouB f a <;> cases zb : nouB f b <;> simp <;> omega

/-- What is below one isn't above it; its key is lesser; what is below that is below. -/
theorem les_line (f x y z : Int) (h : lesB f x y = true) : lesB f y x = false ∧ keyI f x < keyI f y ∧ (lesB f y z = true → lesB f x z = true) := by
  obtain ⟨a, b, c, d⟩ := (les_is f x y).1 h
  refine ⟨?_, d, fun g => ?_⟩
  · cases e : lesB f y x
    · rfl
    · have := ((les_is f y x).1 e).2.2.2; omega
  · obtain ⟨a2, b2, c2, d2⟩ := (les_is f y z).1 g
    refine (les_is f x z).2 ⟨a, b2, fun hz => ?_, by omega⟩
    have k1 := key_nou f x hz.1
    have k2 := key_nou f z hz.2
    omega

theorem nan_nan (f : Int) : nanB f (nanI f) = true := by
  rcases fmt_cases f with ⟨rfl, hf⟩ | ⟨rfl, hf⟩ | ⟨⟨c0, c1⟩, hf⟩ <;> obtain ⟨e1, e2, e3, e4, e5, e6, e7, e8, e9⟩ := hf
  all_goals
    unfold nanB clsI nanI infI zerI fX fF
    rw [e3, e4, e7]
    simp only [Bool.false_eq_true, if_false]
    decide

/-- The lesser, the greater one of two. -/
theorem low_high (f x y : Int) (x0 : 0 ≤ x) (x1 : x ≤ msk f) (y0 : 0 ≤ y) (y1 : y ≤ msk f) :
    lesB f (maxO f x y) (minO f x y) = false ∧ (minO f x y = x ∨ minO f x y = y ∨ minO f x y = nanI f) ∧ (maxO f x y = x ∨ maxO f x y = y ∨ maxO f x y = nanI f) := by
  unfold minO maxO pickI
  rw [low_is f x x0 x1, low_is f y y0 y1]
  have self : ∀ v, lesB f v v = false := fun v => by
    cases e : lesB f v v
    · rfl
    · have := ((les_is f v v).1 e).2.2.2; omega
  cases ha : nanB f x <;> cases hb : nanB f y
  · by_cases k1 : keyI f x ≤ keyI f y <;> by_cases k2 : keyI f y ≤ keyI f x <;> simp [k1, k2, self]
    · cases e : lesB f y x
      · rfl
      · have := ((les_is f y x).1 e).2.2.2; omega
    · cases e : lesB f x y
      · rfl
      · have := ((les_is f x y).1 e).2.2.2; omega
  · simp [self]
  · simp [self]
  · simp [self]

theorem pick_bd (f x y : Int) (x0 : 0 ≤ x) (x1 : x ≤ msk f) (y0 : 0 ≤ y) (y1 : y ≤ msk f) : 0 ≤ minO f x y ∧ minO f x y ≤ 4294967295 ∧ 0 ≤ maxO f x y ∧ maxO f x y ≤ 4294967295 := by
  obtain ⟨_, a, b⟩ := low_high f x y x0 x1 y0 y1
  have hm : msk f ≤ 4294967295 := by unfold msk; (repeat' split) <;> decide
  have hn : 0 ≤ nanI f ∧ nanI f ≤ 4294967295 := by
    unfold nanI infI zerI topx hid qui
    (repeat' split) <;> first | omega | simp_all
  refine ⟨?_, ?_, ?_, ?_⟩
  · rcases a with a | a | a <;> omega
  · rcases a with a | a | a <;> omega
  · rcases b with b | b | b <;> omega
  · rcases b with b | b | b <;> omega

theorem sgb_low (f : Int) (s : Bool) : fX f (infI f s) = topx f ∧ fF f (infI f s) = 0 ∧ fS f (infI f s) = s ∧ 0 ≤ infI f s ∧ infI f s ≤ msk f := by
  rcases fmt_cases f with ⟨rfl, hf⟩ | ⟨rfl, hf⟩ | ⟨⟨c0, c1⟩, hf⟩ <;> obtain ⟨e1, e2, e3, e4, e5, e6, e7, e8, e9⟩ := hf
  all_goals
    unfold infI zerI fX fF fS
    rw [e3, e4, e5, e8]
    cases s <;> simp only [Bool.false_eq_true, if_false, if_true] <;> decide

/-- Where a finite number stands: between the infinities; its other sign's key is turned. -/
theorem fin_line (f x : Int) (x0 : 0 ≤ x) (x1 : x ≤ msk f) (h : finI f x = true) :
    lesB f x (infI f false) = true ∧ lesB f (infI f true) x = true ∧ keyI f x + keyI f (xorI f x) = -1 ∧ maxO f x (infI f false) = infI f false ∧ minO f x (nanI f) = x := by
  have hlt : fX f x < topx f := by unfold finI at h; exact of_decide_eq_true h
  have c := cls_cases f x
  have hX := fX_bd f x
  have hF := fF_bd f x
  have hH := hid_pos f
  have hm : msk f ≤ 4294967295 := by unfold msk; (repeat' split) <;> decide
  have m1 : (fX f x + 1) * hid f ≤ topx f * hid f := Int.mul_le_mul_of_nonneg_right (by omega) (Int.le_of_lt hH)
  rw [Int.add_mul] at m1
  have m0 : 0 ≤ fX f x * hid f := Int.mul_nonneg hX.1 (Int.le_of_lt hH)
  have hn : nanB f x = false := by unfold nanB; simp; omega
  have hkx := key_parts f x
  obtain ⟨i1, i2, i3, i4, i5⟩ := sgb_low f false
  obtain ⟨j1, j2, j3, j4, j5⟩ := sgb_low f true
  have ht := topx_pos f
  have ci : ∀ s, clsI f (infI f s) = 3 := fun s => by
    obtain ⟨a, b, _⟩ := sgb_low f s
    unfold clsI; rw [a, b, if_neg (by omega), if_neg (by omega), if_pos rfl]
  have ni : ∀ s, nanB f (infI f s) = false := fun s => by unfold nanB; rw [ci]; rfl
  have zi : ∀ s, nouB f (infI f s) = false := fun s => by unfold nouB; rw [ci]; rfl
  have k1 : keyI f (infI f false) = topx f * hid f := by rw [key_parts, i1, i2, i3]; simp
  have k2 : keyI f (infI f true) = -1 - topx f * hid f := by rw [key_parts, j1, j2, j3]; simp
  have kb : -1 - topx f * hid f < keyI f x ∧ keyI f x < topx f * hid f := by rw [hkx]; split <;> omega
  refine ⟨(les_is _ _ _).2 ⟨hn, ni _, fun g => ?_, by omega⟩, (les_is _ _ _).2 ⟨ni _, hn, fun g => ?_, by omega⟩, ?_, ?_, ?_⟩
  · rw [zi] at g; exact absurd g.2 (by decide)
  · rw [zi] at g; exact absurd g.1 (by decide)
  · obtain ⟨p1, p2, p3, _⟩ := xor_parts f x x0 (by omega)
    rw [hkx, key_parts f (xorI f x), p1, p2, p3]
    cases fS f x <;> simp <;> omega
  · unfold maxO pickI
    rw [hn, ni, low_is f _ x0 x1, low_is f _ i4 i5, k1]
    have : ¬ topx f * hid f ≤ keyI f x := by omega
    simp [this]
  · unfold minO pickI
    rw [hn, nan_nan, low_is f _ x0 x1]
    simp

/-- What isn't finite: an infinity is as great as itself, a NaN isn't. -/
theorem inf_line (f x : Int) (h : finI f x = false) : cmpO f x x = (clsI f x == 3) ∧ ((clsI f x == 3) = false → lesB f x 0 = false ∧ lesB f 0 x = false) := by
  have hlt : ¬ fX f x < topx f := by unfold finI at h; exact of_decide_eq_false h
  have c := cls_cases f x
  have ht := topx_pos f
  have hn : nanB f x = !(clsI f x == 3) := by
    unfold nanB
    rcases (show clsI f x = 3 ∨ clsI f x = 4 ∨ clsI f x = 5 by omega) with e | e | e <;> rw [e] <;> rfl
  refine ⟨?_, fun g => ?_⟩
  · unfold cmpO; rw [hn]; simp
  · rw [g] at hn
    unfold lesB cmpO; rw [hn]; simp
end Go.Proofs.Ytfdfbgmnfiiipaa
