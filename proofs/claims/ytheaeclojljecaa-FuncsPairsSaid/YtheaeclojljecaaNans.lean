/- The contract of the reference's keys. Contracts of the reference's questions of a number: is it none, is it infinite, nought. The contract of the reference's question of three numbers: is one none. Which of two bits is greater, as plain numbers (no program here). Laws of the line of numbers (no program here). -/
import Derived.Test.YtheaeclojljecaaRFmt
import Derived.Test.YtheaeclojljecaaWorld
import Derived.Test.YtheaeclojljecaaRows
import Derived.Lib.Hide
import Derived.Handy
namespace Go.Proofs.Ytheaeclojljecaa
open Go.RowKit
set_option linter.unusedVariables false
set_option linter.unusedSimpArgs false

/-- A number's place in the line. -/
def keyI (f a : Int) : Int := if fS f a then -1 - a % sgb f else a % sgb f

theorem no_sign (f v : Int) (h0 : 0 ≤ v) (h1 : v ≤ 4294967295) : bits .andNot .u32 (bits .and .u32 v (msk f)) (zerI f true) = v % sgb f := by
  have key : ∀ X : Nat, X < 65536 → X &&& (4294967295 - 32768) = X % 32768 := by
    intro X hX
    have e : X &&& (4294967295 - 32768) = (X &&& (4294967295 - 32768)) % 2 ^ 16 := (Nat.mod_eq_of_lt (Nat.lt_of_le_of_lt Nat.and_le_left hX)).symm
    rw [e, Nat.and_mod_two_pow, Nat.mod_eq_of_lt (a := X) (by omega), show (4294967295 - 32768) % 2 ^ 16 = 2 ^ 15 - 1 from by decide, Nat.and_two_pow_sub_one_eq_mod]
  have key2 : ∀ X : Nat, X &&& (4294967295 - 2147483648) = X % 2147483648 := by
    intro X
    rw [show 4294967295 - 2147483648 = 2 ^ 31 - 1 from by decide, Nat.and_two_pow_sub_one_eq_mod]
  have hz : zerI f true = sgb f := rfl
  rw [hz]
  rcases fmt_cases f with ⟨rfl, hf⟩ | ⟨rfl, hf⟩ | ⟨⟨c0, c1⟩, hf⟩ <;> obtain ⟨e1, e2, e3, e4, e5, e6, e7, e8, e9⟩ := hf <;> rw [e8, e5]
  · rw [and32 v 16 (p := 65536) h0 h1 (by decide) (by decide) (by decide), u32_andNot _ _ (by omega) (by omega) (by decide) (by decide)]
    have := key (v % 65536).toNat (by omega)
    rw [show (32768 : Int).toNat = 32768 from rfl, this]; omega
  · rw [and32 v 16 (p := 65536) h0 h1 (by decide) (by decide) (by decide), u32_andNot _ _ (by omega) (by omega) (by decide) (by decide)]
    have := key (v % 65536).toNat (by omega)
    rw [show (32768 : Int).toNat = 32768 from rfl, this]; omega
  · rw [and32 v 32 (p := 4294967296) h0 h1 (by decide) (by decide) (by decide), u32_andNot _ _ (by omega) (by omega) (by decide) (by decide)]
    have := key2 (v % 4294967296).toNat
    rw [show (2147483648 : Int).toNat = 2147483648 from rfl, this]; omega

set_option maxHeartbeats 1000000 in
theorem rneg_any (f : Int) (v : Int) (w : World) (h0 : 0 ≤ v) (h1 : v ≤ 4294967295) :
    Calls Try.prog 32 #[.int .i64 f, .int .u32 v] w fun e w' => e = .returned (.bool (fS f v)) ∧ ∃ m, w' = w.drewN m := by
  go_enter Try.func32, Try.ntmps32
  go_wp2_with (go_at_call 28; refine (rparts_any _ _ _ h0 h1).mono ?_; rintro e w' ⟨rfl, m, rfl⟩)
  go_ret
  exact ⟨rfl, _, rfl⟩

set_option maxHeartbeats 1000000 in
theorem rkey_any (f : Int) (v : Int) (w : World) (h0 : 0 ≤ v) (h1 : v ≤ 4294967295) :
    Calls Try.prog 16 #[.int .i64 f, .int .u32 v] w fun e w' => e = .returned (.int .i64 (keyI f v)) ∧ ∃ m, w' = w.drewN m := by
  have hn := no_sign f v h0 h1
  have hs : 0 < sgb f ∧ sgb f ≤ 2147483648 := by unfold sgb; (repeat' split) <;> decide
  have hb0 : 0 ≤ v % sgb f := Int.emod_nonneg _ (by omega)
  have hb1 : v % sgb f < sgb f := Int.emod_lt_of_pos _ hs.1
  obtain ⟨hs0, hs1⟩ := hs
  go_enter Try.func16, Try.ntmps16
  go_wp2_with (first
      | (go_at_call 30; refine (rmask_any _ _).mono ?_; rintro e w' ⟨rfl, rfl⟩)
      | (go_at_call 31; refine (rsign_any _ _ _).mono ?_; rintro e w' ⟨rfl, rfl⟩)
      | (go_at_call 32; refine (rneg_any _ _ _ h0 h1).mono ?_; rintro e w' ⟨rfl, m, rfl⟩))
  all_goals
    go_ret
    exact ⟨ret_int (by unfold keyI; simp_all), _, rfl⟩

/-- Is it not a number; is it Signal; infinite; nought. -/
def nanB (f a : Int) : Bool := clsI f a == 4 || clsI f a == 5

def sigB (f a : Int) : Bool := clsI f a == 5

def infB (f a : Int) : Bool := clsI f a == 3

def nouB (f a : Int) : Bool := clsI f a == 0

theorem cls_three (f a : Int) : (clsI f a = 4 ∧ nanB f a = true ∧ sigB f a = false) ∨ (clsI f a = 5 ∧ nanB f a = true ∧ sigB f a = true) ∨ ((clsI f a == 4) = false ∧ (clsI f a == 5) = false ∧ nanB f a = false ∧ sigB f a = false) := by
  unfold nanB sigB
  by_cases h : clsI f a = 4
  · exact .inl ⟨h, by simp [h], by simp [h]⟩
  · by_cases g : clsI f a = 5
    · exact .inr (.inl ⟨g, by simp [g], by simp [g]⟩)
    · exact .inr (.inr ⟨by simpa using h, by simpa using g, by simp [h, g], by simp [g]⟩)

theorem ret_bb {p q r s : Bool} (h : p = q) (g : r = s) : Ending.returned (.tuple #[.bool p, .bool r]) = .returned (.tuple #[.bool q, .bool s]) := by rw [h, g]

set_option maxHeartbeats 1000000 in
theorem nans1_any (f a : Int) (b : Nat) (w : World) (h0 : 0 ≤ a) (h1 : a ≤ 4294967295) (hc : w.cell? ⟨b, 0, none⟩ = some (.int .u32 a)) :
    Calls Try.prog 53 #[.int .i64 f, .slice (some ⟨b, 0, none⟩) 1 1] w fun e w' => e = .returned (.tuple #[.bool (nanB f a), .bool (sigB f a)]) ∧ ∃ m, w' = w.drewN m := by
  obtain ⟨C, hC⟩ : ∃ C, clsI f a = C := ⟨_, rfl⟩
  have HC := Lib.hid hC
  have HW := cls_three f a
  rw [hC] at HW
  clear hC
  rcases HW with ⟨rfl, n1, n2⟩ | ⟨rfl, n1, n2⟩ | ⟨c4, c5, n1, n2⟩
  all_goals
    have N1 := Lib.hid n1
    have N2 := Lib.hid n2
    clear n1 n2
    go_enter Try.func53, Try.ntmps53
    go_wp2
    refine wp_loop_rounds 2 ?_
    repeat any_goals (rw [rounds_succ]; go_wp2_with (go_at_call 14; refine (rclass_any _ _ _ (by omega) (by omega)).mono ?_; rintro e w' ⟨he, m, rfl⟩; rw [HC.out] at he; subst he))
    go_ret2
    exact ⟨ret_bb (by rw [N1.out]) (by rw [N2.out]), _, rfl⟩

set_option maxHeartbeats 1000000 in
theorem nans2_any (f a c : Int) (b : Nat) (w : World) (h0 : 0 ≤ a) (h1 : a ≤ 4294967295) (g0 : 0 ≤ c) (g1 : c ≤ 4294967295) (hc : w.cell? ⟨b, 0, none⟩ = some (.int .u32 a)) (hd : w.cell? ⟨b, 1, none⟩ = some (.int .u32 c)) :
    Calls Try.prog 53 #[.int .i64 f, .slice (some ⟨b, 0, none⟩) 2 2] w fun e w' => e = .returned (.tuple #[.bool (nanB f a || nanB f c), .bool (sigB f a || sigB f c)]) ∧ ∃ m, w' = w.drewN m := by
  obtain ⟨C, hC⟩ : ∃ C, clsI f a = C := ⟨_, rfl⟩
  obtain ⟨D, hD⟩ : ∃ D, clsI f c = D := ⟨_, rfl⟩
  have HC := Lib.hid hC
  have HD := Lib.hid hD
  have HW := cls_three f a
  have HX := cls_three f c
  rw [hC] at HW
  rw [hD] at HX
  clear hC hD
  rcases HW with ⟨rfl, n1, n2⟩ | ⟨rfl, n1, n2⟩ | ⟨c4, c5, n1, n2⟩
  all_goals
    rcases HX with ⟨rfl, n3, n4⟩ | ⟨rfl, n3, n4⟩ | ⟨d4, d5, n3, n4⟩
    all_goals
      have N1 := Lib.hid n1
      have N2 := Lib.hid n2
      have N3 := Lib.hid n3
      have N4 := Lib.hid n4
      clear n1 n2 n3 n4
      go_enter Try.func53, Try.ntmps53
      go_wp2
      refine wp_loop_rounds 3 ?_
      repeat any_goals (rw [rounds_succ]; go_wp2_with (go_at_call 14; refine (rclass_any _ _ _ (by omega) (by omega)).mono ?_; rintro e w' ⟨he, m, rfl⟩; (first | rw [HC.out] at he | rw [HD.out] at he); subst he))
      go_ret2
      refine ⟨ret_bb (by rw [N1.out, N3.out]; rfl) (by rw [N2.out, N4.out]; rfl), ?_⟩
      first | exact ⟨_, rfl⟩ | exact ⟨_, World.drewN_drewN _ _ _⟩

set_option maxHeartbeats 400000 in
theorem rnouB_any (f : Int) (v : Int) (w : World) (h0 : 0 ≤ v) (h1 : v ≤ 4294967295) :
    Calls Try.prog 54 #[.int .i64 f, .int .u32 v] w fun e w' => e = .returned (.bool (nouB f v)) ∧ ∃ m, w' = w.drewN m := by
  go_enter Try.func54, Try.ntmps54
  go_wp2_with (go_at_call 14; refine (rclass_any _ _ _ h0 h1).mono ?_; rintro e w' ⟨rfl, m, rfl⟩)
  go_ret
  exact ⟨rfl, _, rfl⟩

theorem mask_inf (f v : Int) (h0 : 0 ≤ v) (h1 : v ≤ 4294967295) (h : infB f v = true) : bits .and .u32 v (msk f) = infI f (fS f v) := by
  have c := cls_cases f v
  unfold infB at h
  simp at h
  rw [mask_parts f v h0 h1]
  unfold infI
  have e : fX f v = topx f ∧ fF f v = 0 := by omega
  rw [e.1, e.2, Int.add_zero]

theorem mask_nou (f v : Int) (h0 : 0 ≤ v) (h1 : v ≤ 4294967295) (h : nouB f v = true) : bits .and .u32 v (msk f) = zerI f (fS f v) := by
  have c := cls_cases f v
  have ht := topx_pos f
  unfold nouB at h
  simp at h
  rw [mask_parts f v h0 h1]
  have e : fX f v = 0 ∧ fF f v = 0 := by omega
  rw [e.1, e.2, Int.zero_mul, Int.add_zero, Int.add_zero]

/-- What is told of a number that is Normal. -/
theorem norm_parts (f z Z F : Int) (hX : fX f z = Z) (hF : fF f z = F) (h0 : 0 < Z) (h1 : Z < topx f) : nanB f z = false ∧ infB f z = false ∧ nouB f z = false ∧ unE f z = lst f + Z - 1 ∧ unM f z = F + hid f := by
  have hc : clsI f z = 2 := by unfold clsI; rw [hX, if_neg (by omega), if_pos h1]
  refine ⟨by unfold nanB; rw [hc]; rfl, by unfold infB; rw [hc]; rfl, by unfold nouB; rw [hc]; rfl, ?_, ?_⟩
  · unfold unE; rw [hX, if_neg (by omega), if_neg (by omega)]
  · unfold unM; rw [hX, hF, if_neg (by omega), if_neg (by omega)]

set_option maxRecDepth 100000 in
set_option maxHeartbeats 4000000 in
theorem nans3_any (f a c d : Int) (b : Nat) (w : World) (h0 : 0 ≤ a) (h1 : a ≤ 4294967295) (g0 : 0 ≤ c) (g1 : c ≤ 4294967295) (k0 : 0 ≤ d) (k1 : d ≤ 4294967295) (hc : w.cell? ⟨b, 0, none⟩ = some (.int .u32 a)) (hd : w.cell? ⟨b, 1, none⟩ = some (.int .u32 c)) (he : w.cell? ⟨b, 2, none⟩ = some (.int .u32 d)) :
    Calls Try.prog 53 #[.int .i64 f, .slice (some ⟨b, 0, none⟩) 3 3] w fun e w' => e = .returned (.tuple #[.bool (nanB f a || nanB f c || nanB f d), .bool (sigB f a || sigB f c || sigB f d)]) ∧ ∃ m, w' = w.drewN m := by
  obtain ⟨C, hC⟩ : ∃ C, clsI f a = C := ⟨_, rfl⟩
  obtain ⟨D, hD⟩ : ∃ D, clsI f c = D := ⟨_, rfl⟩
  obtain ⟨E, hE⟩ : ∃ E, clsI f d = E := ⟨_, rfl⟩
  have HC := Lib.hid hC
  have HD := Lib.hid hD
  have HE := Lib.hid hE
  have HW := cls_three f a
  have HX := cls_three f c
  have HY := cls_three f d
  rw [hC] at HW
  rw [hD] at HX
  rw [hE] at HY
  clear hC hD hE
  rcases HW with ⟨rfl, n1, n2⟩ | ⟨rfl, n1, n2⟩ | ⟨c4, c5, n1, n2⟩
  all_goals
    rcases HX with ⟨rfl, n3, n4⟩ | ⟨rfl, n3, n4⟩ | ⟨d4, d5, n3, n4⟩
    all_goals
      rcases HY with ⟨rfl, n5, n6⟩ | ⟨rfl, n5, n6⟩ | ⟨e4, e5, n5, n6⟩
      all_goals
        have N1 := Lib.hid n1
        have N2 := Lib.hid n2
        have N3 := Lib.hid n3
        have N4 := Lib.hid n4
        have N5 := Lib.hid n5
        have N6 := Lib.hid n6
        clear n1 n2 n3 n4 n5 n6
        go_enter Try.func53, Try.ntmps53
        go_wp2
        refine wp_loop_rounds 4 ?_
        repeat any_goals (rw [rounds_succ]; go_wp2_with (go_at_call 14; refine (rclass_any _ _ _ (by omega) (by omega)).mono ?_; rintro e w' ⟨he, m, rfl⟩; (first | rw [HC.out] at he | rw [HD.out] at he | rw [HE.out] at he); subst he))
        go_ret2
        refine ⟨ret_bb (by rw [N1.out, N3.out, N5.out]; rfl) (by rw [N2.out, N4.out, N6.out]; rfl), ?_⟩
        first | exact ⟨_, rfl⟩ | exact ⟨_, World.drewN_drewN _ _ _⟩

/-- Are both numbers? -/
def cmpO (f a b : Int) : Bool := !(nanB f a || nanB f b)

/-- Below, as great, above. -/
def cmpC (f a b : Int) : Int :=
  if (nanB f a || nanB f b) = true then 0 else if (nouB f a && nouB f b) = true then 0 else if keyI f a < keyI f b then -1 else if keyI f b < keyI f a then 1 else 0

def lesB (f a b : Int) : Bool := cmpO f a b && decide (cmpC f a b < 0)

/-- One of both: b's bits, a's, or the plain NaN. -/
def pickI (f a b : Int) (first : Bool) : Int :=
  if (nanB f a && nanB f b) = true then nanI f else if (nanB f a || (!nanB f b && !first)) = true then bits .and .u32 b (msk f) else bits .and .u32 a (msk f)

def minO (f a b : Int) : Int := pickI f a b (decide (keyI f a ≤ keyI f b))

def maxO (f a b : Int) : Int := pickI f a b (decide (keyI f b ≤ keyI f a))

theorem cmp_bd (f a b : Int) : -1 ≤ cmpC f a b ∧ cmpC f a b ≤ 1 := by unfold cmpC; (repeat' split) <;> omega

theorem key_bd (f v : Int) (h0 : 0 ≤ v) : -2147483648 ≤ keyI f v ∧ keyI f v ≤ 2147483647 := by
  have hs : 0 < sgb f ∧ sgb f ≤ 2147483648 := by unfold sgb; (repeat' split) <;> decide
  have hb0 : 0 ≤ v % sgb f := Int.emod_nonneg _ (by omega)
  have hb1 : v % sgb f < sgb f := Int.emod_lt_of_pos _ hs.1
  unfold keyI
  split <;> omega

/-- A number's bits without its sign are its exponent's and its fraction's. -/
theorem low_parts (f v : Int) : v % sgb f = fX f v * hid f + fF f v := by
  rcases fmt_cases f with ⟨rfl, hf⟩ | ⟨rfl, hf⟩ | ⟨⟨c0, c1⟩, hf⟩ <;> obtain ⟨e1, e2, e3, e4, e5, e6, e7, e8, e9⟩ := hf
  all_goals
    unfold fX fF; rw [e3, e4, e5]; omega

theorem key_parts (f v : Int) : keyI f v = if fS f v then -1 - (fX f v * hid f + fF f v) else fX f v * hid f + fF f v := by
  unfold keyI; rw [low_parts]

theorem low_is (f x : Int) (h0 : 0 ≤ x) (h1 : x ≤ msk f) : bits .and .u32 x (msk f) = x := by
  rcases fmt_cases f with ⟨rfl, hf⟩ | ⟨rfl, hf⟩ | ⟨⟨c0, c1⟩, hf⟩ <;> obtain ⟨e1, e2, e3, e4, e5, e6, e7, e8, e9⟩ := hf <;> rw [e8] at h1 ⊢
  · rw [and32 x 16 (p := 65536) h0 (by omega) (by decide) (by decide) (by decide)]; omega
  · rw [and32 x 16 (p := 65536) h0 (by omega) (by decide) (by decide) (by decide)]; omega
  · rw [and32 x 32 (p := 4294967296) h0 (by omega) (by decide) (by decide) (by decide)]; omega

/-- A nought's key. -/
theorem key_nou (f v : Int) (h : nouB f v = true) : keyI f v = -1 ∨ keyI f v = 0 := by
  have c := cls_cases f v
  have ht := topx_pos f
  unfold nouB at h
  simp at h
  rw [key_parts, show fX f v = 0 by omega, show fF f v = 0 by omega]
  split
  · left; omega
  · right; omega

theorem les_is (f a b : Int) : lesB f a b = true ↔ nanB f a = false ∧ nanB f b = false ∧ ¬ (nouB f a = true ∧ nouB f b = true) ∧ keyI f a < keyI f b := by
  unfold lesB cmpO cmpC
  cases ha : nanB f a <;> cases hb : nanB f b <;> cases za : nouB f a <;> cases zb : nouB f b <;> simp <;> omega

/-- What is below one isn't above it; its key is lesser; what is below that is below. -/
theorem les_line (f x y z : Int) (h : lesB f x y = true) : lesB f y x = false ∧ keyI f x < keyI f y ∧ (lesB f y z = true → lesB f x z = true) := by
  obtain ⟨a, b, c, d⟩ := (les_is f x y).1 h
  refine ⟨?_, d, fun g => ?_⟩
  · cases e : lesB f y x
    · rfl
    · have := ((les_is f y x).1 e).2.2.2; omega
  · obtain ⟨a2, b2, c2, d2⟩ := (les_is f y z).1 g
    refine (les_is f x z).2 ⟨a, b2, fun hz => ?_, by omega⟩
    have k1 := key_nou f x hz.1
    have k2 := key_nou f z hz.2
    omega

theorem nan_nan (f : Int) : nanB f (nanI f) = true := by
  rcases fmt_cases f with ⟨rfl, hf⟩ | ⟨rfl, hf⟩ | ⟨⟨c0, c1⟩, hf⟩ <;> obtain ⟨e1, e2, e3, e4, e5, e6, e7, e8, e9⟩ := hf
  all_goals
    unfold nanB clsI nanI infI zerI fX fF
    rw [e3, e4, e7]
    simp only [Bool.false_eq_true, if_false]
    decide

/-- The lesser, the greater one of two. -/
theorem low_high (f x y : Int) (x0 : 0 ≤ x) (x1 : x ≤ msk f) (y0 : 0 ≤ y) (y1 : y ≤ msk f) :
    lesB f (maxO f x y) (minO f x y) = false ∧ (minO f x y = x ∨ minO f x y = y ∨ minO f x y = nanI f) ∧ (maxO f x y = x ∨ maxO f x y = y ∨ maxO f x y = nanI f) := by
  unfold minO maxO pickI
  rw [low_is f x x0 x1, low_is f y y0 y1]
  have self : ∀ v, lesB f v v = false := fun v => by
    cases e : lesB f v v
    · rfl
    · have := ((les_is f v v).1 e).2.2.2; omega
  cases ha : nanB f x <;> cases hb : nanB f y
  · by_cases k1 : keyI f x ≤ keyI f y <;> by_cases k2 : keyI f y ≤ keyI f x <;> simp [k1, k2, self]
    · cases e : lesB f y x
      · rfl
      · have := ((les_is f y x).1 e).2.2.2; omega
    · cases e : lesB f x y
      · rfl
      · have := ((les_is f x y).1 e).2.2.2; omega
  · simp [self]
  · simp [self]
  · simp [self]

theorem pick_bd (f x y : Int) (x0 : 0 ≤ x) (x1 : x ≤ msk f) (y0 : 0 ≤ y) (y1 : y ≤ msk f) : 0 ≤ minO f x y ∧ minO f x y ≤ 4294967295 ∧ 0 ≤ maxO f x y ∧ maxO f x y ≤ 4294967295 := by
  obtain ⟨_, a, b⟩ := low_high f x y x0 x1 y0 y1
  have hm : msk f ≤ 4294967295 := by unfold msk; (repeat' split) <;> decide
  have hn : 0 ≤ nanI f ∧ nanI f ≤ 4294967295 := by
    unfold nanI infI zerI topx hid qui
    (repeat' split) <;> first | omega | simp_all
  refine ⟨?_, ?_, ?_, ?_⟩
  · rcases a with a | a | a <;> omega
  · rcases a with a | a | a <;> omega
  · rcases b with b | b | b <;> omega
  · rcases b with b | b | b <;> omega

theorem sgb_low (f : Int) (s : Bool) : fX f (infI f s) = topx f ∧ fF f (infI f s) = 0 ∧ fS f (infI f s) = s ∧ 0 ≤ infI f s ∧ infI f s ≤ msk f := by
  rcases fmt_cases f with ⟨rfl, hf⟩ | ⟨rfl, hf⟩ | ⟨⟨c0, c1⟩, hf⟩ <;> obtain ⟨e1, e2, e3, e4, e5, e6, e7, e8, e9⟩ := hf
  all_goals
    unfold infI zerI fX fF fS
    rw [e3, e4, e5, e8]
    cases s <;> simp only [Bool.false_eq_true, if_false, if_true] <;> decide

/-- Where a finite number stands: between the infinities; its other sign's key is turned. -/
theorem fin_line (f x : Int) (x0 : 0 ≤ x) (x1 : x ≤ msk f) (h : finI f x = true) :
    lesB f x (infI f false) = true ∧ lesB f (infI f true) x = true ∧ keyI f x + keyI f (xorI f x) = -1 ∧ maxO f x (infI f false) = infI f false ∧ minO f x (nanI f) = x := by
  have hlt : fX f x < topx f := by unfold finI at h; exact of_decide_eq_true h
  have c := cls_cases f x
  have hX := fX_bd f x
  have hF := fF_bd f x
  have hH := hid_pos f
  have hm : msk f ≤ 4294967295 := by unfold msk; (repeat' split) <;> decide
  have m1 : (fX f x + 1) * hid f ≤ topx f * hid f := Int.mul_le_mul_of_nonneg_right (by omega) (Int.le_of_lt hH)
  rw [Int.add_mul] at m1
  have m0 : 0 ≤ fX f x * hid f := Int.mul_nonneg hX.1 (Int.le_of_lt hH)
  have hn : nanB f x = false := by unfold nanB; simp; omega
  have hkx := key_parts f x
  obtain ⟨i1, i2, i3, i4, i5⟩ := sgb_low f false
  obtain ⟨j1, j2, j3, j4, j5⟩ := sgb_low f true
  have ht := topx_pos f
  have ci : ∀ s, clsI f (infI f s) = 3 := fun s => by
    obtain ⟨a, b, _⟩ := sgb_low f s
    unfold clsI; rw [a, b, if_neg (by omega), if_neg (by omega), if_pos rfl]
  have ni : ∀ s, nanB f (infI f s) = false := fun s => by unfold nanB; rw [ci]; rfl
  have zi : ∀ s, nouB f (infI f s) = false := fun s => by unfold nouB; rw [ci]; rfl
  have k1 : keyI f (infI f false) = topx f * hid f := by rw [key_parts, i1, i2, i3]; simp
  have k2 : keyI f (infI f true) = -1 - topx f * hid f := by rw [key_parts, j1, j2, j3]; simp
  have kb : -1 - topx f * hid f < keyI f x ∧ keyI f x < topx f * hid f := by rw [hkx]; split <;> omega
  refine ⟨(les_is _ _ _).2 ⟨hn, ni _, fun g => ?_, by omega⟩, (les_is _ _ _).2 ⟨ni _, hn, fun g => ?_, by omega⟩, ?_, ?_, ?_⟩
  · rw [zi] at g; exact absurd g.2 (by decide)
  · rw [zi] at g; exact absurd g.1 (by decide)
  · obtain ⟨p1, p2, p3, _⟩ := xor_parts f x x0 (by omega)
    rw [hkx, key_parts f (xorI f x), p1, p2, p3]
    cases fS f x <;> simp <;> omega
  · unfold maxO pickI
    rw [hn, ni, low_is f _ x0 x1, low_is f _ i4 i5, k1]
    have : ¬ topx f * hid f ≤ keyI f x := by omega
    simp [this]
  · unfold minO pickI
    rw [hn, nan_nan, low_is f _ x0 x1]
    simp

/-- What isn't finite: an infinity is as great as itself, a NaN isn't. -/
theorem inf_line (f x : Int) (h : finI f x = false) : cmpO f x x = (clsI f x == 3) ∧ ((clsI f x == 3) = false → lesB f x 0 = false ∧ lesB f 0 x = false) := by
  have hlt : ¬ fX f x < topx f := by unfold finI at h; exact of_decide_eq_false h
  have c := cls_cases f x
  have ht := topx_pos f
  have hn : nanB f x = !(clsI f x == 3) := by
    unfold nanB
    rcases (show clsI f x = 3 ∨ clsI f x = 4 ∨ clsI f x = 5 by omega) with e | e | e <;> rw [e] <;> rfl
  refine ⟨?_, fun g => ?_⟩
  · unfold cmpO; rw [hn]; simp
  · rw [g] at hn
    unfold lesB cmpO; rw [hn]; simp
end Go.Proofs.Ytheaeclojljecaa
