/- The contract of the reference's keys. Contracts of the reference's questions of a number: is it none, is it infinite, nought. The contract of the reference's question of three numbers: is one none. Which of two bits is greater, as plain numbers (no program here). Laws of the line of numbers (no program here). -/
import Derived.Test.YtheaeclojljecaaGreatRFmt
import Derived.Test.YtheaeclojljecaaGreatWorld
import Derived.Test.YtheaeclojljecaaGreatRows
import Derived.Lib.Hide
import Derived.Handy
namespace Go.Proofs.YtheaeclojljecaaGreat
open Go.RowKit
set_option linter.unusedVariables false
set_option linter.unusedSimpArgs false

def keyI (f a : Int) : Int := if fS f a then -1 - a % sgb f else a % sgb f

theorem no_sign (f v : Int) (h0 : 0 ≤ v) (h1 : v ≤ 4294967295) : bits .andNot .u32 (bits .and .u32 v (msk f)) (zerI f true) = v % sgb f := by
  have key : ∀ X : Nat, X < 65536 → X &&& (4294967295 - 32768) = X % 32768 := by
    intro X hX
    have e : X &&& (4294967295 - 32768) = (X &&& (4294967295 - 32768)) % 2 ^ 16 := (Nat.mod_eq_of_lt (Nat.lt_of_le_of_lt Nat.and_le_left hX)).symm
    rw [e, Nat.and_mod_two_pow, Nat.mod_eq_of_lt (a := X) (by omega), show (4294967295 - 32768) % 2 ^ 16 = 2 ^ 15 - 1 from by decide, Nat.and_two_pow_sub_one_eq_mod]
  have key2 : ∀ X : Nat, X &&& (4294967295 - 2147483648) = X % 2147483648 := by
    intro X
    rw [show 4294967295 - 2147483648 = 2 ^ 31 - 1 from by decide, Nat.and_two_pow_sub_one_eq_mod]
  have hz : zerI f true = sgb f := rfl
  rw [hz]
  rcases fmt_cases f with ⟨rfl, hf⟩ | ⟨rfl, hf⟩ | ⟨⟨c0, c1⟩, hf⟩ <;> obtain ⟨e1, e2, e3, e4, e5, e6, e7, e8, e9⟩ := hf <;> rw [e8, e5]
  · rw [and32 v 16 (p := 65536) h0 h1 (by decide) (by decide) (by decide), u32_andNot _ _ (by omega) (by omega) (by decide) (by decide)]
    have := key (v % 65536).toNat (by omega)
    rw [show (32768 : Int).toNat = 32768 from rfl, this]; omega
  · rw [and32 v 16 (p := 65536) h0 h1 (by decide) (by decide) (by decide), u32_andNot _ _ (by omega) (by omega) (by decide) (by decide)]
    have := key (v % 65536).toNat (by omega)
    rw [show (32768 : Int).toNat = 32768 from rfl, this]; omega
  · rw [and32 v 32 (p := 4294967296) h0 h1 (by decide) (by decide) (by decide), u32_andNot _ _ (by omega) (by omega) (by decide) (by decide)]
    have := key2 (v % 4294967296).toNat
    rw [show (2147483648 : Int).toNat = 2147483648 from rfl, this]; omega

set_option maxHeartbeats 1000000 in
theorem rneg_any (f : Int) (v : Int) (w : World) (h0 : 0 ≤ v) (h1 : v ≤ 4294967295) :
    Calls Tryz.prog 84 #[.int .i64 f, .int .u32 v] w fun e w' => e = .returned (.bool (fS f v)) ∧ ∃ m, w' = w.drewN m := by
  go_enter Tryz.func84, Tryz.ntmps84
  go_wp2_with (go_at_call 52; refine (rparts_any _ _ _ h0 h1).mono ?_; rintro e w' ⟨rfl, m, rfl⟩)
  go_ret
  exact ⟨rfl, _, rfl⟩

set_option maxHeartbeats 1000000 in
theorem rkey_any (f : Int) (v : Int) (w : World) (h0 : 0 ≤ v) (h1 : v ≤ 4294967295) :
    Calls Tryz.prog 89 #[.int .i64 f, .int .u32 v] w fun e w' => e = .returned (.int .i64 (keyI f v)) ∧ ∃ m, w' = w.drewN m := by
  have hn := no_sign f v h0 h1
  have hs : 0 < sgb f ∧ sgb f ≤ 2147483648 := by unfold sgb; (repeat' split) <;> decide
  have hb0 : 0 ≤ v % sgb f := Int.emod_nonneg _ (by omega)
  have hb1 : v % sgb f < sgb f := Int.emod_lt_of_pos _ hs.1
  obtain ⟨hs0, hs1⟩ := hs
  go_enter Tryz.func89, Tryz.ntmps89
  go_wp2_with (first
      | (go_at_call 28; refine (rmask_any _ _).mono ?_; rintro e w' ⟨rfl, rfl⟩)
      | (go_at_call 54; refine (rsign_any _ _ _).mono ?_; rintro e w' ⟨rfl, rfl⟩)
      | (go_at_call 84; refine (rneg_any _ _ _ h0 h1).mono ?_; rintro e w' ⟨rfl, m, rfl⟩))
  all_goals
    go_ret
    exact ⟨ret_int (by unfold keyI; simp_all), _, rfl⟩

def nanB (f a : Int) : Bool := clsI f a == 4 || clsI f a == 5

def sigB (f a : Int) : Bool := clsI f a == 5

def infB (f a : Int) : Bool := clsI f a == 3

def nouB (f a : Int) : Bool := clsI f a == 0

theorem cls_three (f a : Int) : (clsI f a = 4 ∧ nanB f a = true ∧ sigB f a = false) ∨ (clsI f a = 5 ∧ nanB f a = true ∧ sigB f a = true) ∨ ((clsI f a == 4) = false ∧ (clsI f a == 5) = false ∧ nanB f a = false ∧ sigB f a = false) := by
  unfold nanB sigB
  by_cases h : clsI f a = 4
  · exact .inl ⟨h, by simp [h], by simp [h]⟩
  · by_cases g : clsI f a = 5
    · exact .inr (.inl ⟨g, by simp [g], by simp [g]⟩)
    · exact .inr (.inr ⟨by simpa using h, by simpa using g, by simp [h, g], by simp [g]⟩)

theorem ret_bb {p q r s : Bool} (h : p = q) (g : r = s) : Ending.returned (.tuple #[.bool p, .bool r]) = .returned (.tuple #[.bool q, .bool s]) := by rw [h, g]

set_option maxHeartbeats 1000000 in
theorem nans1_any (f a : Int) (b : Nat) (w : World) (h0 : 0 ≤ a) (h1 : a ≤ 4294967295) (hc : w.cell? ⟨b, 0, none⟩ = some (.int .u32 a)) :
    Calls Tryz.prog 53 #[.int .i64 f, .slice (some ⟨b, 0, none⟩) 1 1] w fun e w' => e = .returned (.tuple #[.bool (nanB f a), .bool (sigB f a)]) ∧ ∃ m, w' = w.drewN m := by
  obtain ⟨C, hC⟩ : ∃ C, clsI f a = C := ⟨_, rfl⟩
  have HC := Lib.hid hC
  have HW := cls_three f a
  rw [hC] at HW
  clear hC
  rcases HW with ⟨rfl, n1, n2⟩ | ⟨rfl, n1, n2⟩ | ⟨c4, c5, n1, n2⟩
  all_goals
    have N1 := Lib.hid n1
    have N2 := Lib.hid n2
    clear n1 n2
    go_enter Tryz.func53, Tryz.ntmps53
    go_wp2
    refine wp_loop_rounds 2 ?_
    repeat any_goals (rw [rounds_succ]; go_wp2_with (go_at_call 24; refine (rclass_any _ _ _ (by omega) (by omega)).mono ?_; rintro e w' ⟨he, m, rfl⟩; rw [HC.out] at he; subst he))
    go_ret2
    exact ⟨ret_bb (by rw [N1.out]) (by rw [N2.out]), _, rfl⟩

set_option maxHeartbeats 1000000 in
theorem nans2_any (f a c : Int) (b : Nat) (w : World) (h0 : 0 ≤ a) (h1 : a ≤ 4294967295) (g0 : 0 ≤ c) (g1 : c ≤ 4294967295) (hc : w.cell? ⟨b, 0, none⟩ = some (.int .u32 a)) (hd : w.cell? ⟨b, 1, none⟩ = some (.int .u32 c)) :
    Calls Tryz.prog 53 #[.int .i64 f, .slice (some ⟨b, 0, none⟩) 2 2] w fun e w' => e = .returned (.tuple #[.bool (nanB f a || nanB f c), .bool (sigB f a || sigB f c)]) ∧ ∃ m, w' = w.drewN m := by
  obtain ⟨C, hC⟩ : ∃ C, clsI f a = C := ⟨_, rfl⟩
  obtain ⟨D, hD⟩ : ∃ D, clsI f c = D := ⟨_, rfl⟩
  have HC := Lib.hid hC
  have HD := Lib.hid hD
  have HW := cls_three f a
  have HX := cls_three f c
  rw [hC] at HW
  rw [hD] at HX
  clear hC hD
  rcases HW with ⟨rfl, n1, n2⟩ | ⟨rfl, n1, n2⟩ | ⟨c4, c5, n1, n2⟩
  all_goals
    rcases HX with ⟨rfl, n3, n4⟩ | ⟨rfl, n3, n4⟩ | ⟨d4, d5, n3, n4⟩
    all_goals
      have N1 := Lib.hid n1
      have N2 := Lib.hid n2
      have N3 := Lib.hid n3
      have N4 := Lib.hid n4
      clear n1 n2 n3 n4
      go_enter Tryz.func53, Tryz.ntmps53
      go_wp2
      refine wp_loop_rounds 3 ?_
      repeat any_goals (rw [rounds_succ]; go_wp2_with (go_at_call 24; refine (rclass_any _ _ _ (by omega) (by omega)).mono ?_; rintro e w' ⟨he, m, rfl⟩; (first | rw [HC.out] at he | rw [HD.out] at he); subst he))
      go_ret2
      refine ⟨ret_bb (by rw [N1.out, N3.out]; rfl) (by rw [N2.out, N4.out]; rfl), ?_⟩
      first | exact ⟨_, rfl⟩ | exact ⟨_, World.drewN_drewN _ _ _⟩

set_option maxHeartbeats 400000 in
theorem rinfB_any (f : Int) (v : Int) (w : World) (h0 : 0 ≤ v) (h1 : v ≤ 4294967295) :
    Calls Tryz.prog 86 #[.int .i64 f, .int .u32 v] w fun e w' => e = .returned (.bool (infB f v)) ∧ ∃ m, w' = w.drewN m := by
  go_enter Tryz.func86, Tryz.ntmps86
  go_wp2_with (go_at_call 24; refine (rclass_any _ _ _ h0 h1).mono ?_; rintro e w' ⟨rfl, m, rfl⟩)
  go_ret
  exact ⟨rfl, _, rfl⟩

set_option maxHeartbeats 400000 in
theorem rnouB_any (f : Int) (v : Int) (w : World) (h0 : 0 ≤ v) (h1 : v ≤ 4294967295) :
    Calls Tryz.prog 85 #[.int .i64 f, .int .u32 v] w fun e w' => e = .returned (.bool (nouB f v)) ∧ ∃ m, w' = w.drewN m := by
  go_enter Tryz.func85, Tryz.ntmps85
  go_wp2_with (go_at_call 24; refine (rclass_any _ _ _ h0 h1).mono ?_; rintro e w' ⟨rfl, m, rfl⟩)
  go_ret
  exact ⟨rfl, _, rfl⟩

theorem mask_inf (f v : Int) (h0 : 0 ≤ v) (h1 : v ≤ 4294967295) (h : infB f v = true) : bits .and .u32 v (msk f) = infI f (fS f v) := by
  have c := cls_cases f v
  unfold infB at h
  simp at h
  rw [mask_parts f v h0 h1]
  unfold infI
  have e : fX f v = topx f ∧ fF f v = 0 := by omega
  rw [e.1, e.2, Int.add_zero]

theorem mask_nou (f v : Int) (h0 : 0 ≤ v) (h1 : v ≤ 4294967295) (h : nouB f v = true) : bits .and .u32 v (msk f) = zerI f (fS f v) := by
  have c := cls_cases f v
  have ht := topx_pos f
  unfold nouB at h
  simp at h
  rw [mask_parts f v h0 h1]
  have e : fX f v = 0 ∧ fF f v = 0 := by omega
  rw [e.1, e.2, Int.zero_mul, Int.add_zero, Int.add_zero]

theorem norm_parts (f z Z F : Int) (hX : fX f z = Z) (hF : fF f z = F) (h0 : 0 < Z) (h1 : Z < topx f) : nanB f z = false ∧ infB f z = false ∧ nouB f z = false ∧ unE f z = lst f + Z - 1 ∧ unM f z = F + hid f := by
  have hc : clsI f z = 2 := by unfold clsI; rw [hX, if_neg (by omega), if_pos h1]
  refine ⟨by unfold nanB; rw [hc]; rfl, by unfold infB; rw [hc]; rfl, by unfold nouB; rw [hc]; rfl, ?_, ?_⟩
  · unfold unE; rw [hX, if_neg (by omega), if_neg (by omega)]
  · unfold unM; rw [hX, hF, if_neg (by omega), if_neg (by omega)]

set_option maxRecDepth 100000 in
set_option maxHeartbeats 4000000 in
theorem nans3_any (f a c d : Int) (b : Nat) (w : World) (h0 : 0 ≤ a) (h1 : a ≤ 4294967295) (g0 : 0 ≤ c) (g1 : c ≤ 4294967295) (k0 : 0 ≤ d) (k1 : d ≤ 4294967295) (hc : w.cell? ⟨b, 0, none⟩ = some (.int .u32 a)) (hd : w.cell? ⟨b, 1, none⟩ = some (.int .u32 c)) (he : w.cell? ⟨b, 2, none⟩ = some (.int .u32 d)) :
    Calls Tryz.prog 53 #[.int .i64 f, .slice (some ⟨b, 0, none⟩) 3 3] w fun e w' => e = .returned (.tuple #[.bool (nanB f a || nanB f c || nanB f d), .bool (sigB f a || sigB f c || sigB f d)]) ∧ ∃ m, w' = w.drewN m := by
  obtain ⟨C, hC⟩ : ∃ C, clsI f a = C := ⟨_, rfl⟩
  obtain ⟨D, hD⟩ : ∃ D, clsI f c = D := ⟨_, rfl⟩
  obtain ⟨E, hE⟩ : ∃ E, clsI f d = E := ⟨_, rfl⟩
  have HC := Lib.hid hC
  have HD := Lib.hid hD
  have HE := Lib.hid hE
  have HW := cls_three f a
  have HX := cls_three f c
  have HY := cls_three f d
  rw [hC] at HW
  rw [hD] at HX
  rw [hE] at HY
  clear hC hD hE
  rcases HW with ⟨rfl, n1, n2⟩ | ⟨rfl, n1, n2⟩ | ⟨c4, c5, n1, n2⟩
  all_goals
    rcases HX with ⟨rfl, n3, n4⟩ | ⟨rfl, n3, n4⟩ | ⟨d4, d5, n3, n4⟩
    all_goals
      rcases HY with ⟨rfl, n5, n6⟩ | ⟨rfl, n5, n6⟩ | ⟨e4, e5, n5, n6⟩
      all_goals
        have N1 := Lib.hid n1
        have N2 := Lib.hid n2
        have N3 := Lib.hid n3
        have N4 := Lib.hid n4
        have N5 := Lib.hid n5
        have N6 := Lib.hid n6
        clear n1 n2 n3 n4 n5 n6
        go_enter Tryz.func53, Tryz.ntmps53
        go_wp2
        refine wp_loop_rounds 4 ?_
        repeat any_goals (rw [rounds_succ]; go_wp2_with (go_at_call 24; refine (rclass_any _ _ _ (by omega) (by omega)).mono ?_; rintro e w' ⟨he, m, rfl⟩; (first | rw [HC.out] at he | rw [HD.out] at he | rw [HE.out] at he); subst he))
        go_ret2
        refine ⟨ret_bb (by rw [N1.out, N3.out, N5.out]; rfl) (by rw [N2.out, N4.out, N6.out]; rfl), ?_⟩
        first | exact ⟨_, rfl⟩ | exact ⟨_, World.drewN_drewN _ _ _⟩

def cmpO (f a b : Int) : Bool := !(nanB f a || nanB f b)

def cmpC (f a b : Int) : Int :=
  if (nanB f a || nanB f b) = true then 0 else if (nouB f a && nouB f b) = true then 0 else if keyI f a < keyI f b then -1 else if keyI f b < keyI f a then 1 else 0

def lesB (f a b : Int) : Bool := cmpO f a b && decide (cmpC f a b < 0)

theorem low_parts (f v : Int) : v % sgb f = fX f v * hid f + fF f v := by
  rcases fmt_cases f with ⟨rfl, hf⟩ | ⟨rfl, hf⟩ | ⟨⟨c0, c1⟩, hf⟩ <;> obtain ⟨e1, e2, e3, e4, e5, e6, e7, e8, e9⟩ := hf
  all_goals
    unfold fX fF; rw [e3, e4, e5]; omega

theorem key_parts (f v : Int) : keyI f v = if fS f v then -1 - (fX f v * hid f + fF f v) else fX f v * hid f + fF f v := by
  unfold keyI; rw [low_parts]

theorem low_is (f x : Int) (h0 : 0 ≤ x) (h1 : x ≤ msk f) : bits .and .u32 x (msk f) = x := by
  rcases fmt_cases f with ⟨rfl, hf⟩ | ⟨rfl, hf⟩ | ⟨⟨c0, c1⟩, hf⟩ <;> obtain ⟨e1, e2, e3, e4, e5, e6, e7, e8, e9⟩ := hf <;> rw [e8] at h1 ⊢
  · rw [and32 x 16 (p := 65536) h0 (by omega) (by decide) (by decide) (by decide)]; omega
  · rw [and32 x 16 (p := 65536) h0 (by omega) (by decide) (by decide) (by decide)]; omega
  · rw [and32 x 32 (p := 4294967296) h0 (by omega) (by decide) (by decide) (by decide)]; omega

theorem key_nou (f v : Int) (h : nouB f v = true) : keyI f v = -1 ∨ keyI f v = 0 := by
  have c := cls_cases f v
  have ht := topx_pos f
  unfold nouB at h
  simp at h
  rw [key_parts, show fX f v = 0 by omega, show fF f v = 0 by omega]
  split
  · left; omega
  · right; omega

theorem les_is (f a b : Int) : lesB f a b = true ↔ nanB f a = false ∧ nanB f b = false ∧ ¬ (nouB f a = true ∧ nouB f b = true) ∧ keyI f a < keyI f b := by
  unfold lesB cmpO cmpC
  cases ha : nanB f a <;> cases hb : nanB f b <;> cases za : nouB f a <;> cases zb : nouB f b <;> simp <;> omega

theorem nan_nan (f : Int) : nanB f (nanI f) = true := by
  rcases fmt_cases f with ⟨rfl, hf⟩ | ⟨rfl, hf⟩ | ⟨⟨c0, c1⟩, hf⟩ <;> obtain ⟨e1, e2, e3, e4, e5, e6, e7, e8, e9⟩ := hf
  all_goals
    unfold nanB clsI nanI infI zerI fX fF
    rw [e3, e4, e7]
    simp only [Bool.false_eq_true, if_false]
    decide

theorem sgb_low (f : Int) (s : Bool) : fX f (infI f s) = topx f ∧ fF f (infI f s) = 0 ∧ fS f (infI f s) = s ∧ 0 ≤ infI f s ∧ infI f s ≤ msk f := by
  rcases fmt_cases f with ⟨rfl, hf⟩ | ⟨rfl, hf⟩ | ⟨⟨c0, c1⟩, hf⟩ <;> obtain ⟨e1, e2, e3, e4, e5, e6, e7, e8, e9⟩ := hf
  all_goals
    unfold infI zerI fX fF fS
    rw [e3, e4, e5, e8]
    cases s <;> simp only [Bool.false_eq_true, if_false, if_true] <;> decide
end Go.Proofs.YtheaeclojljecaaGreat
