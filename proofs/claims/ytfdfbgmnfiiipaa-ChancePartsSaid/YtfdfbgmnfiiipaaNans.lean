/- Contracts of the reference's questions of a number: is it none, is it infinite, nought. -/
import Derived.Test.YtfdfbgmnfiiipaaRows
import Derived.Test.YtfdfbgmnfiiipaaRFmt
import Derived.Test.YtfdfbgmnfiiipaaRKey
import Derived.Test.YtfdfbgmnfiiipaaWorld
import Derived.Lib.Hide
import Derived.Handy
namespace Go.Proofs.Ytfdfbgmnfiiipaa
open Go.RowKit
set_option linter.unusedVariables false
set_option linter.unusedSimpArgs false

/-- Is it not a number; is it Signal; infinite; nought. -/
def nanB (f a : Int) : Bool := clsI f a == 4 || clsI f a == 5

def sigB (f a : Int) : Bool := clsI f a == 5

def infB (f a : Int) : Bool := clsI f a == 3

def nouB (f a : Int) : Bool := clsI f a == 0

theorem cls_three (f a : Int) : (clsI f a = 4 ∧ nanB f a = true ∧ sigB f a = false) ∨ (clsI f a = 5 ∧ nanB f a = true ∧ sigB f a = true) ∨ ((clsI f a == 4) = false ∧ (clsI f a == 5) = false ∧ nanB f a = false ∧ sigB f a = false) := by
  unfold nanB sigB
  by_cases h : clsI f a = 4
  · exact .inl ⟨h, by simp [h], by simp [h]⟩
  · by_cases g : clsI f a = 5
    · exact .inr (.inl ⟨g, by simp [g], by simp [g]⟩)
    · exact .inr (.inr ⟨by simpa using h, by simpa using g, by simp [h, g], by simp [g]⟩)

theorem ret_bb {p q r s : Bool} (h : p = q) (g : r = s) : Ending.returned (.tuple #[.bool p, .bool r]) = .returned (.tuple #[.bool q, .bool s]) := by rw [h, g]

set_option maxHeartbeats 1000000 in
theorem nans1_any (f a : Int) (b : Nat) (w : World) (h0 : 0 ≤ a) (h1 : a ≤ 4294967295) (hc : w.cell? ⟨b, 0, none⟩ = some (.int .u32 a)) :
    Calls Try.prog 32 #[.int .i64 f, .slice (some ⟨b, 0, none⟩) 1 1] w fun e w' => e = .returned (.tuple #[.bool (nanB f a), .bool (sigB f a)]) ∧ ∃ m, w' = w.drewN m := by
  obtain ⟨C, hC⟩ : ∃ C, clsI f a = C := ⟨_, rfl⟩
  have HC := Lib.hid hC
  have HW := cls_three f a
  rw [hC] at HW
  clear hC
  rcases HW with ⟨rfl, n1, n2⟩ | ⟨rfl, n1, n2⟩ | ⟨c4, c5, n1, n2⟩
  all_goals
    have N1 := Lib.hid n1
    have N2 := Lib.hid n2
    clear n1 n2
    go_enter Try.func32, Try.ntmps32
    go_wp2
    refine wp_loop_rounds 2 ?_
    repeat any_goals (rw [rounds_succ]; go_wp2_with (go_at_call 16; refine (rclass_any _ _ _ (by omega) (by omega)).mono ?_; rintro e w' ⟨he, m, rfl⟩; rw [HC.out] at he; subst he))
    go_ret2
    exact ⟨ret_bb (by rw [N1.out]) (by rw [N2.out]), _, rfl⟩

set_option maxHeartbeats 1000000 in
theorem nans2_any (f a c : Int) (b : Nat) (w : World) (h0 : 0 ≤ a) (h1 : a ≤ 4294967295) (g0 : 0 ≤ c) (g1 : c ≤ 4294967295) (hc : w.cell? ⟨b, 0, none⟩ = some (.int .u32 a)) (hd : w.cell? ⟨b, 1, none⟩ = some (.int .u32 c)) :
    Calls Try.prog 32 #[.int .i64 f, .slice (some ⟨b, 0, none⟩) 2 2] w fun e w' => e = .returned (.tuple #[.bool (nanB f a || nanB f c), .bool (sigB f a || sigB f c)]) ∧ ∃ m, w' = w.drewN m := by
  obtain ⟨C, hC⟩ : ∃ C, clsI f a = C := ⟨_, rfl⟩
  obtain ⟨D, hD⟩ : ∃ D, clsI f c = D := ⟨_, rfl⟩
  have HC := Lib.hid hC
  have HD := Lib.hid hD
  have HW := cls_three f a
  have HX := cls_three f c
  rw [hC] at HW
  rw [hD] at HX
  clear hC hD
  rcases HW with ⟨rfl, n1, n2⟩ | ⟨rfl, n1, n2⟩ | ⟨c4, c5, n1, n2⟩
  all_goals
    rcases HX with ⟨rfl, n3, n4⟩ | ⟨rfl, n3, n4⟩ | ⟨d4, d5, n3, n4⟩
    all_goals
      have N1 := Lib.hid n1
      have N2 := Lib.hid n2
      have N3 := Lib.hid n3
      have N4 := Lib.hid n4
      clear n1 n2 n3 n4
      go_enter Try.func32, Try.ntmps32
      go_wp2
      refine wp_loop_rounds 3 ?_
      repeat any_goals (rw [rounds_succ]; go_wp2_with (go_at_call 16; refine (rclass_any _ _ _ (by omega) (by omega)).mono ?_; rintro e w' ⟨he, m, rfl⟩; (first | rw [HC.out] at he | rw [HD.out] at he); subst he))
      go_ret2
      refine ⟨ret_bb (by rw [N1.out, N3.out]; rfl) (by rw [N2.out, N4.out]; rfl), ?_⟩
      first | exact ⟨_, rfl⟩ | exact ⟨_, World.drewN_drewN _ _ _⟩

set_option maxHeartbeats 400000 in
theorem rinfB_any (f : Int) (v : Int) (w : World) (h0 : 0 ≤ v) (h1 : v ≤ 4294967295) :
    Calls Try.prog 33 #[.int .i64 f, .int .u32 v] w fun e w' => e = .returned (.bool (infB f v)) ∧ ∃ m, w' = w.drewN m := by
  go_enter Try.func33, Try.ntmps33
  go_wp2_with (go_at_call 16; refine (rclass_any _ _ _ h0 h1).mono ?_; rintro e w' ⟨rfl, m, rfl⟩)
  go_ret
  exact ⟨rfl, _, rfl⟩

theorem mask_inf (f v : Int) (h0 : 0 ≤ v) (h1 : v ≤ 4294967295) (h : infB f v = true) : bits .and .u32 v (msk f) = infI f (fS f v) := by
  have c := cls_cases f v
  unfold infB at h
  simp at h
  rw [mask_parts f v h0 h1]
  unfold infI
  have e : fX f v = topx f ∧ fF f v = 0 := by omega
  rw [e.1, e.2, Int.add_zero]

theorem mask_nou (f v : Int) (h0 : 0 ≤ v) (h1 : v ≤ 4294967295) (h : nouB f v = true) : bits .and .u32 v (msk f) = zerI f (fS f v) := by
  have c := cls_cases f v
  have ht := topx_pos f
  unfold nouB at h
  simp at h
  rw [mask_parts f v h0 h1]
  have e : fX f v = 0 ∧ fF f v = 0 := by omega
  rw [e.1, e.2, Int.zero_mul, Int.add_zero, Int.add_zero]

/-- What is told of a number that is Normal. -/
theorem norm_parts (f z Z F : Int) (hX : fX f z = Z) (hF : fF f z = F) (h0 : 0 < Z) (h1 : Z < topx f) : nanB f z = false ∧ infB f z = false ∧ nouB f z = false ∧ unE f z = lst f + Z - 1 ∧ unM f z = F + hid f := by
  have hc : clsI f z = 2 := by unfold clsI; rw [hX, if_neg (by omega), if_pos h1]
  refine ⟨by unfold nanB; rw [hc]; rfl, by unfold infB; rw [hc]; rfl, by unfold nouB; rw [hc]; rfl, ?_, ?_⟩
  · unfold unE; rw [hX, if_neg (by omega), if_neg (by omega)]
  · unfold unM; rw [hX, hF, if_neg (by omega), if_neg (by omega)]
end Go.Proofs.Ytfdfbgmnfiiipaa
