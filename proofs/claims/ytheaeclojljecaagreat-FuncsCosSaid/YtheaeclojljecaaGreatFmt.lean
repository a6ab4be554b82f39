/- Contracts of package format: what each call comes to. -/
import Derived.Test.YtheaeclojljecaaGreatRows
import Derived.Test.YtheaeclojljecaaGreatMath
import Derived.Deep.QuietTactic
import Derived.BigQuiet
namespace Go.Proofs.YtheaeclojljecaaGreat
open Go.RowKit
set_option linter.unusedVariables false
set_option linter.unusedSimpArgs false

set_option maxHeartbeats 400000 in
theorem widths_any (f : Int) (w : World) :
    Calls Tryz.prog 111 #[.int .i64 f] w fun e w' => e = .returned (.tuple #[.int .i64 (fe f), .int .i64 (fn f)]) ∧ w = w' := by
  rcases fmt_cases f with ⟨rfl, hf⟩ | ⟨rfl, hf⟩ | ⟨⟨h0, h1⟩, hf⟩ <;> obtain ⟨e1, e2, e3, e4, e5, e6, e7, e8, e9⟩ := hf
  all_goals
    go_enter Tryz.func111, Tryz.ntmps111
    go_wp2
    go_ret2
    exact ⟨by rw [e1, e2]; rfl, rfl⟩

set_option maxHeartbeats 400000 in
theorem signBit_any (f : Int) (w : World) :
    Calls Tryz.prog 95 #[.int .i64 f] w fun e w' => e = .returned (.int .u32 (sgb f)) ∧ w = w' := by
  rcases fmt_cases f with ⟨rfl, hf⟩ | ⟨rfl, hf⟩ | ⟨⟨c0, c1⟩, hf⟩ <;> obtain ⟨e1, e2, e3, e4, e5, e6, e7, e8, e9⟩ := hf
  all_goals
    go_enter Tryz.func95, Tryz.ntmps95
    go_wp2_with (go_at_call 111; refine (widths_any _ _).mono ?_; rintro e w' ⟨rfl, rfl⟩)
    go_ret
    exact ⟨by rw [e5]; rfl, rfl⟩

set_option maxHeartbeats 1000000 in
theorem hiddenBit_any (f : Int) (w : World) :
    Calls Tryz.prog 94 #[.int .i64 f] w fun e w' => e = .returned (.int .u32 (hid f)) ∧ w = w' := by
  rcases fmt_cases f with ⟨rfl, hf⟩ | ⟨rfl, hf⟩ | ⟨⟨c0, c1⟩, hf⟩ <;> obtain ⟨e1, e2, e3, e4, e5, e6, e7, e8, e9⟩ := hf
  all_goals
    go_enter Tryz.func94, Tryz.ntmps94
    go_wp2_with (first | (go_at_call 111; refine (widths_any _ _).mono ?_; rintro e w' ⟨rfl, rfl⟩))
    go_ret
    exact ⟨by rw [e3]; rfl, rfl⟩

set_option maxHeartbeats 1000000 in
theorem topExponent_any (f : Int) (w : World) :
    Calls Tryz.prog 91 #[.int .i64 f] w fun e w' => e = .returned (.int .u32 (topx f)) ∧ w = w' := by
  rcases fmt_cases f with ⟨rfl, hf⟩ | ⟨rfl, hf⟩ | ⟨⟨c0, c1⟩, hf⟩ <;> obtain ⟨e1, e2, e3, e4, e5, e6, e7, e8, e9⟩ := hf
  all_goals
    go_enter Tryz.func91, Tryz.ntmps91
    go_wp2_with (first | (go_at_call 111; refine (widths_any _ _).mono ?_; rintro e w' ⟨rfl, rfl⟩))
    go_ret
    exact ⟨by rw [e4]; rfl, rfl⟩

set_option maxHeartbeats 1000000 in
theorem leastExponent_any (f : Int) (w : World) :
    Calls Tryz.prog 128 #[.int .i64 f] w fun e w' => e = .returned (.int .i64 (lst f)) ∧ w = w' := by
  rcases fmt_cases f with ⟨rfl, hf⟩ | ⟨rfl, hf⟩ | ⟨⟨c0, c1⟩, hf⟩ <;> obtain ⟨e1, e2, e3, e4, e5, e6, e7, e8, e9⟩ := hf
  all_goals
    go_enter Tryz.func128, Tryz.ntmps128
    go_wp2_with (first | (go_at_call 111; refine (widths_any _ _).mono ?_; rintro e w' ⟨rfl, rfl⟩))
    go_ret
    exact ⟨by rw [e6]; rfl, rfl⟩

set_option maxHeartbeats 1000000 in
theorem quietBit_any (f : Int) (w : World) :
    Calls Tryz.prog 92 #[.int .i64 f] w fun e w' => e = .returned (.int .u32 (qui f)) ∧ w = w' := by
  rcases fmt_cases f with ⟨rfl, hf⟩ | ⟨rfl, hf⟩ | ⟨⟨c0, c1⟩, hf⟩ <;> obtain ⟨e1, e2, e3, e4, e5, e6, e7, e8, e9⟩ := hf
  all_goals
    go_enter Tryz.func92, Tryz.ntmps92
    go_wp2_with (first | (go_at_call 94; refine (hiddenBit_any _ _).mono ?_; rintro e w' ⟨rfl, rfl⟩))
    go_ret
    exact ⟨by rw [e7]; rfl, rfl⟩

set_option maxHeartbeats 1000000 in
theorem fields_any (f : Int) (v : Int) (w : World) (h0 : 0 ≤ v) (h1 : v ≤ 4294967295) :
    Calls Tryz.prog 90 #[.int .i64 f, .int .u32 v] w fun e w' => e = .returned (.tuple #[.int .u32 (fX f v), .int .u32 (fF f v)]) ∧ ∃ m, w' = w.drewN m := by
  have q1 := fX_bd f v
  have q2 := fF_bd f v
  rcases fmt_cases f with ⟨rfl, hf⟩ | ⟨rfl, hf⟩ | ⟨⟨c0, c1⟩, hf⟩ <;> obtain ⟨e1, e2, e3, e4, e5, e6, e7, e8, e9⟩ := hf
  all_goals
    go_enter Tryz.func90, Tryz.ntmps90
    go_wp2_with (first | (go_at_call 111; refine (widths_any _ _).mono ?_; rintro e w' ⟨rfl, rfl⟩))
    go_quiet (fail)
    go_wp2
    go_ret2
    exact ⟨ret_vv (by unfold fX; rw [e3, e4]; first | exact and32 _ 5 (by omega) (by omega) (by decide) (by decide) (by decide) | exact and32 _ 8 (by omega) (by omega) (by decide) (by decide) (by decide)) (by unfold fF; rw [e3]; first | exact and32 _ 10 (by omega) (by omega) (by decide) (by decide) (by decide) | exact and32 _ 7 (by omega) (by omega) (by decide) (by decide) (by decide) | exact and32 _ 23 (by omega) (by omega) (by decide) (by decide) (by decide)), _, rfl⟩

set_option maxHeartbeats 1000000 in
theorem mask_any (f : Int) (w : World) :
    Calls Tryz.prog 148 #[.int .i64 f] w fun e w' => e = .returned (.int .u32 (msk f)) ∧ w = w' := by
  rcases fmt_cases f with ⟨rfl, hf⟩ | ⟨rfl, hf⟩ | ⟨⟨c0, c1⟩, hf⟩ <;> obtain ⟨e1, e2, e3, e4, e5, e6, e7, e8, e9⟩ := hf
  all_goals
    go_enter Tryz.func148, Tryz.ntmps148
    go_wp2_with (first | (go_at_call 95; refine (signBit_any _ _).mono ?_; rintro e w' ⟨rfl, rfl⟩))
    go_ret
    exact ⟨by rw [e8]; rfl, rfl⟩

set_option maxHeartbeats 1000000 in
theorem class_any (f : Int) (v : Int) (w : World) (h0 : 0 ≤ v) (h1 : v ≤ 4294967295) :
    Calls Tryz.prog 56 #[.int .i64 f, .int .u32 v] w fun e w' => e = .returned (.int .i64 (clsI f v)) ∧ ∃ m, w' = w.drewN m := by
  have q1 := fX_bd f v
  have q2 := fF_bd f v
  rcases fmt_cases f with ⟨rfl, hf⟩ | ⟨rfl, hf⟩ | ⟨⟨c0, c1⟩, hf⟩ <;> obtain ⟨e1, e2, e3, e4, e5, e6, e7, e8, e9⟩ := hf
  all_goals
    go_enter Tryz.func56, Tryz.ntmps56
    go_wp2_with (first | (go_at_call 90; refine (fields_any _ _ _ h0 h1).mono ?_; rintro e w' ⟨rfl, m, rfl⟩) | (go_at_call 91; refine (topExponent_any _ _).mono ?_; rintro e w' ⟨rfl, rfl⟩) | (go_at_call 92; refine (quietBit_any _ _).mono ?_; rintro e w' ⟨rfl, rfl⟩))
    all_goals
      go_ret
      exact ⟨ret_int (by unfold clsI; rw [e4, e7]; simp only [beq_iff_eq, beq_eq_false_iff_ne, ne_eq, decide_eq_true_eq, decide_eq_false_iff_not] at *; (repeat' split) <;> omega), _, rfl⟩

set_option maxHeartbeats 1000000 in
theorem finite_any (f : Int) (v : Int) (w : World) (h0 : 0 ≤ v) (h1 : v ≤ 4294967295) :
    Calls Tryz.prog 74 #[.int .i64 f, .int .u32 v] w fun e w' => e = .returned (.bool (finI f v)) ∧ ∃ m, w' = w.drewN m := by
  have q1 := fX_bd f v
  have q2 := fF_bd f v
  rcases fmt_cases f with ⟨rfl, hf⟩ | ⟨rfl, hf⟩ | ⟨⟨c0, c1⟩, hf⟩ <;> obtain ⟨e1, e2, e3, e4, e5, e6, e7, e8, e9⟩ := hf
  all_goals
    go_enter Tryz.func74, Tryz.ntmps74
    go_wp2_with (first | (go_at_call 90; refine (fields_any _ _ _ h0 h1).mono ?_; rintro e w' ⟨rfl, m, rfl⟩) | (go_at_call 91; refine (topExponent_any _ _).mono ?_; rintro e w' ⟨rfl, rfl⟩))
    all_goals
      go_ret
      exact ⟨ret_bool (by unfold finI; rw [e4]), _, rfl⟩

set_option maxHeartbeats 1000000 in
theorem unpack_any (f : Int) (v : Int) (w : World) (h0 : 0 ≤ v) (h1 : v ≤ 4294967295) :
    Calls Tryz.prog 105 #[.int .i64 f, .int .u32 v] w fun e w' => e = .returned (.tuple #[.bool (fS f v), .int .i64 (unE f v), .int .u64 (unM f v)]) ∧ ∃ m, w' = w.drewN m := by
  have q1 := fX_bd f v
  have q2 := fF_bd f v
  rcases fmt_cases f with ⟨rfl, hf⟩ | ⟨rfl, hf⟩ | ⟨⟨c0, c1⟩, hf⟩ <;> obtain ⟨e1, e2, e3, e4, e5, e6, e7, e8, e9⟩ := hf
  all_goals
    rw [e4] at q1
    rw [e3] at q2
    go_enter Tryz.func105, Tryz.ntmps105
    go_wp2_with (first | (go_at_call 90; refine (fields_any _ _ _ h0 h1).mono ?_; rintro e w' ⟨rfl, m, rfl⟩) | (go_at_call 91; refine (topExponent_any _ _).mono ?_; rintro e w' ⟨rfl, rfl⟩) | (go_at_call 94; refine (hiddenBit_any _ _).mono ?_; rintro e w' ⟨rfl, rfl⟩) | (go_at_call 128; refine (leastExponent_any _ _).mono ?_; rintro e w' ⟨rfl, rfl⟩) | (go_at_call 95; refine (signBit_any _ _).mono ?_; rintro e w' ⟨rfl, rfl⟩))
    all_goals
      go_ret3
      refine ⟨ret_unp ?_ ?_ ?_, _, rfl⟩
      · first | exact neg_code _ v 15 h0 h1 (by decide) (by decide) e5 | exact neg_code _ v 31 h0 h1 (by decide) (by decide) e5
      · unfold unE; rw [e4, e6]; simp only [beq_iff_eq, beq_eq_false_iff_ne, ne_eq, wrap64] at *; (repeat' split) <;> omega
      · unfold unM; rw [e4, e3]
        try rw [un_or _ v 10 (by decide) e3 (by decide)]
        try rw [un_or _ v 7 (by decide) e3 (by decide)]
        try rw [un_or _ v 23 (by decide) e3 (by decide)]
        try rw [IntKind.wrap_u64]
        simp only [beq_iff_eq, beq_eq_false_iff_ne, ne_eq] at *; (repeat' split) <;> omega

set_option maxHeartbeats 1000000 in
theorem zero_any (f : Int) (neg : Bool) (w : World) :
    Calls Tryz.prog 60 #[.int .i64 f, .bool neg] w fun e w' => e = .returned (.int .u32 (zerI f neg)) ∧ w = w' := by
  rcases fmt_cases f with ⟨rfl, hf⟩ | ⟨rfl, hf⟩ | ⟨⟨c0, c1⟩, hf⟩ <;> obtain ⟨e1, e2, e3, e4, e5, e6, e7, e8, e9⟩ := hf
  all_goals
    go_enter Tryz.func60, Tryz.ntmps60
    cases neg
    all_goals
      go_wp2_with (first | (go_at_call 95; refine (signBit_any _ _).mono ?_; rintro e w' ⟨rfl, rfl⟩))
      go_ret
      exact ⟨by simp only [zerI, e5]; rfl, rfl⟩

set_option maxHeartbeats 1000000 in
theorem inf_any (f : Int) (neg : Bool) (w : World) :
    Calls Tryz.prog 59 #[.int .i64 f, .bool neg] w fun e w' => e = .returned (.int .u32 (infI f neg)) ∧ w = w' := by
  rcases fmt_cases f with ⟨rfl, hf⟩ | ⟨rfl, hf⟩ | ⟨⟨c0, c1⟩, hf⟩ <;> obtain ⟨e1, e2, e3, e4, e5, e6, e7, e8, e9⟩ := hf
  all_goals
    go_enter Tryz.func59, Tryz.ntmps59
    cases neg
    all_goals
      go_wp2_with (first | (go_at_call 60; refine (zero_any _ _ _).mono ?_; rintro e w' ⟨rfl, rfl⟩) | (go_at_call 91; refine (topExponent_any _ _).mono ?_; rintro e w' ⟨rfl, rfl⟩) | (go_at_call 94; refine (hiddenBit_any _ _).mono ?_; rintro e w' ⟨rfl, rfl⟩))
      go_ret
      exact ⟨ret_int (by simp only [infI, zerI, e3, e4, e5]; decide), rfl⟩

set_option maxHeartbeats 1000000 in
theorem greatest_any (f : Int) (neg : Bool) (w : World) :
    Calls Tryz.prog 144 #[.int .i64 f, .bool neg] w fun e w' => e = .returned (.int .u32 (greI f neg)) ∧ w = w' := by
  rcases fmt_cases f with ⟨rfl, hf⟩ | ⟨rfl, hf⟩ | ⟨⟨c0, c1⟩, hf⟩ <;> obtain ⟨e1, e2, e3, e4, e5, e6, e7, e8, e9⟩ := hf
  all_goals
    go_enter Tryz.func144, Tryz.ntmps144
    cases neg
    all_goals
      go_wp2_with (first | (go_at_call 59; refine (inf_any _ _ _).mono ?_; rintro e w' ⟨rfl, rfl⟩))
      go_ret
      exact ⟨ret_int (by simp only [greI, infI, zerI, e3, e4, e5]; decide), rfl⟩

set_option maxHeartbeats 1000000 in
theorem nan_any (f : Int) (w : World) :
    Calls Tryz.prog 57 #[.int .i64 f] w fun e w' => e = .returned (.int .u32 (nanI f)) ∧ w = w' := by
  rcases fmt_cases f with ⟨rfl, hf⟩ | ⟨rfl, hf⟩ | ⟨⟨c0, c1⟩, hf⟩ <;> obtain ⟨e1, e2, e3, e4, e5, e6, e7, e8, e9⟩ := hf
  all_goals
    go_enter Tryz.func57, Tryz.ntmps57
    go_wp2_with (first | (go_at_call 59; refine (inf_any _ _ _).mono ?_; rintro e w' ⟨rfl, rfl⟩) | (go_at_call 92; refine (quietBit_any _ _).mono ?_; rintro e w' ⟨rfl, rfl⟩))
    all_goals
      go_ret
      exact ⟨ret_int (by simp only [nanI, infI, zerI, e3, e4, e5, e7]; decide), rfl⟩
end Go.Proofs.YtheaeclojljecaaGreat
