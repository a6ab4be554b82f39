/- Contracts of package format: what each call comes to. -/
import Derived.Test.YtheaeclojljecaaRows
import Derived.Test.YtheaeclojljecaaMath
import Derived.Deep.QuietTactic
import Derived.BigQuiet
namespace Go.Proofs.Ytheaeclojljecaa
open Go.RowKit
set_option linter.unusedVariables false
set_option linter.unusedSimpArgs false

set_option maxHeartbeats 400000 in
theorem widths_any (f : Int) (w : World) :
    Calls Try.prog 70 #[.int .i64 f] w fun e w' => e = .returned (.tuple #[.int .i64 (fe f), .int .i64 (fn f)]) ∧ w = w' := by
  rcases fmt_cases f with ⟨rfl, hf⟩ | ⟨rfl, hf⟩ | ⟨⟨h0, h1⟩, hf⟩ <;> obtain ⟨e1, e2, e3, e4, e5, e6, e7, e8, e9⟩ := hf
  all_goals
    go_enter Try.func70, Try.ntmps70
    go_wp2
    go_ret2
    exact ⟨by rw [e1, e2]; rfl, rfl⟩

set_option maxHeartbeats 400000 in
theorem signBit_any (f : Int) (w : World) :
    Calls Try.prog 60 #[.int .i64 f] w fun e w' => e = .returned (.int .u32 (sgb f)) ∧ w = w' := by
  rcases fmt_cases f with ⟨rfl, hf⟩ | ⟨rfl, hf⟩ | ⟨⟨c0, c1⟩, hf⟩ <;> obtain ⟨e1, e2, e3, e4, e5, e6, e7, e8, e9⟩ := hf
  all_goals
    go_enter Try.func60, Try.ntmps60
    go_wp2_with (go_at_call 70; refine (widths_any _ _).mono ?_; rintro e w' ⟨rfl, rfl⟩)
    go_ret
    exact ⟨by rw [e5]; rfl, rfl⟩

set_option maxHeartbeats 1000000 in
theorem hiddenBit_any (f : Int) (w : World) :
    Calls Try.prog 59 #[.int .i64 f] w fun e w' => e = .returned (.int .u32 (hid f)) ∧ w = w' := by
  rcases fmt_cases f with ⟨rfl, hf⟩ | ⟨rfl, hf⟩ | ⟨⟨c0, c1⟩, hf⟩ <;> obtain ⟨e1, e2, e3, e4, e5, e6, e7, e8, e9⟩ := hf
  all_goals
    go_enter Try.func59, Try.ntmps59
    go_wp2_with (first | (go_at_call 70; refine (widths_any _ _).mono ?_; rintro e w' ⟨rfl, rfl⟩))
    go_ret
    exact ⟨by rw [e3]; rfl, rfl⟩

set_option maxHeartbeats 1000000 in
theorem topExponent_any (f : Int) (w : World) :
    Calls Try.prog 56 #[.int .i64 f] w fun e w' => e = .returned (.int .u32 (topx f)) ∧ w = w' := by
  rcases fmt_cases f with ⟨rfl, hf⟩ | ⟨rfl, hf⟩ | ⟨⟨c0, c1⟩, hf⟩ <;> obtain ⟨e1, e2, e3, e4, e5, e6, e7, e8, e9⟩ := hf
  all_goals
    go_enter Try.func56, Try.ntmps56
    go_wp2_with (first | (go_at_call 70; refine (widths_any _ _).mono ?_; rintro e w' ⟨rfl, rfl⟩))
    go_ret
    exact ⟨by rw [e4]; rfl, rfl⟩

set_option maxHeartbeats 1000000 in
theorem leastExponent_any (f : Int) (w : World) :
    Calls Try.prog 83 #[.int .i64 f] w fun e w' => e = .returned (.int .i64 (lst f)) ∧ w = w' := by
  rcases fmt_cases f with ⟨rfl, hf⟩ | ⟨rfl, hf⟩ | ⟨⟨c0, c1⟩, hf⟩ <;> obtain ⟨e1, e2, e3, e4, e5, e6, e7, e8, e9⟩ := hf
  all_goals
    go_enter Try.func83, Try.ntmps83
    go_wp2_with (first | (go_at_call 70; refine (widths_any _ _).mono ?_; rintro e w' ⟨rfl, rfl⟩))
    go_ret
    exact ⟨by rw [e6]; rfl, rfl⟩

set_option maxHeartbeats 1000000 in
theorem quietBit_any (f : Int) (w : World) :
    Calls Try.prog 57 #[.int .i64 f] w fun e w' => e = .returned (.int .u32 (qui f)) ∧ w = w' := by
  rcases fmt_cases f with ⟨rfl, hf⟩ | ⟨rfl, hf⟩ | ⟨⟨c0, c1⟩, hf⟩ <;> obtain ⟨e1, e2, e3, e4, e5, e6, e7, e8, e9⟩ := hf
  all_goals
    go_enter Try.func57, Try.ntmps57
    go_wp2_with (first | (go_at_call 59; refine (hiddenBit_any _ _).mono ?_; rintro e w' ⟨rfl, rfl⟩))
    go_ret
    exact ⟨by rw [e7]; rfl, rfl⟩

set_option maxHeartbeats 1000000 in
theorem fields_any (f : Int) (v : Int) (w : World) (h0 : 0 ≤ v) (h1 : v ≤ 4294967295) :
    Calls Try.prog 55 #[.int .i64 f, .int .u32 v] w fun e w' => e = .returned (.tuple #[.int .u32 (fX f v), .int .u32 (fF f v)]) ∧ ∃ m, w' = w.drewN m := by
  have q1 := fX_bd f v
  have q2 := fF_bd f v
  rcases fmt_cases f with ⟨rfl, hf⟩ | ⟨rfl, hf⟩ | ⟨⟨c0, c1⟩, hf⟩ <;> obtain ⟨e1, e2, e3, e4, e5, e6, e7, e8, e9⟩ := hf
  all_goals
    go_enter Try.func55, Try.ntmps55
    go_wp2_with (first | (go_at_call 70; refine (widths_any _ _).mono ?_; rintro e w' ⟨rfl, rfl⟩))
    go_quiet (fail)
    go_wp2
    go_ret2
    exact ⟨ret_vv (by unfold fX; rw [e3, e4]; first | exact and32 _ 5 (by omega) (by omega) (by decide) (by decide) (by decide) | exact and32 _ 8 (by omega) (by omega) (by decide) (by decide) (by decide)) (by unfold fF; rw [e3]; first | exact and32 _ 10 (by omega) (by omega) (by decide) (by decide) (by decide) | exact and32 _ 7 (by omega) (by omega) (by decide) (by decide) (by decide) | exact and32 _ 23 (by omega) (by omega) (by decide) (by decide) (by decide)), _, rfl⟩

set_option maxHeartbeats 1000000 in
theorem mask_any (f : Int) (w : World) :
    Calls Try.prog 101 #[.int .i64 f] w fun e w' => e = .returned (.int .u32 (msk f)) ∧ w = w' := by
  rcases fmt_cases f with ⟨rfl, hf⟩ | ⟨rfl, hf⟩ | ⟨⟨c0, c1⟩, hf⟩ <;> obtain ⟨e1, e2, e3, e4, e5, e6, e7, e8, e9⟩ := hf
  all_goals
    go_enter Try.func101, Try.ntmps101
    go_wp2_with (first | (go_at_call 60; refine (signBit_any _ _).mono ?_; rintro e w' ⟨rfl, rfl⟩))
    go_ret
    exact ⟨by rw [e8]; rfl, rfl⟩

set_option maxHeartbeats 1000000 in
theorem class_any (f : Int) (v : Int) (w : World) (h0 : 0 ≤ v) (h1 : v ≤ 4294967295) :
    Calls Try.prog 34 #[.int .i64 f, .int .u32 v] w fun e w' => e = .returned (.int .i64 (clsI f v)) ∧ ∃ m, w' = w.drewN m := by
  have q1 := fX_bd f v
  have q2 := fF_bd f v
  rcases fmt_cases f with ⟨rfl, hf⟩ | ⟨rfl, hf⟩ | ⟨⟨c0, c1⟩, hf⟩ <;> obtain ⟨e1, e2, e3, e4, e5, e6, e7, e8, e9⟩ := hf
  all_goals
    go_enter Try.func34, Try.ntmps34
    go_wp2_with (first | (go_at_call 55; refine (fields_any _ _ _ h0 h1).mono ?_; rintro e w' ⟨rfl, m, rfl⟩) | (go_at_call 56; refine (topExponent_any _ _).mono ?_; rintro e w' ⟨rfl, rfl⟩) | (go_at_call 57; refine (quietBit_any _ _).mono ?_; rintro e w' ⟨rfl, rfl⟩))
    all_goals
      go_ret
      exact ⟨ret_int (by unfold clsI; rw [e4, e7]; simp only [beq_iff_eq, beq_eq_false_iff_ne, ne_eq, decide_eq_true_eq, decide_eq_false_iff_not] at *; (repeat' split) <;> omega), _, rfl⟩

set_option maxHeartbeats 1000000 in
theorem finite_any (f : Int) (v : Int) (w : World) (h0 : 0 ≤ v) (h1 : v ≤ 4294967295) :
    Calls Try.prog 47 #[.int .i64 f, .int .u32 v] w fun e w' => e = .returned (.bool (finI f v)) ∧ ∃ m, w' = w.drewN m := by
  have q1 := fX_bd f v
  have q2 := fF_bd f v
  rcases fmt_cases f with ⟨rfl, hf⟩ | ⟨rfl, hf⟩ | ⟨⟨c0, c1⟩, hf⟩ <;> obtain ⟨e1, e2, e3, e4, e5, e6, e7, e8, e9⟩ := hf
  all_goals
    go_enter Try.func47, Try.ntmps47
    go_wp2_with (first | (go_at_call 55; refine (fields_any _ _ _ h0 h1).mono ?_; rintro e w' ⟨rfl, m, rfl⟩) | (go_at_call 56; refine (topExponent_any _ _).mono ?_; rintro e w' ⟨rfl, rfl⟩))
    all_goals
      go_ret
      exact ⟨ret_bool (by unfold finI; rw [e4]), _, rfl⟩

set_option maxHeartbeats 1000000 in
theorem unpack_any (f : Int) (v : Int) (w : World) (h0 : 0 ≤ v) (h1 : v ≤ 4294967295) :
    Calls Try.prog 66 #[.int .i64 f, .int .u32 v] w fun e w' => e = .returned (.tuple #[.bool (fS f v), .int .i64 (unE f v), .int .u64 (unM f v)]) ∧ ∃ m, w' = w.drewN m := by
  have q1 := fX_bd f v
  have q2 := fF_bd f v
  rcases fmt_cases f with ⟨rfl, hf⟩ | ⟨rfl, hf⟩ | ⟨⟨c0, c1⟩, hf⟩ <;> obtain ⟨e1, e2, e3, e4, e5, e6, e7, e8, e9⟩ := hf
  all_goals
    rw [e4] at q1
    rw [e3] at q2
    go_enter Try.func66, Try.ntmps66
    go_wp2_with (first | (go_at_call 55; refine (fields_any _ _ _ h0 h1).mono ?_; rintro e w' ⟨rfl, m, rfl⟩) | (go_at_call 56; refine (topExponent_any _ _).mono ?_; rintro e w' ⟨rfl, rfl⟩) | (go_at_call 59; refine (hiddenBit_any _ _).mono ?_; rintro e w' ⟨rfl, rfl⟩) | (go_at_call 83; refine (leastExponent_any _ _).mono ?_; rintro e w' ⟨rfl, rfl⟩) | (go_at_call 60; refine (signBit_any _ _).mono ?_; rintro e w' ⟨rfl, rfl⟩))
    all_goals
      go_ret3
      refine ⟨ret_unp ?_ ?_ ?_, _, rfl⟩
      · first | exact neg_code _ v 15 h0 h1 (by decide) (by decide) e5 | exact neg_code _ v 31 h0 h1 (by decide) (by decide) e5
      · unfold unE; rw [e4, e6]; simp only [beq_iff_eq, beq_eq_false_iff_ne, ne_eq, wrap64] at *; (repeat' split) <;> omega
      · unfold unM; rw [e4, e3]
        try rw [un_or _ v 10 (by decide) e3 (by decide)]
        try rw [un_or _ v 7 (by decide) e3 (by decide)]
        try rw [un_or _ v 23 (by decide) e3 (by decide)]
        try rw [IntKind.wrap_u64]
        simp only [beq_iff_eq, beq_eq_false_iff_ne, ne_eq] at *; (repeat' split) <;> omega

set_option maxHeartbeats 1000000 in
theorem zero_any (f : Int) (neg : Bool) (w : World) :
    Calls Try.prog 38 #[.int .i64 f, .bool neg] w fun e w' => e = .returned (.int .u32 (zerI f neg)) ∧ w = w' := by
  rcases fmt_cases f with ⟨rfl, hf⟩ | ⟨rfl, hf⟩ | ⟨⟨c0, c1⟩, hf⟩ <;> obtain ⟨e1, e2, e3, e4, e5, e6, e7, e8, e9⟩ := hf
  all_goals
    go_enter Try.func38, Try.ntmps38
    cases neg
    all_goals
      go_wp2_with (first | (go_at_call 60; refine (signBit_any _ _).mono ?_; rintro e w' ⟨rfl, rfl⟩))
      go_ret
      exact ⟨by simp only [zerI, e5]; rfl, rfl⟩

set_option maxHeartbeats 1000000 in
theorem inf_any (f : Int) (neg : Bool) (w : World) :
    Calls Try.prog 37 #[.int .i64 f, .bool neg] w fun e w' => e = .returned (.int .u32 (infI f neg)) ∧ w = w' := by
  rcases fmt_cases f with ⟨rfl, hf⟩ | ⟨rfl, hf⟩ | ⟨⟨c0, c1⟩, hf⟩ <;> obtain ⟨e1, e2, e3, e4, e5, e6, e7, e8, e9⟩ := hf
  all_goals
    go_enter Try.func37, Try.ntmps37
    cases neg
    all_goals
      go_wp2_with (first | (go_at_call 38; refine (zero_any _ _ _).mono ?_; rintro e w' ⟨rfl, rfl⟩) | (go_at_call 56; refine (topExponent_any _ _).mono ?_; rintro e w' ⟨rfl, rfl⟩) | (go_at_call 59; refine (hiddenBit_any _ _).mono ?_; rintro e w' ⟨rfl, rfl⟩))
      go_ret
      exact ⟨ret_int (by simp only [infI, zerI, e3, e4, e5]; decide), rfl⟩

set_option maxHeartbeats 1000000 in
theorem greatest_any (f : Int) (neg : Bool) (w : World) :
    Calls Try.prog 98 #[.int .i64 f, .bool neg] w fun e w' => e = .returned (.int .u32 (greI f neg)) ∧ w = w' := by
  rcases fmt_cases f with ⟨rfl, hf⟩ | ⟨rfl, hf⟩ | ⟨⟨c0, c1⟩, hf⟩ <;> obtain ⟨e1, e2, e3, e4, e5, e6, e7, e8, e9⟩ := hf
  all_goals
    go_enter Try.func98, Try.ntmps98
    cases neg
    all_goals
      go_wp2_with (first | (go_at_call 37; refine (inf_any _ _ _).mono ?_; rintro e w' ⟨rfl, rfl⟩))
      go_ret
      exact ⟨ret_int (by simp only [greI, infI, zerI, e3, e4, e5]; decide), rfl⟩

set_option maxHeartbeats 1000000 in
theorem nan_any (f : Int) (w : World) :
    Calls Try.prog 35 #[.int .i64 f] w fun e w' => e = .returned (.int .u32 (nanI f)) ∧ w = w' := by
  rcases fmt_cases f with ⟨rfl, hf⟩ | ⟨rfl, hf⟩ | ⟨⟨c0, c1⟩, hf⟩ <;> obtain ⟨e1, e2, e3, e4, e5, e6, e7, e8, e9⟩ := hf
  all_goals
    go_enter Try.func35, Try.ntmps35
    go_wp2_with (first | (go_at_call 37; refine (inf_any _ _ _).mono ?_; rintro e w' ⟨rfl, rfl⟩) | (go_at_call 57; refine (quietBit_any _ _).mono ?_; rintro e w' ⟨rfl, rfl⟩))
    all_goals
      go_ret
      exact ⟨ret_int (by simp only [nanI, infI, zerI, e3, e4, e5, e7]; decide), rfl⟩

end Go.Proofs.Ytheaeclojljecaa
