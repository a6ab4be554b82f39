/- Contracts of the reference's formats: what each call comes to. -/
import Derived.Test.YtheaeclojljecaaRows
import Derived.Test.YtheaeclojljecaaMath
import Derived.Deep.QuietTactic
import Derived.BigQuiet
namespace Go.Proofs.Ytheaeclojljecaa
open Go.RowKit
set_option linter.unusedVariables false
set_option linter.unusedSimpArgs false

set_option maxHeartbeats 1000000 in
theorem rwidths_any (f : Int) (w : World) :
    Calls Try.prog 27 #[.int .i64 f] w fun e w' => e = .returned (.tuple #[.int .i64 (fe f), .int .i64 (fn f)]) ∧ w = w' := by
  rcases fmt_cases f with ⟨rfl, hf⟩ | ⟨rfl, hf⟩ | ⟨⟨c0, c1⟩, hf⟩ <;> obtain ⟨e1, e2, e3, e4, e5, e6, e7, e8, e9⟩ := hf
  all_goals
    go_enter Try.func27, Try.ntmps27
    go_wp2
    go_ret2
    exact ⟨by rw [e1, e2]; rfl, rfl⟩

set_option maxHeartbeats 1000000 in
theorem rmask_any (f : Int) (w : World) :
    Calls Try.prog 30 #[.int .i64 f] w fun e w' => e = .returned (.int .u32 (msk f)) ∧ w = w' := by
  rcases fmt_cases f with ⟨rfl, hf⟩ | ⟨rfl, hf⟩ | ⟨⟨c0, c1⟩, hf⟩ <;> obtain ⟨e1, e2, e3, e4, e5, e6, e7, e8, e9⟩ := hf
  all_goals
    go_enter Try.func30, Try.ntmps30
    go_wp2_with (first | (go_at_call 27; refine (rwidths_any _ _).mono ?_; rintro e w' ⟨rfl, rfl⟩))
    go_ret
    exact ⟨by rw [e8]; rfl, rfl⟩

set_option maxHeartbeats 1000000 in
theorem rparts_any (f : Int) (v : Int) (w : World) (h0 : 0 ≤ v) (h1 : v ≤ 4294967295) :
    Calls Try.prog 28 #[.int .i64 f, .int .u32 v] w fun e w' => e = .returned (.tuple #[.bool (fS f v), .int .i64 (fX f v), .int .u64 (fF f v)]) ∧ ∃ m, w' = w.drewN m := by
  have q1 := fX_bd f v
  have q2 := fF_bd f v
  have kc := cls_cases f v
  rcases fmt_cases f with ⟨rfl, hf⟩ | ⟨rfl, hf⟩ | ⟨⟨c0, c1⟩, hf⟩ <;> obtain ⟨e1, e2, e3, e4, e5, e6, e7, e8, e9⟩ := hf
  all_goals
    rw [e4] at q1
    rw [e3] at q2
    rw [e4, e7] at kc
    go_enter Try.func28, Try.ntmps28
    go_wp2_with (first | (go_at_call 27; refine (rwidths_any _ _).mono ?_; rintro e w' ⟨rfl, rfl⟩) | (go_at_call 30; refine (rmask_any _ _).mono ?_; rintro e w' ⟨rfl, rfl⟩))
    try (go_quiet (fail); go_wp2)
    go_ret3
    refine ⟨ret_unp ?_ ?_ ?_, _, rfl⟩
    · first | exact rparts_s _ v 16 15 h0 h1 (by decide) (by decide) (by decide) rfl e5 | exact rparts_s _ v 32 31 h0 h1 (by decide) (by decide) (by decide) rfl e5
    · try rw [and32 v 16 (p := 65536) h0 h1 (by decide) (by decide) (by decide)]
      try rw [and32 v 32 (p := 4294967296) h0 h1 (by decide) (by decide) (by decide)]
      unfold fX; rw [e3, e4]
      try rw [and32 _ 5 (p := 32) (by omega) (by omega) (by decide) (by decide) (by decide)]
      try rw [and32 _ 8 (p := 256) (by omega) (by omega) (by decide) (by decide) (by decide)]
      simp only [wrap64]; omega
    · try rw [and32 v 16 (p := 65536) h0 h1 (by decide) (by decide) (by decide)]
      try rw [and32 v 32 (p := 4294967296) h0 h1 (by decide) (by decide) (by decide)]
      unfold fF; rw [e3]
      try rw [and32 _ 10 (p := 1024) (by omega) (by omega) (by decide) (by decide) (by decide)]
      try rw [and32 _ 7 (p := 128) (by omega) (by omega) (by decide) (by decide) (by decide)]
      try rw [and32 _ 23 (p := 8388608) (by omega) (by omega) (by decide) (by decide) (by decide)]
      rw [IntKind.wrap_u64]; omega

set_option maxHeartbeats 1000000 in
theorem rclass_any (f : Int) (v : Int) (w : World) (h0 : 0 ≤ v) (h1 : v ≤ 4294967295) :
    Calls Try.prog 14 #[.int .i64 f, .int .u32 v] w fun e w' => e = .returned (.int .i64 (clsI f v)) ∧ ∃ m, w' = w.drewN m := by
  have q1 := fX_bd f v
  have q2 := fF_bd f v
  have kc := cls_cases f v
  rcases fmt_cases f with ⟨rfl, hf⟩ | ⟨rfl, hf⟩ | ⟨⟨c0, c1⟩, hf⟩ <;> obtain ⟨e1, e2, e3, e4, e5, e6, e7, e8, e9⟩ := hf
  all_goals
    rw [e4] at q1
    rw [e3] at q2
    rw [e4, e7] at kc
    go_enter Try.func14, Try.ntmps14
    go_wp2_with (first | (go_at_call 27; refine (rwidths_any _ _).mono ?_; rintro e w' ⟨rfl, rfl⟩) | (go_at_call 28; refine (rparts_any _ _ _ h0 h1).mono ?_; rintro e w' ⟨rfl, m, rfl⟩))
    all_goals
      go_ret
      exact ⟨ret_int (by unfold clsI; rw [e4, e7]; simp only [beq_iff_eq, beq_eq_false_iff_ne, ne_eq, decide_eq_true_eq, decide_eq_false_iff_not] at *; (repeat' split) <;> omega), _, rfl⟩

set_option maxHeartbeats 1000000 in
theorem rfinite_any (f : Int) (v : Int) (w : World) (h0 : 0 ≤ v) (h1 : v ≤ 4294967295) :
    Calls Try.prog 17 #[.int .i64 f, .int .u32 v] w fun e w' => e = .returned (.bool (finI f v)) ∧ ∃ m, w' = w.drewN m := by
  have q1 := fX_bd f v
  have q2 := fF_bd f v
  have kc := cls_cases f v
  rcases fmt_cases f with ⟨rfl, hf⟩ | ⟨rfl, hf⟩ | ⟨⟨c0, c1⟩, hf⟩ <;> obtain ⟨e1, e2, e3, e4, e5, e6, e7, e8, e9⟩ := hf
  all_goals
    rw [e4] at q1
    rw [e3] at q2
    rw [e4, e7] at kc
    go_enter Try.func17, Try.ntmps17
    go_wp2_with (first | (go_at_call 14; refine (rclass_any _ _ _ h0 h1).mono ?_; rintro e w' ⟨rfl, m, rfl⟩))
    all_goals
      go_ret
      exact ⟨ret_bool (by unfold finI clsI; rw [e4, e7]; (repeat' split) <;> simp <;> omega), _, rfl⟩

set_option maxHeartbeats 1000000 in
theorem rsign_any (f : Int) (neg : Bool) (w : World) :
    Calls Try.prog 31 #[.int .i64 f, .bool neg] w fun e w' => e = .returned (.int .u32 (zerI f neg)) ∧ w = w' := by
  rcases fmt_cases f with ⟨rfl, hf⟩ | ⟨rfl, hf⟩ | ⟨⟨c0, c1⟩, hf⟩ <;> obtain ⟨e1, e2, e3, e4, e5, e6, e7, e8, e9⟩ := hf
  all_goals
    go_enter Try.func31, Try.ntmps31
    cases neg
    all_goals
      go_wp2_with (first | (go_at_call 27; refine (rwidths_any _ _).mono ?_; rintro e w' ⟨rfl, rfl⟩))
      go_ret
      exact ⟨by simp only [zerI, e5]; rfl, rfl⟩

set_option maxHeartbeats 1000000 in
theorem rzero_any (f : Int) (neg : Bool) (w : World) :
    Calls Try.prog 29 #[.int .i64 f, .bool neg] w fun e w' => e = .returned (.int .u32 (zerI f neg)) ∧ w = w' := by
  rcases fmt_cases f with ⟨rfl, hf⟩ | ⟨rfl, hf⟩ | ⟨⟨c0, c1⟩, hf⟩ <;> obtain ⟨e1, e2, e3, e4, e5, e6, e7, e8, e9⟩ := hf
  all_goals
    go_enter Try.func29, Try.ntmps29
    go_wp2_with (first | (go_at_call 31; refine (rsign_any _ _ _).mono ?_; rintro e w' ⟨rfl, rfl⟩))
    go_ret
    exact ⟨rfl, rfl⟩

end Go.Proofs.Ytheaeclojljecaa
