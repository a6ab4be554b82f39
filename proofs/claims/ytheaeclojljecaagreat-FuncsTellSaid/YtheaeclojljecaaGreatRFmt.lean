/- Contracts of the reference's formats: what each call comes to. -/
import Derived.Test.YtheaeclojljecaaGreatRows
import Derived.Test.YtheaeclojljecaaGreatMath
import Derived.Deep.QuietTactic
import Derived.BigQuiet
namespace Go.Proofs.YtheaeclojljecaaGreat
open Go.RowKit
set_option linter.unusedVariables false
set_option linter.unusedSimpArgs false

set_option maxHeartbeats 1000000 in
theorem rwidths_any (f : Int) (w : World) :
    Calls Tryz.prog 27 #[.int .i64 f] w fun e w' => e = .returned (.tuple #[.int .i64 (fe f), .int .i64 (fn f)]) ∧ w = w' := by
  rcases fmt_cases f with ⟨rfl, hf⟩ | ⟨rfl, hf⟩ | ⟨⟨c0, c1⟩, hf⟩ <;> obtain ⟨e1, e2, e3, e4, e5, e6, e7, e8, e9⟩ := hf
  all_goals
    go_enter Tryz.func27, Tryz.ntmps27
    go_wp2
    go_ret2
    exact ⟨by rw [e1, e2]; rfl, rfl⟩

set_option maxHeartbeats 1000000 in
theorem rmask_any (f : Int) (w : World) :
    Calls Tryz.prog 28 #[.int .i64 f] w fun e w' => e = .returned (.int .u32 (msk f)) ∧ w = w' := by
  rcases fmt_cases f with ⟨rfl, hf⟩ | ⟨rfl, hf⟩ | ⟨⟨c0, c1⟩, hf⟩ <;> obtain ⟨e1, e2, e3, e4, e5, e6, e7, e8, e9⟩ := hf
  all_goals
    go_enter Tryz.func28, Tryz.ntmps28
    go_wp2_with (first | (go_at_call 27; refine (rwidths_any _ _).mono ?_; rintro e w' ⟨rfl, rfl⟩))
    go_ret
    exact ⟨by rw [e8]; rfl, rfl⟩

set_option maxHeartbeats 1000000 in
theorem rparts_any (f : Int) (v : Int) (w : World) (h0 : 0 ≤ v) (h1 : v ≤ 4294967295) :
    Calls Tryz.prog 52 #[.int .i64 f, .int .u32 v] w fun e w' => e = .returned (.tuple #[.bool (fS f v), .int .i64 (fX f v), .int .u64 (fF f v)]) ∧ ∃ m, w' = w.drewN m := by
  have q1 := fX_bd f v
  have q2 := fF_bd f v
  have kc := cls_cases f v
  rcases fmt_cases f with ⟨rfl, hf⟩ | ⟨rfl, hf⟩ | ⟨⟨c0, c1⟩, hf⟩ <;> obtain ⟨e1, e2, e3, e4, e5, e6, e7, e8, e9⟩ := hf
  all_goals
    rw [e4] at q1
    rw [e3] at q2
    rw [e4, e7] at kc
    go_enter Tryz.func52, Tryz.ntmps52
    go_wp2_with (first | (go_at_call 27; refine (rwidths_any _ _).mono ?_; rintro e w' ⟨rfl, rfl⟩) | (go_at_call 28; refine (rmask_any _ _).mono ?_; rintro e w' ⟨rfl, rfl⟩))
    try (go_quiet (fail); go_wp2)
    go_ret3
    refine ⟨ret_unp ?_ ?_ ?_, _, rfl⟩
    · first | exact rparts_s _ v 16 15 h0 h1 (by decide) (by decide) (by decide) rfl e5 | exact rparts_s _ v 32 31 h0 h1 (by decide) (by decide) (by decide) rfl e5
    · try rw [and32 v 16 (p := 65536) h0 h1 (by decide) (by decide) (by decide)]
      try rw [and32 v 32 (p := 4294967296) h0 h1 (by decide) (by decide) (by decide)]
      unfold fX; rw [e3, e4]
      try rw [and32 _ 5 (p := 32) (by omega) (by omega) (by decide) (by decide) (by decide)]
      try rw [and32 _ 8 (p := 256) (by omega) (by omega) (by decide) (by decide) (by decide)]
      simp only [wrap64]; omega
    · try rw [and32 v 16 (p := 65536) h0 h1 (by decide) (by decide) (by decide)]
      try rw [and32 v 32 (p := 4294967296) h0 h1 (by decide) (by decide) (by decide)]
      unfold fF; rw [e3]
      try rw [and32 _ 10 (p := 1024) (by omega) (by omega) (by decide) (by decide) (by decide)]
      try rw [and32 _ 7 (p := 128) (by omega) (by omega) (by decide) (by decide) (by decide)]
      try rw [and32 _ 23 (p := 8388608) (by omega) (by omega) (by decide) (by decide) (by decide)]
      rw [IntKind.wrap_u64]; omega

set_option maxHeartbeats 1000000 in
theorem rclass_any (f : Int) (v : Int) (w : World) (h0 : 0 ≤ v) (h1 : v ≤ 4294967295) :
    Calls Tryz.prog 24 #[.int .i64 f, .int .u32 v] w fun e w' => e = .returned (.int .i64 (clsI f v)) ∧ ∃ m, w' = w.drewN m := by
  have q1 := fX_bd f v
  have q2 := fF_bd f v
  have kc := cls_cases f v
  rcases fmt_cases f with ⟨rfl, hf⟩ | ⟨rfl, hf⟩ | ⟨⟨c0, c1⟩, hf⟩ <;> obtain ⟨e1, e2, e3, e4, e5, e6, e7, e8, e9⟩ := hf
  all_goals
    rw [e4] at q1
    rw [e3] at q2
    rw [e4, e7] at kc
    go_enter Tryz.func24, Tryz.ntmps24
    go_wp2_with (first | (go_at_call 27; refine (rwidths_any _ _).mono ?_; rintro e w' ⟨rfl, rfl⟩) | (go_at_call 52; refine (rparts_any _ _ _ h0 h1).mono ?_; rintro e w' ⟨rfl, m, rfl⟩))
    all_goals
      go_ret
      exact ⟨ret_int (by unfold clsI; rw [e4, e7]; simp only [beq_iff_eq, beq_eq_false_iff_ne, ne_eq, decide_eq_true_eq, decide_eq_false_iff_not] at *; (repeat' split) <;> omega), _, rfl⟩

set_option maxHeartbeats 1000000 in
theorem rfinite_any (f : Int) (v : Int) (w : World) (h0 : 0 ≤ v) (h1 : v ≤ 4294967295) :
    Calls Tryz.prog 68 #[.int .i64 f, .int .u32 v] w fun e w' => e = .returned (.bool (finI f v)) ∧ ∃ m, w' = w.drewN m := by
  have q1 := fX_bd f v
  have q2 := fF_bd f v
  have kc := cls_cases f v
  rcases fmt_cases f with ⟨rfl, hf⟩ | ⟨rfl, hf⟩ | ⟨⟨c0, c1⟩, hf⟩ <;> obtain ⟨e1, e2, e3, e4, e5, e6, e7, e8, e9⟩ := hf
  all_goals
    rw [e4] at q1
    rw [e3] at q2
    rw [e4, e7] at kc
    go_enter Tryz.func68, Tryz.ntmps68
    go_wp2_with (first | (go_at_call 24; refine (rclass_any _ _ _ h0 h1).mono ?_; rintro e w' ⟨rfl, m, rfl⟩))
    all_goals
      go_ret
      exact ⟨ret_bool (by unfold finI clsI; rw [e4, e7]; (repeat' split) <;> simp <;> omega), _, rfl⟩

set_option maxHeartbeats 1000000 in
theorem rbias_any (f : Int) (w : World) :
    Calls Tryz.prog 79 #[.int .i64 f] w fun e w' => e = .returned (.int .i64 (bia f)) ∧ w = w' := by
  rcases fmt_cases f with ⟨rfl, hf⟩ | ⟨rfl, hf⟩ | ⟨⟨c0, c1⟩, hf⟩ <;> obtain ⟨e1, e2, e3, e4, e5, e6, e7, e8, e9⟩ := hf
  all_goals
    go_enter Tryz.func79, Tryz.ntmps79
    go_wp2_with (first | (go_at_call 27; refine (rwidths_any _ _).mono ?_; rintro e w' ⟨rfl, rfl⟩))
    go_ret
    exact ⟨by rw [e9]; rfl, rfl⟩

set_option maxHeartbeats 1000000 in
theorem runpack_any (f : Int) (v : Int) (w : World) (h0 : 0 ≤ v) (h1 : v ≤ 4294967295) :
    Calls Tryz.prog 41 #[.int .i64 f, .int .u32 v] w fun e w' => e = .returned (.tuple #[.bool (fS f v), .int .i64 (unE f v), .int .u64 (unM f v)]) ∧ ∃ m, w' = w.drewN m := by
  have q1 := fX_bd f v
  have q2 := fF_bd f v
  have kc := cls_cases f v
  rcases fmt_cases f with ⟨rfl, hf⟩ | ⟨rfl, hf⟩ | ⟨⟨c0, c1⟩, hf⟩ <;> obtain ⟨e1, e2, e3, e4, e5, e6, e7, e8, e9⟩ := hf
  all_goals
    rw [e4] at q1
    rw [e3] at q2
    rw [e4, e7] at kc
    go_enter Tryz.func41, Tryz.ntmps41
    go_wp2_with (first | (go_at_call 27; refine (rwidths_any _ _).mono ?_; rintro e w' ⟨rfl, rfl⟩) | (go_at_call 52; refine (rparts_any _ _ _ h0 h1).mono ?_; rintro e W1 ⟨rfl, hW1⟩) | (go_at_call 24; refine (rclass_any _ _ _ h0 h1).mono ?_; rintro e W2 ⟨rfl, hW2⟩) | (go_at_call 79; refine (rbias_any _ _).mono ?_; rintro e w' ⟨rfl, rfl⟩))
    go_quiet ((go_at_call 79; exact quiet_same (rbias_any _ _)))
    all_goals (try go_wp2)
    all_goals
      go_ret3
      refine ⟨ret_unp ?_ ?_ ?_, by obtain ⟨a, rfl⟩ := hW1; obtain ⟨b, rfl⟩ := hW2; simp only [World.drewN_drewN]; exact ⟨_, rfl⟩⟩
      · rfl
      · simp only [beq_iff_eq, beq_eq_false_iff_ne, ne_eq] at *; unfold unE; rw [e4, e6]; (repeat' split) <;> omega
      · try rw [un_or64 _ v 10 (by decide) e3 (by decide)]
        try rw [un_or64 _ v 7 (by decide) e3 (by decide)]
        try rw [un_or64 _ v 23 (by decide) e3 (by decide)]
        simp only [beq_iff_eq, beq_eq_false_iff_ne, ne_eq] at *; unfold unM; rw [e4, e3]; (repeat' split) <;> omega

set_option maxHeartbeats 1000000 in
theorem rsign_any (f : Int) (neg : Bool) (w : World) :
    Calls Tryz.prog 54 #[.int .i64 f, .bool neg] w fun e w' => e = .returned (.int .u32 (zerI f neg)) ∧ w = w' := by
  rcases fmt_cases f with ⟨rfl, hf⟩ | ⟨rfl, hf⟩ | ⟨⟨c0, c1⟩, hf⟩ <;> obtain ⟨e1, e2, e3, e4, e5, e6, e7, e8, e9⟩ := hf
  all_goals
    go_enter Tryz.func54, Tryz.ntmps54
    cases neg
    all_goals
      go_wp2_with (first | (go_at_call 27; refine (rwidths_any _ _).mono ?_; rintro e w' ⟨rfl, rfl⟩))
      go_ret
      exact ⟨by simp only [zerI, e5]; rfl, rfl⟩

set_option maxHeartbeats 1000000 in
theorem rzero_any (f : Int) (neg : Bool) (w : World) :
    Calls Tryz.prog 29 #[.int .i64 f, .bool neg] w fun e w' => e = .returned (.int .u32 (zerI f neg)) ∧ w = w' := by
  rcases fmt_cases f with ⟨rfl, hf⟩ | ⟨rfl, hf⟩ | ⟨⟨c0, c1⟩, hf⟩ <;> obtain ⟨e1, e2, e3, e4, e5, e6, e7, e8, e9⟩ := hf
  all_goals
    go_enter Tryz.func29, Tryz.ntmps29
    go_wp2_with (first | (go_at_call 54; refine (rsign_any _ _ _).mono ?_; rintro e w' ⟨rfl, rfl⟩))
    go_ret
    exact ⟨rfl, rfl⟩

set_option maxHeartbeats 1000000 in
theorem rinf_any (f : Int) (neg : Bool) (w : World) :
    Calls Tryz.prog 87 #[.int .i64 f, .bool neg] w fun e w' => e = .returned (.int .u32 (infI f neg)) ∧ ∃ m, w' = w.drewN m := by
  rcases fmt_cases f with ⟨rfl, hf⟩ | ⟨rfl, hf⟩ | ⟨⟨c0, c1⟩, hf⟩ <;> obtain ⟨e1, e2, e3, e4, e5, e6, e7, e8, e9⟩ := hf
  all_goals
    go_enter Tryz.func87, Tryz.ntmps87
    cases neg
    all_goals
      go_wp2_with (first | (go_at_call 27; refine (rwidths_any _ _).mono ?_; rintro e w' ⟨rfl, rfl⟩))
      go_quiet ((go_at_call 54; exact quiet_same (rsign_any _ _ _)))
      go_wp2
      go_ret
      exact ⟨ret_int (by simp only [infI, zerI, e3, e4, e5]; decide), _, rfl⟩

set_option maxHeartbeats 1000000 in
theorem rgreatest_any (f : Int) (neg : Bool) (w : World) :
    Calls Tryz.prog 134 #[.int .i64 f, .bool neg] w fun e w' => e = .returned (.int .u32 (greI f neg)) ∧ ∃ m, w' = w.drewN m := by
  rcases fmt_cases f with ⟨rfl, hf⟩ | ⟨rfl, hf⟩ | ⟨⟨c0, c1⟩, hf⟩ <;> obtain ⟨e1, e2, e3, e4, e5, e6, e7, e8, e9⟩ := hf
  all_goals
    go_enter Tryz.func134, Tryz.ntmps134
    cases neg
    all_goals
      go_wp2_with (first | (go_at_call 87; refine (rinf_any _ _ _).mono ?_; rintro e w' ⟨rfl, m, rfl⟩))
      go_ret
      exact ⟨ret_int (by simp only [greI, infI, zerI, e3, e4, e5]; decide), _, rfl⟩

set_option maxHeartbeats 1000000 in
theorem rnan_any (f : Int) (w : World) :
    Calls Tryz.prog 83 #[.int .i64 f] w fun e w' => e = .returned (.int .u32 (nanI f)) ∧ ∃ m, w' = w.drewN m := by
  rcases fmt_cases f with ⟨rfl, hf⟩ | ⟨rfl, hf⟩ | ⟨⟨c0, c1⟩, hf⟩ <;> obtain ⟨e1, e2, e3, e4, e5, e6, e7, e8, e9⟩ := hf
  all_goals
    go_enter Tryz.func83, Tryz.ntmps83
    go_wp2_with (first | (go_at_call 27; refine (rwidths_any _ _).mono ?_; rintro e w' ⟨rfl, rfl⟩))
    go_quiet ((go_at_call 87; exact quiet_drew (rinf_any _ _ _)))
    go_wp2
    all_goals
      go_ret
      exact ⟨ret_int (by simp only [nanI, infI, zerI, e3, e4, e5, e7]; decide), _, rfl⟩
end Go.Proofs.YtheaeclojljecaaGreat
