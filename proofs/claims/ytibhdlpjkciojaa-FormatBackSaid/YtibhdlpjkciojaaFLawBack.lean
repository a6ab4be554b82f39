/- The walk of FormatBack. -/
import Derived.Test.YtibhdlpjkciojaaFKnown
namespace Go.Proofs.Ytibhdlpjkciojaa
open Go.RowKit
set_option linter.unusedVariables false
set_option linter.unusedSimpArgs false

set_option maxHeartbeats 4000000 in
theorem fback_walk (a0 a1 : Int) (w0 : (Lit.int .u8 a0).wf = true) (w1 : (Lit.int .u32 a1).wf = true) (w : World) :
    Calls Try.prog 4 #[.int .u8 a0, .int .u32 a1] w fun e w' => e = .returned (.bool true) ∧ Grown w w' := by
  obtain ⟨b0, b1⟩ := bounds_u8 w0
  obtain ⟨b2, b3⟩ := bounds_u32 w1
  clear w0 w1
  rcases fmt3 (a0 % 3) (by omega) (by omega) with ⟨hk, hf⟩ | ⟨hk, hf⟩ | ⟨hk, hf⟩ <;> obtain ⟨e1, e2, e3, e4, e5, e6, e7, e8, e9⟩ := hf
  · have hx := and32 a1 16 (m := 65535) (p := 65536) b2 b3 (by decide) (by decide) (by decide)
    have z0 : unE 0 0 = -24 := by decide
    have y0 : 0 ≤ a1 % 65536 := by omega
    have y1 : a1 % 65536 ≤ 65535 := by omega
    generalize hy : a1 % 65536 = x at *
    have q1 := fX_bd 0 x
    have q2 := fF_bd 0 x
    rw [e4] at q1
    rw [e3] at q2
    rcases three_ways 0 x with ⟨r1, r2, r3⟩ | ⟨r1, r2, r3, r4⟩ | ⟨r0, r1, r2, r3, r4⟩
    all_goals
      go_enter Try.func4, Try.ntmps4
      go_wp2_with (first
        | (go_at_call 7; refine (known2_any _).mono ?_; rintro e W1 ⟨rfl, hW1⟩)
        | (go_at_call 27; refine (form_any _ _ b0 b1).mono ?_; rintro e W2 ⟨rfl, hW2⟩)
        | (go_at_call 17; refine (mask_any _ _).mono ?_; rintro e w' ⟨rfl, rfl⟩)
        | (go_at_call 13; refine (finite_any _ _ _ (by omega) (by omega)).mono ?_; rintro e w' ⟨rfl, m, rfl⟩)
        | (go_at_call 11; refine (class_any _ _ _ (by omega) (by omega)).mono ?_; rintro e w' ⟨rfl, m, rfl⟩)
        | (go_at_call 9; refine (unpack_any _ _ _ (by omega) (by omega)).mono ?_; rintro e w' ⟨rfl, m, rfl⟩)
        | (go_at_call 15; refine (widths_any _ _).mono ?_; rintro e w' ⟨rfl, rfl⟩)
        | (go_at_call 19; refine (zero_any _ _ _).mono ?_; rintro e w' ⟨rfl, rfl⟩))
    rotate_left 2
    go_quiet (fail)
    go_wp2_with (go_at_call 19; refine (zero_any _ _ _).mono ?_; rintro e w' ⟨rfl, rfl⟩)
    all_goals
      have hG : Grown w W2 := grown_trans hW1 hW2
      go_ret
      refine ⟨ret_bool ?_, by first | exact hG | exact grown_more hG _⟩
    all_goals
      have q3 := parts_sum 0 x y0 (by rw [e8]; exact y1)
      simp only [e3] at q3
      have q4 := or_zer 0
      simp only [e5] at q4
      have q5 := and32 (fF 0 x + 1024) 10 (m := 1023) (p := 1024) (by omega) (by omega) (by decide) (by decide) (by decide)
      first
        | rfl
        | (rw [q4 _ _ q2.1 (by omega)]; simp only [beq_iff_eq]; omega)
        | (rw [q5, show (fF 0 x + 1024) % 1024 = fF 0 x by omega, or_expo (fF 0 x) (fX 0 x) 1024 10 (by decide) (by omega) (by omega) (by omega) (by omega) (by omega), q4 _ _ (by omega) (by omega)]; simp only [beq_iff_eq]; omega)
  · have hx := and32 a1 16 (m := 65535) (p := 65536) b2 b3 (by decide) (by decide) (by decide)
    have z0 : unE 1 0 = -133 := by decide
    have y0 : 0 ≤ a1 % 65536 := by omega
    have y1 : a1 % 65536 ≤ 65535 := by omega
    generalize hy : a1 % 65536 = x at *
    have q1 := fX_bd 1 x
    have q2 := fF_bd 1 x
    rw [e4] at q1
    rw [e3] at q2
    rcases three_ways 1 x with ⟨r1, r2, r3⟩ | ⟨r1, r2, r3, r4⟩ | ⟨r0, r1, r2, r3, r4⟩
    all_goals
      go_enter Try.func4, Try.ntmps4
      go_wp2_with (first
        | (go_at_call 7; refine (known2_any _).mono ?_; rintro e W1 ⟨rfl, hW1⟩)
        | (go_at_call 27; refine (form_any _ _ b0 b1).mono ?_; rintro e W2 ⟨rfl, hW2⟩)
        | (go_at_call 17; refine (mask_any _ _).mono ?_; rintro e w' ⟨rfl, rfl⟩)
        | (go_at_call 13; refine (finite_any _ _ _ (by omega) (by omega)).mono ?_; rintro e w' ⟨rfl, m, rfl⟩)
        | (go_at_call 11; refine (class_any _ _ _ (by omega) (by omega)).mono ?_; rintro e w' ⟨rfl, m, rfl⟩)
        | (go_at_call 9; refine (unpack_any _ _ _ (by omega) (by omega)).mono ?_; rintro e w' ⟨rfl, m, rfl⟩)
        | (go_at_call 15; refine (widths_any _ _).mono ?_; rintro e w' ⟨rfl, rfl⟩)
        | (go_at_call 19; refine (zero_any _ _ _).mono ?_; rintro e w' ⟨rfl, rfl⟩))
    rotate_left 2
    go_quiet (fail)
    go_wp2_with (go_at_call 19; refine (zero_any _ _ _).mono ?_; rintro e w' ⟨rfl, rfl⟩)
    all_goals
      have hG : Grown w W2 := grown_trans hW1 hW2
      go_ret
      refine ⟨ret_bool ?_, by first | exact hG | exact grown_more hG _⟩
    all_goals
      have q3 := parts_sum 1 x y0 (by rw [e8]; exact y1)
      simp only [e3] at q3
      have q4 := or_zer 1
      simp only [e5] at q4
      have q5 := and32 (fF 1 x + 128) 7 (m := 127) (p := 128) (by omega) (by omega) (by decide) (by decide) (by decide)
      first
        | rfl
        | (rw [q4 _ _ q2.1 (by omega)]; simp only [beq_iff_eq]; omega)
        | (rw [q5, show (fF 1 x + 128) % 128 = fF 1 x by omega, or_expo (fF 1 x) (fX 1 x) 128 7 (by decide) (by omega) (by omega) (by omega) (by omega) (by omega), q4 _ _ (by omega) (by omega)]; simp only [beq_iff_eq]; omega)
  · have hx := and32 a1 32 (m := 4294967295) (p := 4294967296) b2 b3 (by decide) (by decide) (by decide)
    have z0 : unE 2 0 = -149 := by decide
    have y0 : 0 ≤ a1 % 4294967296 := by omega
    have y1 : a1 % 4294967296 ≤ 4294967295 := by omega
    generalize hy : a1 % 4294967296 = x at *
    have q1 := fX_bd 2 x
    have q2 := fF_bd 2 x
    rw [e4] at q1
    rw [e3] at q2
    rcases three_ways 2 x with ⟨r1, r2, r3⟩ | ⟨r1, r2, r3, r4⟩ | ⟨r0, r1, r2, r3, r4⟩
    all_goals
      go_enter Try.func4, Try.ntmps4
      go_wp2_with (first
        | (go_at_call 7; refine (known2_any _).mono ?_; rintro e W1 ⟨rfl, hW1⟩)
        | (go_at_call 27; refine (form_any _ _ b0 b1).mono ?_; rintro e W2 ⟨rfl, hW2⟩)
        | (go_at_call 17; refine (mask_any _ _).mono ?_; rintro e w' ⟨rfl, rfl⟩)
        | (go_at_call 13; refine (finite_any _ _ _ (by omega) (by omega)).mono ?_; rintro e w' ⟨rfl, m, rfl⟩)
        | (go_at_call 11; refine (class_any _ _ _ (by omega) (by omega)).mono ?_; rintro e w' ⟨rfl, m, rfl⟩)
        | (go_at_call 9; refine (unpack_any _ _ _ (by omega) (by omega)).mono ?_; rintro e w' ⟨rfl, m, rfl⟩)
        | (go_at_call 15; refine (widths_any _ _).mono ?_; rintro e w' ⟨rfl, rfl⟩)
        | (go_at_call 19; refine (zero_any _ _ _).mono ?_; rintro e w' ⟨rfl, rfl⟩))
    rotate_left 2
    go_quiet (fail)
    go_wp2_with (go_at_call 19; refine (zero_any _ _ _).mono ?_; rintro e w' ⟨rfl, rfl⟩)
    all_goals
      have hG : Grown w W2 := grown_trans hW1 hW2
      go_ret
      refine ⟨ret_bool ?_, by first | exact hG | exact grown_more hG _⟩
    all_goals
      have q3 := parts_sum 2 x y0 (by rw [e8]; exact y1)
      simp only [e3] at q3
      have q4 := or_zer 2
      simp only [e5] at q4
      have q5 := and32 (fF 2 x + 8388608) 23 (m := 8388607) (p := 8388608) (by omega) (by omega) (by decide) (by decide) (by decide)
      first
        | rfl
        | (rw [q4 _ _ q2.1 (by omega)]; simp only [beq_iff_eq]; omega)
        | (rw [q5, show (fF 2 x + 8388608) % 8388608 = fF 2 x by omega, or_expo (fF 2 x) (fX 2 x) 8388608 23 (by decide) (by omega) (by omega) (by omega) (by omega) (by omega), q4 _ _ (by omega) (by omega)]; simp only [beq_iff_eq]; omega)
end Go.Proofs.Ytibhdlpjkciojaa
