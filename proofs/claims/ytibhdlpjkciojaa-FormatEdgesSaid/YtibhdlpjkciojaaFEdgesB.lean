/- The walk of FormatEdges, format 1. -/
import Derived.Test.YtibhdlpjkciojaaFEdgesMath
namespace Go.Proofs.Ytibhdlpjkciojaa
open Go.RowKit
set_option linter.unusedVariables false
set_option linter.unusedSimpArgs false

set_option maxHeartbeats 8000000 in
theorem fedges_1 (a0 : Int) (a1 : Bool) (a2 : Int) (b0 : 0 ≤ a0) (b1 : a0 ≤ 255) (b2 : 0 ≤ a2) (b3 : a2 ≤ 4294967295) (hk : a0 % 3 = 1) (w : World) :
    Calls Try.prog 5 #[.int .u8 a0, .bool a1, .int .u32 a2] w fun e w' => e = .returned (.bool true) ∧ Grown w w' := by
  obtain ⟨e1, e2, e3, e4, e5, e6, e7, e8, e9⟩ : FmtIs 1 8 7 128 255 32768 (-133) 64 65535 127 := by unfold FmtIs; decide
  cases a1
  · have n0 : zerI 1 false = 0 := by decide
    have n1 : infI 1 false = 32640 := by decide
    have n2 : greI 1 false = 32639 := by decide
    have n3 : clsI 1 32639 = 2 := by decide
    have n4 : clsI 1 32640 = 3 := by decide
    have n5 : clsI 1 0 = 0 := by decide
    have n6 : clsI 1 1 = 1 := by decide
    have n7 : finI 1 32639 = true := by decide
    have n8 : finI 1 32640 = false := by decide
    have x0 : 0 ≤ a2 % 127 := by omega
    have x1 : a2 % 127 < 127 := by omega
    generalize hx : a2 % 127 = x at *
    have hX : fX 1 (32641 + x) = 255 := by unfold fX; rw [e3, e4]; omega
    have hF : fF 1 (32641 + x) = x + 1 := by unfold fF; rw [e3]; omega
    have hA := and1_32 ((32641 + x) / 64) (by omega) (by omega)
    have hB : (32641 + x) / 64 % 2 = (x + 1) / 64 := by omega
    rw [hB] at hA
    rcases edge_nan 1 (32641 + x) (x + 1) 64 e4 e3 e7 hX hF (by omega) with ⟨r1, r2, r3⟩ | ⟨r1, r2, r3⟩
    all_goals
      have hC : (x + 1) / 64 = 0 ∨ (x + 1) / 64 = 1 := by omega
      have hD : (x + 1) / 64 = 0 ↔ x + 1 < 64 := by omega
      rcases hC with hC | hC
      all_goals
        first
          | omega
          | (rw [hC] at hA
             clear hX hF hB hC hD e1 e3 e4 e5 e6 e7 e8 e9
             go_enter Try.func5, Try.ntmps5
             go_wp2_with (first
               | (go_at_call 7; refine (known2_any _).mono ?_; rintro e W1 ⟨rfl, hW1⟩)
               | (go_at_call 27; refine (form_any _ _ b0 b1).mono ?_; rintro e W2 ⟨rfl, hW2⟩)
               | (go_at_call 13; refine (finite_any _ _ _ (by omega) (by omega)).mono ?_; rintro e w' ⟨rfl, m, rfl⟩)
               | (go_at_call 11; refine (class_any _ _ _ (by omega) (by omega)).mono ?_; rintro e w' ⟨rfl, m, rfl⟩)
               | (go_at_call 23; refine (greatest_any _ _ _).mono ?_; rintro e w' ⟨rfl, rfl⟩)
               | (go_at_call 21; refine (inf_any _ _ _).mono ?_; rintro e w' ⟨rfl, rfl⟩)
               | (go_at_call 15; refine (widths_any _ _).mono ?_; rintro e w' ⟨rfl, rfl⟩)
               | (go_at_call 19; refine (zero_any _ _ _).mono ?_; rintro e w' ⟨rfl, rfl⟩))
             have hG : Grown w W2 := grown_trans hW1 hW2
             go_ret
             exact ⟨rfl, by first | exact hG | exact grown_more hG _⟩)
  · have n0 : zerI 1 true = 32768 := by decide
    have n1 : infI 1 true = 65408 := by decide
    have n2 : greI 1 true = 65407 := by decide
    have n3 : clsI 1 65407 = 2 := by decide
    have n4 : clsI 1 65408 = 3 := by decide
    have n5 : clsI 1 32768 = 0 := by decide
    have n6 : clsI 1 32769 = 1 := by decide
    have n7 : finI 1 65407 = true := by decide
    have n8 : finI 1 65408 = false := by decide
    have x0 : 0 ≤ a2 % 127 := by omega
    have x1 : a2 % 127 < 127 := by omega
    generalize hx : a2 % 127 = x at *
    have hX : fX 1 (65409 + x) = 255 := by unfold fX; rw [e3, e4]; omega
    have hF : fF 1 (65409 + x) = x + 1 := by unfold fF; rw [e3]; omega
    have hA := and1_32 ((65409 + x) / 64) (by omega) (by omega)
    have hB : (65409 + x) / 64 % 2 = (x + 1) / 64 := by omega
    rw [hB] at hA
    rcases edge_nan 1 (65409 + x) (x + 1) 64 e4 e3 e7 hX hF (by omega) with ⟨r1, r2, r3⟩ | ⟨r1, r2, r3⟩
    all_goals
      have hC : (x + 1) / 64 = 0 ∨ (x + 1) / 64 = 1 := by omega
      have hD : (x + 1) / 64 = 0 ↔ x + 1 < 64 := by omega
      rcases hC with hC | hC
      all_goals
        first
          | omega
          | (rw [hC] at hA
             clear hX hF hB hC hD e1 e3 e4 e5 e6 e7 e8 e9
             go_enter Try.func5, Try.ntmps5
             go_wp2_with (first
               | (go_at_call 7; refine (known2_any _).mono ?_; rintro e W1 ⟨rfl, hW1⟩)
               | (go_at_call 27; refine (form_any _ _ b0 b1).mono ?_; rintro e W2 ⟨rfl, hW2⟩)
               | (go_at_call 13; refine (finite_any _ _ _ (by omega) (by omega)).mono ?_; rintro e w' ⟨rfl, m, rfl⟩)
               | (go_at_call 11; refine (class_any _ _ _ (by omega) (by omega)).mono ?_; rintro e w' ⟨rfl, m, rfl⟩)
               | (go_at_call 23; refine (greatest_any _ _ _).mono ?_; rintro e w' ⟨rfl, rfl⟩)
               | (go_at_call 21; refine (inf_any _ _ _).mono ?_; rintro e w' ⟨rfl, rfl⟩)
               | (go_at_call 15; refine (widths_any _ _).mono ?_; rintro e w' ⟨rfl, rfl⟩)
               | (go_at_call 19; refine (zero_any _ _ _).mono ?_; rintro e w' ⟨rfl, rfl⟩))
             have hG : Grown w W2 := grown_trans hW1 hW2
             go_ret
             exact ⟨rfl, by first | exact hG | exact grown_more hG _⟩)
end Go.Proofs.Ytibhdlpjkciojaa
