/- The walk of FormatEdges, format 0. -/
import Derived.Test.YtibhdlpjkciojaaFEdgesMath
namespace Go.Proofs.Ytibhdlpjkciojaa
open Go.RowKit
set_option linter.unusedVariables false
set_option linter.unusedSimpArgs false

set_option maxHeartbeats 8000000 in
theorem fedges_0 (a0 : Int) (a1 : Bool) (a2 : Int) (b0 : 0 ≤ a0) (b1 : a0 ≤ 255) (b2 : 0 ≤ a2) (b3 : a2 ≤ 4294967295) (hk : a0 % 3 = 0) (w : World) :
    Calls Try.prog 5 #[.int .u8 a0, .bool a1, .int .u32 a2] w fun e w' => e = .returned (.bool true) ∧ Grown w w' := by
  obtain ⟨e1, e2, e3, e4, e5, e6, e7, e8, e9⟩ : FmtIs 0 5 10 1024 31 32768 (-24) 512 65535 15 := by unfold FmtIs; decide
  cases a1
  · have n0 : zerI 0 false = 0 := by decide
    have n1 : infI 0 false = 31744 := by decide
    have n2 : greI 0 false = 31743 := by decide
    have n3 : clsI 0 31743 = 2 := by decide
    have n4 : clsI 0 31744 = 3 := by decide
    have n5 : clsI 0 0 = 0 := by decide
    have n6 : clsI 0 1 = 1 := by decide
    have n7 : finI 0 31743 = true := by decide
    have n8 : finI 0 31744 = false := by decide
    have x0 : 0 ≤ a2 % 1023 := by omega
    have x1 : a2 % 1023 < 1023 := by omega
    generalize hx : a2 % 1023 = x at *
    have hX : fX 0 (31745 + x) = 31 := by unfold fX; rw [e3, e4]; omega
    have hF : fF 0 (31745 + x) = x + 1 := by unfold fF; rw [e3]; omega
    have hA := and1_32 ((31745 + x) / 512) (by omega) (by omega)
    have hB : (31745 + x) / 512 % 2 = (x + 1) / 512 := by omega
    rw [hB] at hA
    rcases edge_nan 0 (31745 + x) (x + 1) 512 e4 e3 e7 hX hF (by omega) with ⟨r1, r2, r3⟩ | ⟨r1, r2, r3⟩
    all_goals
      have hC : (x + 1) / 512 = 0 ∨ (x + 1) / 512 = 1 := by omega
      have hD : (x + 1) / 512 = 0 ↔ x + 1 < 512 := by omega
      rcases hC with hC | hC
      all_goals
        first
          | omega
          | (rw [hC] at hA
             clear hX hF hB hC hD e1 e3 e4 e5 e6 e7 e8 e9
             go_enter Try.func5, Try.ntmps5
             go_wp2_with (first
               | (go_at_call 7; refine (known2_any _).mono ?_; rintro e W1 ⟨rfl, hW1⟩)
               | (go_at_call 27; refine (form_any _ _ b0 b1).mono ?_; rintro e W2 ⟨rfl, hW2⟩)
               | (go_at_call 13; refine (finite_any _ _ _ (by omega) (by omega)).mono ?_; rintro e w' ⟨rfl, m, rfl⟩)
               | (go_at_call 11; refine (class_any _ _ _ (by omega) (by omega)).mono ?_; rintro e w' ⟨rfl, m, rfl⟩)
               | (go_at_call 23; refine (greatest_any _ _ _).mono ?_; rintro e w' ⟨rfl, rfl⟩)
               | (go_at_call 21; refine (inf_any _ _ _).mono ?_; rintro e w' ⟨rfl, rfl⟩)
               | (go_at_call 15; refine (widths_any _ _).mono ?_; rintro e w' ⟨rfl, rfl⟩)
               | (go_at_call 19; refine (zero_any _ _ _).mono ?_; rintro e w' ⟨rfl, rfl⟩))
             have hG : Grown w W2 := grown_trans hW1 hW2
             go_ret
             exact ⟨rfl, by first | exact hG | exact grown_more hG _⟩)
  · have n0 : zerI 0 true = 32768 := by decide
    have n1 : infI 0 true = 64512 := by decide
    have n2 : greI 0 true = 64511 := by decide
    have n3 : clsI 0 64511 = 2 := by decide
    have n4 : clsI 0 64512 = 3 := by decide
    have n5 : clsI 0 32768 = 0 := by decide
    have n6 : clsI 0 32769 = 1 := by decide
    have n7 : finI 0 64511 = true := by decide
    have n8 : finI 0 64512 = false := by decide
    have x0 : 0 ≤ a2 % 1023 := by omega
    have x1 : a2 % 1023 < 1023 := by omega
    generalize hx : a2 % 1023 = x at *
    have hX : fX 0 (64513 + x) = 31 := by unfold fX; rw [e3, e4]; omega
    have hF : fF 0 (64513 + x) = x + 1 := by unfold fF; rw [e3]; omega
    have hA := and1_32 ((64513 + x) / 512) (by omega) (by omega)
    have hB : (64513 + x) / 512 % 2 = (x + 1) / 512 := by omega
    rw [hB] at hA
    rcases edge_nan 0 (64513 + x) (x + 1) 512 e4 e3 e7 hX hF (by omega) with ⟨r1, r2, r3⟩ | ⟨r1, r2, r3⟩
    all_goals
      have hC : (x + 1) / 512 = 0 ∨ (x + 1) / 512 = 1 := by omega
      have hD : (x + 1) / 512 = 0 ↔ x + 1 < 512 := by omega
      rcases hC with hC | hC
      all_goals
        first
          | omega
          | (rw [hC] at hA
             clear hX hF hB hC hD e1 e3 e4 e5 e6 e7 e8 e9
             go_enter Try.func5, Try.ntmps5
             go_wp2_with (first
               | (go_at_call 7; refine (known2_any _).mono ?_; rintro e W1 ⟨rfl, hW1⟩)
               | (go_at_call 27; refine (form_any _ _ b0 b1).mono ?_; rintro e W2 ⟨rfl, hW2⟩)
               | (go_at_call 13; refine (finite_any _ _ _ (by omega) (by omega)).mono ?_; rintro e w' ⟨rfl, m, rfl⟩)
               | (go_at_call 11; refine (class_any _ _ _ (by omega) (by omega)).mono ?_; rintro e w' ⟨rfl, m, rfl⟩)
               | (go_at_call 23; refine (greatest_any _ _ _).mono ?_; rintro e w' ⟨rfl, rfl⟩)
               | (go_at_call 21; refine (inf_any _ _ _).mono ?_; rintro e w' ⟨rfl, rfl⟩)
               | (go_at_call 15; refine (widths_any _ _).mono ?_; rintro e w' ⟨rfl, rfl⟩)
               | (go_at_call 19; refine (zero_any _ _ _).mono ?_; rintro e w' ⟨rfl, rfl⟩))
             have hG : Grown w W2 := grown_trans hW1 hW2
             go_ret
             exact ⟨rfl, by first | exact hG | exact grown_more hG _⟩)
end Go.Proofs.Ytibhdlpjkciojaa
