/- The walk of RoundExact. -/
import Derived.Test.YtbkkiphoohlhkaaRKnown
import Derived.Test.YtbkkiphoohlhkaaRFmt
import Derived.Test.YtbkkiphoohlhkaaRNum
namespace Go.Proofs.Ytbkkiphoohlhkaa
open Go.RowKit
set_option linter.unusedVariables false
set_option linter.unusedSimpArgs false

set_option maxRecDepth 100000 in
set_option maxHeartbeats 8000000 in
theorem rexact_walk (a0 a1 a2 a3 : Int) (w0 : (Lit.int .u8 a0).wf = true) (w1 : (Lit.int .u8 a1).wf = true) (w2 : (Lit.int .u32 a2).wf = true) (w3 : (Lit.int .u8 a3).wf = true) (w : World) :
    Calls Try.prog 5 #[.int .u8 a0, .int .u8 a1, .int .u32 a2, .int .u8 a3] w fun e w' => e = .returned (.bool true) ∧ Grown w w' := by
  obtain ⟨b0, b1⟩ := bounds_u8 w0
  obtain ⟨b2, b3⟩ := bounds_u8 w1
  obtain ⟨b4, b5⟩ := bounds_u32 w2
  obtain ⟨b6, b7⟩ := bounds_u8 w3
  clear w0 w1 w2 w3
  obtain ⟨F, hF⟩ : ∃ F, a0 % 3 = F := ⟨_, rfl⟩
  have HF := Lib.hid hF
  clear hF
  obtain ⟨S, hS⟩ : ∃ S, a3 % 40 = S := ⟨_, rfl⟩
  have S0 : 0 ≤ S := by omega
  have S1 : S ≤ 39 := by omega
  obtain ⟨x0, x1⟩ := mask_word F a2 b4 b5
  obtain ⟨X, hX⟩ : ∃ X, bits .and .u32 a2 (msk F) = X := ⟨_, rfl⟩
  rw [hX] at x0 x1
  have x2 : X ≤ 4294967295 := by have : msk F ≤ 4294967295 := by { unfold msk; (repeat' split) <;> decide }
                                 omega
  have HN := Lib.hid (num_pack F (a1 % 5) X x0 x1)
  have HV := Lib.hid (val_shifted F X S S0 S1)
  obtain ⟨m0, m1⟩ := unM_bd F X
  obtain ⟨e0, e1⟩ := unE_bd F X
  have x1' := Lib.hid x1
  clear x1
  by_cases hf : finI F X = true
  · go_enter Try.func5, Try.ntmps5
    go_wp2_with (first
      | (go_at_call 8; refine (known3_any _).mono ?_; rintro e W1 ⟨rfl, hW1⟩; have HW1 := Lib.hid hW1; clear hW1)
      | (go_at_call 9; refine (form3_any _ _ b0 b1).mono ?_; rintro e W2 ⟨he, hW2⟩; rw [HF.out] at he; subst he; have HW2 := Lib.hid hW2; clear hW2)
      | (go_at_call 12; refine (rmask_any _ _).mono ?_; rintro e w' ⟨rfl, rfl⟩)
      | (go_at_call 13; refine (rfinite_any _ _ _ (by omega) (by omega)).mono ?_; rintro e w' ⟨rfl, m3, rfl⟩)
      | (go_at_call 14; refine (runpack_any _ _ _ (by omega) (by omega)).mono ?_; rintro e w' ⟨rfl, m4, rfl⟩)
      | (go_at_call 10; refine (pack_any _ _ _ _ _ _ _ (by omega) (by omega) (by first | omega | exact (u64w_bd _).1) (by first | omega | exact (u64w_bd _).2)).mono ?_; rintro e W3 ⟨he, hW3⟩; rw [HV.out, HN.out hf] at he; subst he; have HW3 := Lib.hid hW3; clear hW3))
    go_ret
    exact ⟨rfl, Grown.alloc (grown_trans (grown_more (grown_trans HW1.out HW2.out) _) HW3.out) _ _⟩
  · have hf' : finI F X = false := (Bool.not_eq_true _).mp hf
    clear hf
    go_enter Try.func5, Try.ntmps5
    go_wp2_with (first
      | (go_at_call 8; refine (known3_any _).mono ?_; rintro e W1 ⟨rfl, hW1⟩; have HW1 := Lib.hid hW1; clear hW1)
      | (go_at_call 9; refine (form3_any _ _ b0 b1).mono ?_; rintro e W2 ⟨he, hW2⟩; rw [HF.out] at he; subst he; have HW2 := Lib.hid hW2; clear hW2)
      | (go_at_call 12; refine (rmask_any _ _).mono ?_; rintro e w' ⟨rfl, rfl⟩)
      | (go_at_call 13; refine (rfinite_any _ _ _ (by omega) (by omega)).mono ?_; rintro e w' ⟨rfl, m3, rfl⟩))
    go_ret
    exact ⟨rfl, grown_more (grown_trans HW1.out HW2.out) _⟩
end Go.Proofs.Ytbkkiphoohlhkaa
