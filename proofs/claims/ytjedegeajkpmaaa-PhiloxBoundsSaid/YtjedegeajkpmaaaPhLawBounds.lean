/- The walk of PhiloxBounds. -/
import Derived.Test.YtjedegeajkpmaaaPhKnown
import Derived.Test.YtjedegeajkpmaaaROrd
namespace Go.Proofs.Ytjedegeajkpmaaa
open Go.RowKit
set_option linter.unusedVariables false
set_option linter.unusedSimpArgs false

set_option maxRecDepth 100000 in
set_option maxHeartbeats 4000000 in
theorem pbounds_walk (a0 a1 a2 a3 a4 : Int) (w0 : (Lit.int .u64 a0).wf = true) (w1 : (Lit.int .u32 a1).wf = true) (w2 : (Lit.int .u32 a2).wf = true) (w3 : (Lit.int .u32 a3).wf = true) (w4 : (Lit.int .u64 a4).wf = true) (w : World) :
    Calls Try.prog 4 #[.int .u64 a0, .int .u32 a1, .int .u32 a2, .int .u32 a3, .int .u64 a4] w fun e w' => e = .returned (.bool true) ∧ Grown w w' := by
  obtain ⟨b0, b1⟩ := bounds_u64 w0
  obtain ⟨b2, b3⟩ := bounds_u32 w1
  obtain ⟨b4, b5⟩ := bounds_u32 w2
  obtain ⟨b6, b7⟩ := bounds_u32 w3
  obtain ⟨b8, b9⟩ := bounds_u64 w4
  clear w0 w1 w2 w3 w4
  obtain ⟨v0, v1⟩ := phWord_bd a0 a1 a4 b0 b1 b2 b3 b8 b9
  obtain ⟨_, _, y0, y1⟩ := below_bd (phWord a0 a1 a4) a3 v0 v1 b6 b7
  obtain ⟨V, hV⟩ : ∃ V, phBelow a0 a1 a4 a3 = V := ⟨_, rfl⟩
  have hV2 : phWord a0 a1 a4 * a3 / 4294967296 = V := hV
  rw [hV2] at y0 y1
  have HV := Lib.hid hV
  have q0 : 0 ≤ a2 / 256 := by omega
  have q1 : a2 / 256 < 16777216 := by omega
  obtain ⟨u0, u1, _, _, u2, _⟩ := uni_num (a2 / 256) q0 q1
  have hu := uni_key (a2 / 256) q0 q1
  obtain ⟨U, hU⟩ : ∃ U, uniI (a2 / 256) = U := ⟨_, rfl⟩
  rw [hU] at u0 u1 u2 hu
  have HU := Lib.hid hU
  have HL := Lib.hid hu
  clear hV hV2 hU hu v0 v1
  have hcase : (V < a3) ∨ (¬ V < a3 ∧ a3 = 0 ∧ V = 0) := by omega
  have ucase : (a2 / 256 = 0 ∧ U = 0) ∨ ((a2 / 256 == 0) = false ∧ (U == 0) = false) := by
    by_cases c : a2 / 256 = 0
    · exact .inl ⟨c, u2.2 c⟩
    · exact .inr ⟨by simp [c], by simp [mt u2.1 c]⟩
  clear u2 y1
  have HG := Lib.hid (Grown.refl w)
  rcases hcase with c1 | ⟨c1, rfl, rfl⟩
  all_goals
    rcases ucase with ⟨d1, rfl⟩ | ⟨d1, d2⟩
    all_goals
      go_enter Try.func4, Try.ntmps4
      go_wp2_with (first
        | (go_at_call 7; refine (known10_any _).mono ?_; rintro e W1 ⟨rfl, hW⟩; replace HG := Lib.hid (show Grown w W1 from grown_trans HG.out hW); clear hW)
        | (go_at_call 10; refine (pbelow_any _ _ _ _ _ b0 b1 b2 b3 b8 b9 (by omega) (by omega)).mono ?_; rintro e W2 ⟨he, hW⟩; rw [HV.out] at he; subst he; replace HG := Lib.hid (show Grown w W2 from grown_trans HG.out hW); clear hW)
        | (go_at_call 14; refine (puni_any _ _ b4 b5).mono ?_; rintro e W3 ⟨he, hW⟩; rw [HU.out] at he; subst he; replace HG := Lib.hid (show Grown w W3 from grown_trans HG.out hW); clear hW)
        | (go_at_call 16; refine (rless_any _ _ _ _ (by omega) (by omega) (by omega) (by omega)).mono ?_; rintro e W4 ⟨he, hW⟩; rw [HL.out] at he; subst he; replace HG := Lib.hid (show Grown w W4 from grown_trans HG.out hW); clear hW))
      all_goals
        go_ret
        exact ⟨rfl, HG.out⟩
end Go.Proofs.Ytjedegeajkpmaaa
