/- The walk of RoundModes. -/
import Derived.Test.YtbkkiphoohlhkaaRKnown
import Derived.Test.YtbkkiphoohlhkaaRModes
import Derived.Test.YtbkkiphoohlhkaaRTmod
namespace Go.Proofs.Ytbkkiphoohlhkaa
open Go.RowKit
set_option linter.unusedVariables false
set_option linter.unusedSimpArgs false

set_option maxRecDepth 100000 in
set_option maxHeartbeats 20000000 in
theorem rmodes_walk (a0 a1 a2 : Int) (a3 a4 : Bool) (w0 : (Lit.int .u8 a0).wf = true) (w1 : (Lit.int .i16 a1).wf = true) (w2 : (Lit.int .u64 a2).wf = true) (w : World) :
    Calls Try.prog 4 #[.int .u8 a0, .int .i16 a1, .int .u64 a2, .bool a3, .bool a4] w fun e w' => e = .returned (.bool true) ∧ Grown w w' := by
  obtain ⟨b0, b1⟩ := bounds_u8 w0
  obtain ⟨b2, b3⟩ := bounds_i16 w1
  obtain ⟨b4, b5⟩ := bounds_u64 w2
  clear w0 w1 w2
  obtain ⟨F, hF⟩ : ∃ F, a0 % 3 = F := ⟨_, rfl⟩
  have HF := Lib.hid hF
  clear hF
  obtain ⟨t0, t1⟩ := tmod_bd a1 300 (by decide)
  obtain ⟨T, hT⟩ : ∃ T, a1.tmod 300 = T := ⟨_, rfl⟩
  rw [hT] at t0 t1
  have HG := Lib.hid (Grown.refl w)
  obtain ⟨Z, X, z0, z1, p1, p2, p3, p4, p5⟩ := modes5 F a3 (valN (clampE T) a2 a4)
  cases a3
  all_goals
    obtain ⟨o1, u1, e1⟩ := p1
    obtain ⟨o2, u2, e2⟩ := p2
    rcases p3 with ⟨rfl, o3, u3, e3⟩ | ⟨rfl, o3, u3, e3⟩ <;> rcases p4 with ⟨o4, u4, e4⟩ | ⟨x4, o4, u4, e4⟩ <;> rcases p5 with ⟨o5, u5, e5⟩ | ⟨x5, o5, u5, e5⟩
    all_goals
      try (exact absurd x4 (by decide))
      try (exact absurd x5 (by decide))
    all_goals
      try clear x4
      try clear x5
      have E1 := Lib.hid e1
      have E2 := Lib.hid e2
      have E3 := Lib.hid e3
      have E4 := Lib.hid e4
      have E5 := Lib.hid e5
      clear e1 e2 e3 e4 e5
      simp only [if_true, if_false, Bool.false_eq_true] at E2 E3
      go_enter Try.func4, Try.ntmps4
      go_wp2_with (first
        | (go_at_call 8; refine (known3_any _).mono ?_; rintro e W1 ⟨rfl, hW1⟩; replace HG := Lib.hid (grown_trans HG.out hW1); clear hW1)
        | (go_at_call 9; refine (form3_any _ _ b0 b1).mono ?_; rintro e W2 ⟨he, hW2⟩; rw [HF.out] at he; subst he; replace HG := Lib.hid (grown_trans HG.out hW2); clear hW2)
        | (go_at_call 10; refine (pack_any _ _ _ _ _ _ _ (by omega) (by omega) (by omega) (by omega)).mono ?_; rintro e W7 ⟨he, hW7⟩; rw [E5.out] at he; subst he; replace FA := Lib.hid ((FA.out.grown (Grown.alloc (Grown.refl _) _ _)).grown hW7); replace FB := Lib.hid ((FB.out.grown (Grown.alloc (Grown.refl _) _ _)).grown hW7); replace FC := Lib.hid ((FC.out.grown (Grown.alloc (Grown.refl _) _ _)).grown hW7); have FD := Lib.hid (grown_new5 hW7); obtain ⟨i0, _, _, _, _, i5⟩ := FA.out; obtain ⟨j0, _, _, _, _, j5⟩ := FB.out; obtain ⟨k0, _, _, _, _, k5⟩ := FC.out; obtain ⟨l0, _, _, _, _, l5⟩ := FD.out; replace HG := Lib.hid (grown_trans (Grown.alloc HG.out _ _) hW7); clear hW7)
        | (go_at_call 10; refine (pack_any _ _ _ _ _ _ _ (by omega) (by omega) (by omega) (by omega)).mono ?_; rintro e W6 ⟨he, hW6⟩; rw [E4.out] at he; subst he; replace FA := Lib.hid ((FA.out.grown (Grown.alloc (Grown.refl _) _ _)).grown hW6); replace FB := Lib.hid ((FB.out.grown (Grown.alloc (Grown.refl _) _ _)).grown hW6); have FC := Lib.hid (grown_new5 hW6); replace HG := Lib.hid (grown_trans (Grown.alloc HG.out _ _) hW6); clear hW6)
        | (go_at_call 10; refine (pack_any _ _ _ _ _ _ _ (by omega) (by omega) (by omega) (by omega)).mono ?_; rintro e W5 ⟨he, hW5⟩; (first | rw [E2.out] at he | rw [E3.out] at he); subst he; replace FA := Lib.hid ((FA.out.grown (Grown.alloc (Grown.refl _) _ _)).grown hW5); have FB := Lib.hid (grown_new5 hW5); replace HG := Lib.hid (grown_trans (Grown.alloc HG.out _ _) hW5); clear hW5)
        | (go_at_call 10; refine (pack_any _ _ _ _ _ _ _ (by omega) (by omega) (by omega) (by omega)).mono ?_; rintro e W4 ⟨he, hW4⟩; (first | rw [E2.out] at he | rw [E3.out] at he); subst he; have FA := Lib.hid (grown_new5 hW4); replace HG := Lib.hid (grown_trans (Grown.alloc HG.out _ _) hW4); clear hW4)
        | (go_at_call 10; refine (pack_any _ _ _ _ _ _ _ (by omega) (by omega) (by omega) (by omega)).mono ?_; rintro e W3 ⟨he, hW3⟩; rw [E1.out] at he; subst he; skip; replace HG := Lib.hid (grown_trans HG.out hW3); clear hW3))
      go_ret
      refine ⟨?_, Grown.alloc HG.out _ _⟩
      first
        | rfl
        | exact ret_bool (bne_iff_ne.2 (by omega))
end Go.Proofs.Ytbkkiphoohlhkaa
