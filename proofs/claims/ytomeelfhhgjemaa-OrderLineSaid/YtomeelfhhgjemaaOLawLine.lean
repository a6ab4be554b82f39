/- The walk of OrderLine. -/
import Derived.Test.YtomeelfhhgjemaaOKnown
import Derived.Test.YtomeelfhhgjemaaOrdLaw
import Derived.Test.YtomeelfhhgjemaaNumM
import Derived.Deep.RegionWith
namespace Go.Proofs.Ytomeelfhhgjemaa
open Go.RowKit
set_option linter.unusedVariables false
set_option linter.unusedSimpArgs false

set_option maxRecDepth 100000 in
set_option maxHeartbeats 8000000 in
theorem oline_walk (a0 a1 a2 a3 : Int) (w0 : (Lit.int .u8 a0).wf = true) (w1 : (Lit.int .u32 a1).wf = true) (w2 : (Lit.int .u32 a2).wf = true) (w3 : (Lit.int .u32 a3).wf = true) (w : World) :
    Calls Try.prog 4 #[.int .u8 a0, .int .u32 a1, .int .u32 a2, .int .u32 a3] w fun e w' => e = .returned (.bool true) ∧ Grown w w' := by
  obtain ⟨b0, b1⟩ := bounds_u8 w0
  obtain ⟨b2, b3⟩ := bounds_u32 w1
  obtain ⟨b4, b5⟩ := bounds_u32 w2
  obtain ⟨b6, b7⟩ := bounds_u32 w3
  clear w0 w1 w2 w3
  have HG := Lib.hid (Grown.refl w)
  obtain ⟨F, hF⟩ : ∃ F, a0 % 3 = F := ⟨_, rfl⟩
  have HF := Lib.hid hF
  clear hF
  have hm : msk F ≤ 4294967295 := by unfold msk; (repeat' split) <;> decide
  -- what the line's numbers are, ahead of the walk
  go_enter Try.func4, Try.ntmps4
  go_wp2_with fail
  refine (known7_any _).mono ?_
  rintro e W1 ⟨rfl, hW1⟩
  replace HG := Lib.hid (grown_trans HG.out hW1)
  clear hW1
  go_wp2_with fail
  refine (form7_any _ _ b0 b1).mono ?_
  rintro e W2 ⟨he, hW⟩
  rw [HF.out] at he
  subst he
  replace HG := Lib.hid (grown_trans HG.out hW)
  clear hW
  go_wp2_with fail
  refine (num_msk F _ _ b2 b3).mono ?_
  rintro e W3 ⟨⟨x, he, x0, x1⟩, hW⟩
  subst he
  replace HG := Lib.hid (grown_trans HG.out hW)
  clear hW
  go_wp2_with fail
  refine (num_msk F _ _ b4 b5).mono ?_
  rintro e W4 ⟨⟨y, he, y0, y1⟩, hW⟩
  subst he
  replace HG := Lib.hid (grown_trans HG.out hW)
  clear hW
  go_wp2_with fail
  refine (num_msk F _ _ b6 b7).mono ?_
  rintro e W5 ⟨⟨z, he, z0, z1⟩, hW⟩
  subst he
  replace HG := Lib.hid (grown_trans HG.out hW)
  clear hW
  obtain ⟨v1, v2, v3⟩ := low_high F x y x0 x1 y0 y1
  have hln := les_line F x y z
  obtain ⟨q0, q1, q2, q3⟩ := pick_bd F x y x0 x1 y0 y1
  obtain ⟨L, hL⟩ : ∃ L, lesB F x y = L := ⟨_, rfl⟩
  obtain ⟨R, hR⟩ : ∃ R, lesB F y x = R := ⟨_, rfl⟩
  obtain ⟨Q, hQ⟩ : ∃ Q, lesB F y z = Q := ⟨_, rfl⟩
  obtain ⟨T, hT⟩ : ∃ T, lesB F x z = T := ⟨_, rfl⟩
  obtain ⟨kx, hkx⟩ : ∃ k, keyI F x = k := ⟨_, rfl⟩
  obtain ⟨ky, hky⟩ : ∃ k, keyI F y = k := ⟨_, rfl⟩
  obtain ⟨mm, hmm⟩ : ∃ k, minO F x y = k := ⟨_, rfl⟩
  obtain ⟨nn, hnn⟩ : ∃ k, maxO F x y = k := ⟨_, rfl⟩
  obtain ⟨ni, hni⟩ : ∃ k, nanI F = k := ⟨_, rfl⟩
  rw [hmm, hnn] at v1
  rw [hmm, hni] at v2
  rw [hnn, hni] at v3
  rw [hmm] at q0 q1
  rw [hnn] at q2 q3
  rw [hL, hR, hQ, hT, hkx, hky] at hln
  have HL := Lib.hid hL
  have HR := Lib.hid hR
  have HQ := Lib.hid hQ
  have HT := Lib.hid hT
  have HKx := Lib.hid hkx
  have HKy := Lib.hid hky
  have HMm := Lib.hid hmm
  have HNn := Lib.hid hnn
  have HNI := Lib.hid hni
  have HV := Lib.hid v1
  have HLn := Lib.hid hln
  clear hL hR hQ hT hkx hky hmm hnn hni v1 hln
  have hm3 : ((mm == x) = true) ∨ ((mm == x) = false ∧ (mm == y) = true) ∨ ((mm == x) = false ∧ (mm == y) = false ∧ (mm == ni) = true) := by
    simp only [beq_iff_eq, beq_eq_false_iff_ne, ne_eq]; omega
  have hn3 : ((nn == x) = true) ∨ ((nn == x) = false ∧ (nn == y) = true) ∨ ((nn == x) = false ∧ (nn == y) = false ∧ (nn == ni) = true) := by
    simp only [beq_iff_eq, beq_eq_false_iff_ne, ne_eq]; omega
  clear v2 v3
  cases L
  case false =>
    rcases hm3 with m1 | ⟨m1, m2⟩ | ⟨m1, m2, m3⟩
    all_goals
      rcases hn3 with n1 | ⟨n1, n2⟩ | ⟨n1, n2, n3⟩
      all_goals
        go_wp2_with (first
          | (go_at_call 11; refine (oless_any _ _ _ _ (by omega) (by omega) (by omega) (by omega)).mono ?_; rintro e W6 ⟨he, hW⟩; (first | rw [HL.out] at he | rw [HR.out] at he | rw [HQ.out] at he | rw [HT.out] at he | rw [HV.out] at he); subst he; replace HG := Lib.hid (grown_trans HG.out hW); clear hW)
          | (go_at_call 17; refine (okey_any _ _ _ (by omega) (by omega)).mono ?_; rintro e W6 ⟨he, hW⟩; (first | rw [HKx.out] at he | rw [HKy.out] at he); subst he; replace HG := Lib.hid (grown_trans HG.out hW); clear hW)
          | (go_at_call 13; refine (omin_any _ _ _ _ (by omega) (by omega) (by omega) (by omega)).mono ?_; rintro e W6 ⟨he, hW⟩; rw [HMm.out] at he; subst he; replace HG := Lib.hid (grown_trans HG.out hW); clear hW)
          | (go_at_call 15; refine (omax_any _ _ _ _ (by omega) (by omega) (by omega) (by omega)).mono ?_; rintro e W6 ⟨he, hW⟩; rw [HNn.out] at he; subst he; replace HG := Lib.hid (grown_trans HG.out hW); clear hW)
          | (go_at_call 19; refine (rnan_any _ _).mono ?_; rintro e w' ⟨he, dm, rfl⟩; rw [HNI.out] at he; subst he))
        go_ret
        exact ⟨rfl, by repeat (first | with_reducible exact HG.out | with_reducible refine grown_more ?_ _)⟩
  case true =>
    obtain ⟨rfl, hk, hqt⟩ := HLn.out rfl
    have hk2 : ¬ ky ≤ kx := by omega
    have hqt3 : Q = false ∨ (Q = true ∧ T = true) := by cases Q <;> simp_all
    clear HLn hqt
    rcases hqt3 with rfl | ⟨rfl, rfl⟩
    all_goals
      rcases hm3 with m1 | ⟨m1, m2⟩ | ⟨m1, m2, m3⟩
      all_goals
        rcases hn3 with n1 | ⟨n1, n2⟩ | ⟨n1, n2, n3⟩
        all_goals
          go_wp2_with (first
            | (go_at_call 11; refine (oless_any _ _ _ _ (by omega) (by omega) (by omega) (by omega)).mono ?_; rintro e W6 ⟨he, hW⟩; (first | rw [HL.out] at he | rw [HR.out] at he | rw [HQ.out] at he | rw [HT.out] at he | rw [HV.out] at he); subst he; replace HG := Lib.hid (grown_trans HG.out hW); clear hW)
            | (go_at_call 17; refine (okey_any _ _ _ (by omega) (by omega)).mono ?_; rintro e W6 ⟨he, hW⟩; (first | rw [HKx.out] at he | rw [HKy.out] at he); subst he; replace HG := Lib.hid (grown_trans HG.out hW); clear hW)
            | (go_at_call 13; refine (omin_any _ _ _ _ (by omega) (by omega) (by omega) (by omega)).mono ?_; rintro e W6 ⟨he, hW⟩; rw [HMm.out] at he; subst he; replace HG := Lib.hid (grown_trans HG.out hW); clear hW)
            | (go_at_call 15; refine (omax_any _ _ _ _ (by omega) (by omega) (by omega) (by omega)).mono ?_; rintro e W6 ⟨he, hW⟩; rw [HNn.out] at he; subst he; replace HG := Lib.hid (grown_trans HG.out hW); clear hW)
            | (go_at_call 19; refine (rnan_any _ _).mono ?_; rintro e w' ⟨he, dm, rfl⟩; rw [HNI.out] at he; subst he))
          go_ret
          exact ⟨rfl, by repeat (first | with_reducible exact HG.out | with_reducible refine grown_more ?_ _)⟩
end Go.Proofs.Ytomeelfhhgjemaa
