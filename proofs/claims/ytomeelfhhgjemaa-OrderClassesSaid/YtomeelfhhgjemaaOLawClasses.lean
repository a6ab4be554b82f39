/- The walk of OrderClasses. -/
import Derived.Test.YtomeelfhhgjemaaOKnown
import Derived.Test.YtomeelfhhgjemaaOrdLaw
import Derived.Test.YtomeelfhhgjemaaRNum
namespace Go.Proofs.Ytomeelfhhgjemaa
open Go.RowKit
set_option linter.unusedVariables false
set_option linter.unusedSimpArgs false

theorem nou_bits (f : Int) : lesB f 0 0 = false := by
  cases e : lesB f 0 0
  · rfl
  · have := ((les_is f 0 0).1 e).2.2.2; omega

set_option maxRecDepth 100000 in
set_option maxHeartbeats 8000000 in
theorem oclasses_walk (a0 a1 : Int) (w0 : (Lit.int .u8 a0).wf = true) (w1 : (Lit.int .u32 a1).wf = true) (w : World) :
    Calls Try.prog 5 #[.int .u8 a0, .int .u32 a1] w fun e w' => e = .returned (.bool true) ∧ Grown w w' := by
  obtain ⟨b0, b1⟩ := bounds_u8 w0
  obtain ⟨b2, b3⟩ := bounds_u32 w1
  clear w0 w1
  have HG := Lib.hid (Grown.refl w)
  obtain ⟨F, hF⟩ : ∃ F, a0 % 3 = F := ⟨_, rfl⟩
  have HF := Lib.hid hF
  clear hF
  have hm : msk F ≤ 4294967295 := by unfold msk; (repeat' split) <;> decide
  obtain ⟨x0, x1⟩ := mask_word F a1 b2 b3
  obtain ⟨x, hx⟩ : ∃ x, bits .and .u32 a1 (msk F) = x := ⟨_, rfl⟩
  rw [hx] at x0 x1
  have hfin := fin_line F x x0 x1
  have hinf := inf_line F x
  obtain ⟨n, hn⟩ : ∃ n, xorI F x = n := ⟨_, rfl⟩
  have hn2 : bits .xor .u32 x (zerI F true) = n := hn
  obtain ⟨_, _, _, n0, n1⟩ := xor_parts F x x0 (by omega)
  obtain ⟨_, _, _, i0, i1⟩ := sgb_low F false
  obtain ⟨_, _, _, j0, j1⟩ := sgb_low F true
  have hni : 0 ≤ nanI F ∧ nanI F ≤ 4294967295 := by
    unfold nanI infI zerI topx hid qui
    (repeat' split) <;> first | omega | simp_all
  rw [hn] at n0 n1 hfin
  obtain ⟨hi, hhi⟩ : ∃ k, infI F false = k := ⟨_, rfl⟩
  obtain ⟨lo, hlo⟩ : ∃ k, infI F true = k := ⟨_, rfl⟩
  obtain ⟨ni, hnan⟩ : ∃ k, nanI F = k := ⟨_, rfl⟩
  rw [hhi] at hfin i0 i1
  rw [hlo] at hfin j0 j1
  rw [hnan] at hfin hni
  obtain ⟨z0, z1⟩ := hni
  obtain ⟨V, hV⟩ : ∃ V, finI F x = V := ⟨_, rfl⟩
  obtain ⟨C, hC⟩ : ∃ C, clsI F x = C := ⟨_, rfl⟩
  obtain ⟨ka, hka⟩ : ∃ k, keyI F x = k := ⟨_, rfl⟩
  obtain ⟨kb, hkb⟩ : ∃ k, keyI F n = k := ⟨_, rfl⟩
  rw [hV, hka, hkb] at hfin
  rw [hV, hC] at hinf
  have HV := Lib.hid hV
  have HC := Lib.hid hC
  have HKa := Lib.hid hka
  have HKb := Lib.hid hkb
  have HHi := Lib.hid hhi
  have HLo := Lib.hid hlo
  have HNi := Lib.hid hnan
  clear hV hC hka hkb hhi hlo hnan hn
  cases V
  case false =>
    obtain ⟨h1, h2⟩ := hinf rfl
    clear hfin hinf
    obtain ⟨E, hE⟩ : ∃ E, (C == 3) = E := ⟨_, rfl⟩
    obtain ⟨L1, hL1⟩ : ∃ L, lesB F x 0 = L := ⟨_, rfl⟩
    obtain ⟨L2, hL2⟩ : ∃ L, lesB F 0 x = L := ⟨_, rfl⟩
    rw [hE] at h1 h2
    rw [hL1, hL2] at h2
    have H1 := Lib.hid h1
    have H2 := Lib.hid hL1
    have H3 := Lib.hid hL2
    clear h1 hL1 hL2
    have hcase : E = true ∨ (E = false ∧ L1 = false ∧ L2 = false) := by cases E <;> simp_all
    clear h2
    rcases hcase with rfl | ⟨rfl, rfl, rfl⟩
    all_goals
      go_enter Try.func5, Try.ntmps5
      go_wp2_with (first
        | (go_at_call 6; refine (known7_any _).mono ?_; rintro e W1 ⟨rfl, hW⟩; replace HG := Lib.hid (grown_trans HG.out hW); clear hW)
        | (go_at_call 7; refine (form7_any _ _ b0 b1).mono ?_; rintro e W2 ⟨he, hW⟩; rw [HF.out] at he; subst he; replace HG := Lib.hid (grown_trans HG.out hW); clear hW)
        | (go_at_call 20; refine (rmask_any _ _).mono ?_; rintro e w' ⟨rfl, rfl⟩)
        | (go_at_call 21; refine (rfinite_any _ _ _ (by omega) (by omega)).mono ?_; rintro e w' ⟨he, dm, rfl⟩; rw [HV.out] at he; subst he)
        | (go_at_call 22; refine (rclass_any _ _ _ (by omega) (by omega)).mono ?_; rintro e w' ⟨he, dm, rfl⟩; rw [HC.out] at he; subst he)
        | (go_at_call 9; refine (ocompare_any _ _ _ _ (by omega) (by omega) (by omega) (by omega)).mono ?_; rintro e W3 ⟨he, hW⟩; rw [H1.out] at he; subst he; replace HG := Lib.hid (grown_trans (grown_more HG.out _) hW); clear hW)
        | (go_at_call 11; refine (oless_any _ _ _ _ (by omega) (by omega) (by omega) (by omega)).mono ?_; rintro e W4 ⟨he, hW⟩; (first | rw [H2.out] at he | rw [H3.out] at he); subst he; replace HG := Lib.hid (show Grown w W4 from grown_trans (by repeat (first | with_reducible exact HG.out | with_reducible refine grown_more ?_ _)) hW); clear hW))
      go_ret
      exact ⟨rfl, by repeat (first | with_reducible exact HG.out | with_reducible refine grown_more ?_ _)⟩
  case true =>
    obtain ⟨h1, h2, h3, h4, h5⟩ := hfin rfl
    clear hfin hinf
    have H1 := Lib.hid h1
    have H2 := Lib.hid h2
    have H4 := Lib.hid h4
    have H5 := Lib.hid h5
    clear h1 h2 h4 h5
    have kbd := key_bd F x x0
    rw [HKa.out] at kbd
    have hkw : wrap64 (ka + kb) = -1 := by rw [h3]; simp [wrap64]
    go_enter Try.func5, Try.ntmps5
    go_wp2_with (first
      | (go_at_call 6; refine (known7_any _).mono ?_; rintro e W1 ⟨rfl, hW⟩; replace HG := Lib.hid (grown_trans HG.out hW); clear hW)
      | (go_at_call 7; refine (form7_any _ _ b0 b1).mono ?_; rintro e W2 ⟨he, hW⟩; rw [HF.out] at he; subst he; replace HG := Lib.hid (grown_trans HG.out hW); clear hW)
      | (go_at_call 20; refine (rmask_any _ _).mono ?_; rintro e w' ⟨rfl, rfl⟩)
      | (go_at_call 21; refine (rfinite_any _ _ _ (by omega) (by omega)).mono ?_; rintro e w' ⟨he, dm, rfl⟩; rw [HV.out] at he; subst he)
      | (go_at_call 23; refine (rinf_any _ _ _).mono ?_; rintro e w' ⟨he, dm, rfl⟩; (first | rw [HHi.out] at he | rw [HLo.out] at he); subst he)
      | (go_at_call 24; refine (rzero_any _ _ _).mono ?_; rintro e w' ⟨rfl, rfl⟩)
      | (go_at_call 19; refine (rnan_any _ _).mono ?_; rintro e w' ⟨he, dm, rfl⟩; rw [HNi.out] at he; subst he)
      | (go_at_call 11; refine (oless_any _ _ _ _ (by omega) (by omega) (by omega) (by omega)).mono ?_; rintro e W4 ⟨he, hW⟩; (first | rw [H1.out] at he | rw [H2.out] at he); subst he; replace HG := Lib.hid (show Grown w W4 from grown_trans (by repeat (first | with_reducible exact HG.out | with_reducible refine grown_more ?_ _)) hW); clear hW)
      | (go_at_call 17; refine (okey_any _ _ _ (by omega) (by omega)).mono ?_; rintro e W4 ⟨he, hW⟩; (first | rw [HKa.out] at he | rw [HKb.out] at he); subst he; replace HG := Lib.hid (show Grown w W4 from grown_trans (by repeat (first | with_reducible exact HG.out | with_reducible refine grown_more ?_ _)) hW); clear hW)
      | (go_at_call 15; refine (omax_any _ _ _ _ (by omega) (by omega) (by omega) (by omega)).mono ?_; rintro e W4 ⟨he, hW⟩; rw [H4.out] at he; subst he; replace HG := Lib.hid (show Grown w W4 from grown_trans (by repeat (first | with_reducible exact HG.out | with_reducible refine grown_more ?_ _)) hW); clear hW)
      | (go_at_call 13; refine (omin_any _ _ _ _ (by omega) (by omega) (by omega) (by omega)).mono ?_; rintro e W4 ⟨he, hW⟩; rw [H5.out] at he; subst he; replace HG := Lib.hid (show Grown w W4 from grown_trans (by repeat (first | with_reducible exact HG.out | with_reducible refine grown_more ?_ _)) hW); clear hW))
    go_ret
    exact ⟨rfl, by repeat (first | with_reducible exact HG.out | with_reducible refine grown_more ?_ _)⟩
end Go.Proofs.Ytomeelfhhgjemaa
