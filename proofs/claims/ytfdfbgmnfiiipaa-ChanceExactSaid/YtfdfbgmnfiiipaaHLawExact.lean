/- The walk of ChanceExact. -/
import Derived.Test.YtfdfbgmnfiiipaaHKnown
import Derived.Test.YtfdfbgmnfiiipaaRCha
import Derived.Test.YtfdfbgmnfiiipaaChaLaw
namespace Go.Proofs.Ytfdfbgmnfiiipaa
open Go.RowKit
set_option linter.unusedVariables false
set_option linter.unusedSimpArgs false

set_option maxRecDepth 100000 in
set_option maxHeartbeats 4000000 in
theorem hexact_walk (a0 a1 a2 : Int) (w0 : (Lit.int .u8 a0).wf = true) (w1 : (Lit.int .u32 a1).wf = true) (w2 : (Lit.int .u32 a2).wf = true) (w : World) :
    Calls Try.prog 5 #[.int .u8 a0, .int .u32 a1, .int .u32 a2] w fun e w' => e = .returned (.bool true) ∧ Grown w w' := by
  obtain ⟨b0, b1⟩ := bounds_u8 w0
  obtain ⟨b2, b3⟩ := bounds_u32 w1
  obtain ⟨b4, b5⟩ := bounds_u32 w2
  clear w0 w1 w2
  have ht : a0.tmod 3 = a0 % 3 := Int.tmod_eq_emod_of_nonneg b0
  have hF : a0 % 3 = 0 ∨ a0 % 3 = 1 ∨ a0 % 3 = 2 := by omega
  obtain ⟨F, hFF⟩ : ∃ F, a0 % 3 = F := ⟨_, rfl⟩
  rw [hFF] at hF ht
  have hm := mask_word F a1 b2 b3
  obtain ⟨x, hx⟩ : ∃ x, bits .and .u32 a1 (msk F) = x := ⟨_, rfl⟩
  rw [hx] at hm
  obtain ⟨x0, x1⟩ := hm
  have hb := cha_back F x a2 x0 x1 b4
  have hcb := con_bd F 2 0 x
  have hmt := msk_top F
  have hmt2 := msk_top 2
  have x2 : x ≤ 4294967295 := by omega
  have h3 := cls_three F x
  have hc := cls_cases F x
  obtain ⟨C, hC⟩ : ∃ C, clsI F x = C := ⟨_, rfl⟩
  rw [hC] at h3 hc
  have HC := Lib.hid hC
  obtain ⟨Y, hY⟩ : ∃ Y, conV F 2 0 x = Y := ⟨_, rfl⟩
  rw [hY] at hb hcb
  obtain ⟨Y0, Y1⟩ := hcb
  replace Y1 : Y ≤ 4294967295 := by omega
  have HY := Lib.hid hY
  have hway : (∃ n : Int, C = n ∧ (n = 4 ∨ n = 5) ∧ chaI F Y a2 = nanI F) ∨ (C < 4 ∧ chaI F Y a2 = x) := by
    rcases h3 with ⟨e, n, _⟩ | ⟨e, n, _⟩ | ⟨c4, c5, n, _⟩
    · rw [n] at hb; exact .inl ⟨4, e, .inl rfl, hb⟩
    · rw [n] at hb; exact .inl ⟨5, e, .inr rfl, hb⟩
    · rw [n] at hb
      refine .inr ⟨?_, hb⟩
      rw [beq_eq_false_iff_ne] at c4 c5
      omega
  have HX := Lib.hid hx
  have hR : ∃ R, msk F = R := ⟨_, rfl⟩
  clear hC hY h3 hc hb hmt hmt2 hFF x1
  have HG := Lib.hid (Grown.refl w)
  rcases hway with ⟨n, rfl, hn, hb⟩ | ⟨hn, hb⟩
  all_goals
    have HB := Lib.hid hb
    clear hb
    rcases hF with rfl | rfl | rfl
    all_goals
      go_enter Try.func5, Try.ntmps5
      go_wp2_with (first
        | (go_at_call 7; refine (known11_any _).mono ?_; rintro e W1 ⟨rfl, hW⟩; replace HG := Lib.hid (show Grown w W1 from grown_trans HG.out hW); clear hW)
        | (go_at_call 15; refine (rmask_any _ _).mono ?_; rintro e w' ⟨rfl, rfl⟩)
        | (go_at_call 16; refine (rclass_any _ _ _ (by omega) (by omega)).mono ?_; rintro e w' ⟨he, dm, rfl⟩; rw [HC.out] at he; subst he)
        | (go_at_call 17; refine (rnan_any _ _).mono ?_; rintro e w' ⟨rfl, dm, rfl⟩)
        | (go_at_call 18; refine (rwiden_any _ _ _ (by omega) (by omega)).mono ?_; rintro e W4 ⟨he, hW⟩; rw [HY.out] at he; subst he; replace HG := Lib.hid (show Grown w W4 from grown_trans (by repeat (first | with_reducible exact HG.out | with_reducible refine Grown.setCell ?_ (by simp <;> omega) _ | with_reducible refine Grown.alloc ?_ _ _ | with_reducible refine grown_more ?_ _ | with_reducible refine Grown.drew ?_)) hW); clear hW)
        | (go_at_call 10; refine (hnarrow_any _ _ _ _ (by omega) (by omega) (by omega) (by omega)).mono ?_; rintro e W5 ⟨he, hW⟩; rw [HB.out] at he; subst he; replace HG := Lib.hid (show Grown w W5 from grown_trans (by repeat (first | with_reducible exact HG.out | with_reducible refine Grown.setCell ?_ (by simp <;> omega) _ | with_reducible refine Grown.alloc ?_ _ _ | with_reducible refine grown_more ?_ _ | with_reducible refine Grown.drew ?_)) hW); clear hW))
      all_goals
        go_ret
        exact ⟨rfl, by repeat (first | with_reducible exact HG.out | with_reducible refine Grown.setCell ?_ (by simp <;> omega) _ | with_reducible refine Grown.alloc ?_ _ _ | with_reducible refine grown_more ?_ _ | with_reducible refine Grown.drew ?_)⟩
end Go.Proofs.Ytfdfbgmnfiiipaa
