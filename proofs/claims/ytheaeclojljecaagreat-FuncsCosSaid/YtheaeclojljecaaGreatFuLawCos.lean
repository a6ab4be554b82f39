/- The walk of FuncsCos. (Written by gen34.py.) -/
import Derived.Test.YtheaeclojljecaaGreatFuKnown
import Derived.Test.YtheaeclojljecaaGreatRFun
import Derived.KernelRfl
namespace Go.Proofs.YtheaeclojljecaaGreat
open Go.RowKit
set_option linter.unusedVariables false
set_option linter.unusedSimpArgs false

theorem cos_lit (x u y z p q r m c : Int) (hn : nanB 2 x = false) (hu : subV x 1056964608 = u) (hy : mulV 1078530011 u = y) (hz : mulV y y = z) (h1 : fmaV 3109031169 z 1007192201 = p) (h2 : fmaV p z 3190467243 = q) (h3 : fmaV q z 1065353216 = r) (hm : mulV y r = m) (hc : negV m = c) : cosI x = c := by
  unfold cosI cosY alongV
  simp only [List.foldl_cons, List.foldl_nil]
  rw [hn, hu, hy, hz, h1, h2, h3, hm, hc]; rfl

theorem div_lit (a b p q x : Int) (ha : frmV a = p) (hb : frmV b = q) (h : divV p q = x) : divV (frmV a) (frmV b) = x := by rw [ha, hb, h]

theorem cos_table (n : Int) (h0 : 0 ≤ n) (h1 : n ≤ 8) : ∃ X Y C D, divV (frmV n) (frmV 8) = X ∧ divV (frmV (8 - n)) (frmV 8) = Y ∧ cosI X = C ∧ cosI Y = D ∧ 0 ≤ X ∧ X ≤ 4294967295 ∧ 0 ≤ Y ∧ Y ≤ 4294967295 ∧ 0 ≤ C ∧ C ≤ 4294967295 ∧ 0 ≤ D ∧ D ≤ 4294967295
    ∧ (n = 4 → clsI 2 C = 0) ∧ (n ≠ 4 → negV D = C ∧ lesB 2 0 C = decide (n < 4)) := by
  rcases (show n = 0 ∨ n = 1 ∨ n = 2 ∨ n = 3 ∨ n = 4 ∨ n = 5 ∨ n = 6 ∨ n = 7 ∨ n = 8 by omega) with rfl | rfl | rfl | rfl | rfl | rfl | rfl | rfl | rfl
  · exact ⟨0, 1065353216, 1065350583, 3212834231, div_lit _ _ 0 1090519040 _ (by kernel_rfl) (by kernel_rfl) (by kernel_rfl), div_lit _ _ 1090519040 1090519040 _ (by kernel_rfl) (by kernel_rfl) (by kernel_rfl), cos_lit _ 3204448256 3217625051 1075702247 1006666536 3189168436 1059255031 3212834231 _ (by decide) (by kernel_rfl) (by kernel_rfl) (by kernel_rfl) (by kernel_rfl) (by kernel_rfl) (by kernel_rfl) (by kernel_rfl) (by kernel_rfl), cos_lit _ 1056964608 1070141403 1075702247 1006666536 3189168436 1059255031 1065350583 _ (by decide) (by kernel_rfl) (by kernel_rfl) (by kernel_rfl) (by kernel_rfl) (by kernel_rfl) (by kernel_rfl) (by kernel_rfl) (by kernel_rfl), by omega, by omega, by omega, by omega, by omega, by omega, by omega, by omega, fun h => absurd h (by decide), fun _ => ⟨by kernel_rfl, by kernel_rfl⟩⟩
  · exact ⟨1040187392, 1063256064, 1064075926, 3211559574, div_lit _ _ 1065353216 1090519040 _ (by kernel_rfl) (by kernel_rfl) (by kernel_rfl), div_lit _ _ 1088421888 1090519040 _ (by kernel_rfl) (by kernel_rfl) (by kernel_rfl), cos_lit _ 3200253952 3214330852 1068607267 1006896514 3189716715 1061732746 3211559574 _ (by decide) (by kernel_rfl) (by kernel_rfl) (by kernel_rfl) (by kernel_rfl) (by kernel_rfl) (by kernel_rfl) (by kernel_rfl) (by kernel_rfl), cos_lit _ 1052770304 1066847204 1068607267 1006896514 3189716715 1061732746 1064075926 _ (by decide) (by kernel_rfl) (by kernel_rfl) (by kernel_rfl) (by kernel_rfl) (by kernel_rfl) (by kernel_rfl) (by kernel_rfl) (by kernel_rfl), by omega, by omega, by omega, by omega, by omega, by omega, by omega, by omega, fun h => absurd h (by decide), fun _ => ⟨by kernel_rfl, by kernel_rfl⟩⟩
  · exact ⟨1048576000, 1061158912, 1060439278, 3207922926, div_lit _ _ 1073741824 1090519040 _ (by kernel_rfl) (by kernel_rfl) (by kernel_rfl), div_lit _ _ 1086324736 1090519040 _ (by kernel_rfl) (by kernel_rfl) (by kernel_rfl), cos_lit _ 3196059648 3209236443 1058925031 1007060785 3190127342 1063680794 3207922926 _ (by decide) (by kernel_rfl) (by kernel_rfl) (by kernel_rfl) (by kernel_rfl) (by kernel_rfl) (by kernel_rfl) (by kernel_rfl) (by kernel_rfl), cos_lit _ 1048576000 1061752795 1058925031 1007060785 3190127342 1063680794 1060439278 _ (by decide) (by kernel_rfl) (by kernel_rfl) (by kernel_rfl) (by kernel_rfl) (by kernel_rfl) (by kernel_rfl) (by kernel_rfl) (by kernel_rfl), by omega, by omega, by omega, by omega, by omega, by omega, by omega, by omega, fun h => absurd h (by decide), fun _ => ⟨by kernel_rfl, by kernel_rfl⟩⟩
  · exact ⟨1052770304, 1059061760, 1053028117, 3200511765, div_lit _ _ 1077936128 1090519040 _ (by kernel_rfl) (by kernel_rfl) (by kernel_rfl), div_lit _ _ 1084227584 1090519040 _ (by kernel_rfl) (by kernel_rfl) (by kernel_rfl), cos_lit _ 3187671040 3200847835 1042147815 1007159347 3190381318 1064925319 3200511765 _ (by decide) (by kernel_rfl) (by kernel_rfl) (by kernel_rfl) (by kernel_rfl) (by kernel_rfl) (by kernel_rfl) (by kernel_rfl) (by kernel_rfl), cos_lit _ 1040187392 1053364187 1042147815 1007159347 3190381318 1064925319 1053028117 _ (by decide) (by kernel_rfl) (by kernel_rfl) (by kernel_rfl) (by kernel_rfl) (by kernel_rfl) (by kernel_rfl) (by kernel_rfl) (by kernel_rfl), by omega, by omega, by omega, by omega, by omega, by omega, by omega, by omega, fun h => absurd h (by decide), fun _ => ⟨by kernel_rfl, by kernel_rfl⟩⟩
  · exact ⟨1056964608, 1056964608, 2147483648, 2147483648, div_lit _ _ 1082130432 1090519040 _ (by kernel_rfl) (by kernel_rfl) (by kernel_rfl), div_lit _ _ 1082130432 1090519040 _ (by kernel_rfl) (by kernel_rfl) (by kernel_rfl), cos_lit _ 0 0 0 1007192201 3190467243 1065353216 0 _ (by decide) (by kernel_rfl) (by kernel_rfl) (by kernel_rfl) (by kernel_rfl) (by kernel_rfl) (by kernel_rfl) (by kernel_rfl) (by kernel_rfl), cos_lit _ 0 0 0 1007192201 3190467243 1065353216 0 _ (by decide) (by kernel_rfl) (by kernel_rfl) (by kernel_rfl) (by kernel_rfl) (by kernel_rfl) (by kernel_rfl) (by kernel_rfl) (by kernel_rfl), by omega, by omega, by omega, by omega, by omega, by omega, by omega, by omega, fun _ => by decide, fun h => absurd rfl h⟩
  · exact ⟨1059061760, 1052770304, 3200511765, 1053028117, div_lit _ _ 1084227584 1090519040 _ (by kernel_rfl) (by kernel_rfl) (by kernel_rfl), div_lit _ _ 1077936128 1090519040 _ (by kernel_rfl) (by kernel_rfl) (by kernel_rfl), cos_lit _ 1040187392 1053364187 1042147815 1007159347 3190381318 1064925319 1053028117 _ (by decide) (by kernel_rfl) (by kernel_rfl) (by kernel_rfl) (by kernel_rfl) (by kernel_rfl) (by kernel_rfl) (by kernel_rfl) (by kernel_rfl), cos_lit _ 3187671040 3200847835 1042147815 1007159347 3190381318 1064925319 3200511765 _ (by decide) (by kernel_rfl) (by kernel_rfl) (by kernel_rfl) (by kernel_rfl) (by kernel_rfl) (by kernel_rfl) (by kernel_rfl) (by kernel_rfl), by omega, by omega, by omega, by omega, by omega, by omega, by omega, by omega, fun h => absurd h (by decide), fun _ => ⟨by kernel_rfl, by kernel_rfl⟩⟩
  · exact ⟨1061158912, 1048576000, 3207922926, 1060439278, div_lit _ _ 1086324736 1090519040 _ (by kernel_rfl) (by kernel_rfl) (by kernel_rfl), div_lit _ _ 1073741824 1090519040 _ (by kernel_rfl) (by kernel_rfl) (by kernel_rfl), cos_lit _ 1048576000 1061752795 1058925031 1007060785 3190127342 1063680794 1060439278 _ (by decide) (by kernel_rfl) (by kernel_rfl) (by kernel_rfl) (by kernel_rfl) (by kernel_rfl) (by kernel_rfl) (by kernel_rfl) (by kernel_rfl), cos_lit _ 3196059648 3209236443 1058925031 1007060785 3190127342 1063680794 3207922926 _ (by decide) (by kernel_rfl) (by kernel_rfl) (by kernel_rfl) (by kernel_rfl) (by kernel_rfl) (by kernel_rfl) (by kernel_rfl) (by kernel_rfl), by omega, by omega, by omega, by omega, by omega, by omega, by omega, by omega, fun h => absurd h (by decide), fun _ => ⟨by kernel_rfl, by kernel_rfl⟩⟩
  · exact ⟨1063256064, 1040187392, 3211559574, 1064075926, div_lit _ _ 1088421888 1090519040 _ (by kernel_rfl) (by kernel_rfl) (by kernel_rfl), div_lit _ _ 1065353216 1090519040 _ (by kernel_rfl) (by kernel_rfl) (by kernel_rfl), cos_lit _ 1052770304 1066847204 1068607267 1006896514 3189716715 1061732746 1064075926 _ (by decide) (by kernel_rfl) (by kernel_rfl) (by kernel_rfl) (by kernel_rfl) (by kernel_rfl) (by kernel_rfl) (by kernel_rfl) (by kernel_rfl), cos_lit _ 3200253952 3214330852 1068607267 1006896514 3189716715 1061732746 3211559574 _ (by decide) (by kernel_rfl) (by kernel_rfl) (by kernel_rfl) (by kernel_rfl) (by kernel_rfl) (by kernel_rfl) (by kernel_rfl) (by kernel_rfl), by omega, by omega, by omega, by omega, by omega, by omega, by omega, by omega, fun h => absurd h (by decide), fun _ => ⟨by kernel_rfl, by kernel_rfl⟩⟩
  · exact ⟨1065353216, 0, 3212834231, 1065350583, div_lit _ _ 1090519040 1090519040 _ (by kernel_rfl) (by kernel_rfl) (by kernel_rfl), div_lit _ _ 0 1090519040 _ (by kernel_rfl) (by kernel_rfl) (by kernel_rfl), cos_lit _ 1056964608 1070141403 1075702247 1006666536 3189168436 1059255031 1065350583 _ (by decide) (by kernel_rfl) (by kernel_rfl) (by kernel_rfl) (by kernel_rfl) (by kernel_rfl) (by kernel_rfl) (by kernel_rfl) (by kernel_rfl), cos_lit _ 3204448256 3217625051 1075702247 1006666536 3189168436 1059255031 3212834231 _ (by decide) (by kernel_rfl) (by kernel_rfl) (by kernel_rfl) (by kernel_rfl) (by kernel_rfl) (by kernel_rfl) (by kernel_rfl) (by kernel_rfl), by omega, by omega, by omega, by omega, by omega, by omega, by omega, by omega, fun h => absurd h (by decide), fun _ => ⟨by kernel_rfl, by kernel_rfl⟩⟩

set_option maxRecDepth 100000 in
set_option maxHeartbeats 16000000 in
theorem fucos_walk (a0 : Int) (w0 : (Lit.int .u8 a0).wf = true) (w : World) :
    Calls Tryz.prog 4 #[.int .u8 a0] w fun e w' => e = .returned (.bool true) ∧ Grown w w' := by
  obtain ⟨b0, b1⟩ := bounds_u8 w0
  clear w0
  have HG := Lib.hid (Grown.refl w)
  obtain ⟨n, hn⟩ : ∃ n, a0.tmod 9 = n := ⟨_, rfl⟩
  have hnb : 0 ≤ n ∧ n ≤ 8 := by have := Int.tmod_eq_emod_of_nonneg (b := 9) b0; omega
  obtain ⟨n0, n1⟩ := hnb
  obtain ⟨X, Y, C, D, h1, h2, h3, h4, X0, X1, Y0, Y1, C0, C1, D0, D1, h5, h6⟩ := cos_table n n0 n1
  have H1 := Lib.hid (show Ending.returned (.int .u32 (divV (frmV n) (frmV 8))) = .returned (.int .u32 X) by rw [h1])
  have H2 := Lib.hid (show Ending.returned (.int .u32 (divV (frmV (8 - n)) (frmV 8))) = .returned (.int .u32 Y) by rw [h2])
  have H3 := Lib.hid (show Ending.returned (.int .u32 (cosI X)) = .returned (.int .u32 C) by rw [h3])
  have H4 := Lib.hid (show Ending.returned (.int .u32 (cosI Y)) = .returned (.int .u32 D) by rw [h4])
  clear h1 h2 h3 h4
  by_cases c : n = 4
  · have hc := h5 c
    have HC := Lib.hid (show Ending.returned (.int .i64 (clsI 2 C)) = .returned (.int .i64 0) by rw [hc])
    clear h5 h6 hc
    subst c
    have H2' := Lib.hid (show Ending.returned (.int .u32 (divV (frmV 4) (frmV 8))) = .returned (.int .u32 Y) from H2.out)
    have hXY : X = Y := by
      have a := H1.out
      rw [H2'.out] at a
      simp only [Ending.returned.injEq, Value.int.injEq, true_and] at a
      exact a.symm
    subst hXY
    have hCD : C = D := by
      have a := H3.out
      rw [H4.out] at a
      simp only [Ending.returned.injEq, Value.int.injEq, true_and] at a
      exact a.symm
    subst hCD
    clear H2 H2' H4
    go_enter Tryz.func4, Tryz.ntmps4
    go_wp2_with (first
      | (go_at_call 5; refine (known12_any _).mono ?_; rintro e W1 ⟨rfl, hW1⟩; replace HG := Lib.hid (show Grown w W1 from grown_trans (by repeat (first | with_reducible exact HG.out | with_reducible refine Grown.setCell ?_ (by simp <;> omega) _ | with_reducible refine Grown.alloc ?_ _ _ | with_reducible refine grown_more ?_ _ | with_reducible refine Grown.drew ?_)) hW1); clear hW1)
      | (go_at_call 23; refine (nint_any _ _ (by omega) (by omega)).mono ?_; rintro e W1 ⟨rfl, _, _, hW1⟩; replace HG := Lib.hid (show Grown w W1 from grown_trans (by repeat (first | with_reducible exact HG.out | with_reducible refine Grown.setCell ?_ (by simp <;> omega) _ | with_reducible refine Grown.alloc ?_ _ _ | with_reducible refine grown_more ?_ _ | with_reducible refine Grown.drew ?_)) hW1); clear hW1)
      | (go_at_call 22; refine (ndiv_any _ _ _ (by omega) (by omega) (by omega) (by omega)).mono ?_; rintro e W1 ⟨he, _, _, hW1⟩; rw [H1.out] at he; subst he; replace HG := Lib.hid (show Grown w W1 from grown_trans (by repeat (first | with_reducible exact HG.out | with_reducible refine Grown.setCell ?_ (by simp <;> omega) _ | with_reducible refine Grown.alloc ?_ _ _ | with_reducible refine grown_more ?_ _ | with_reducible refine Grown.drew ?_)) hW1); clear hW1)
      | (go_at_call 20; refine (fcos_any _ _ (by omega) (by omega)).mono ?_; rintro e W1 ⟨he, _, _, hW1⟩; rw [H3.out] at he; subst he; replace HG := Lib.hid (show Grown w W1 from grown_trans (by repeat (first | with_reducible exact HG.out | with_reducible refine Grown.setCell ?_ (by simp <;> omega) _ | with_reducible refine Grown.alloc ?_ _ _ | with_reducible refine grown_more ?_ _ | with_reducible refine Grown.drew ?_)) hW1); clear hW1)
      | (go_at_call 24; refine (rclass_any _ _ _ (by omega) (by omega)).mono ?_; rintro e W1 ⟨he, dm, rfl⟩; rw [HC.out] at he; subst he))
    go_ret
    exact ⟨rfl, by repeat (first | with_reducible exact HG.out | with_reducible refine Grown.setCell ?_ (by simp <;> omega) _ | with_reducible refine Grown.alloc ?_ _ _ | with_reducible refine grown_more ?_ _ | with_reducible refine Grown.drew ?_)⟩
  · obtain ⟨hd, hl⟩ := h6 c
    have HD := Lib.hid (show Ending.returned (.int .u32 (negV D)) = .returned (.int .u32 C) by rw [hd])
    have HL := Lib.hid (show Ending.returned (.bool (lesB 2 0 C)) = .returned (.bool (decide (n < 4))) by rw [hl])
    clear h5 h6 hd hl
    by_cases c2 : n < 4
    · go_enter Tryz.func4, Tryz.ntmps4
      go_wp2_with (first
        | (go_at_call 5; refine (known12_any _).mono ?_; rintro e W1 ⟨rfl, hW1⟩; replace HG := Lib.hid (show Grown w W1 from grown_trans (by repeat (first | with_reducible exact HG.out | with_reducible refine Grown.setCell ?_ (by simp <;> omega) _ | with_reducible refine Grown.alloc ?_ _ _ | with_reducible refine grown_more ?_ _ | with_reducible refine Grown.drew ?_)) hW1); clear hW1)
        | (go_at_call 23; refine (nint_any _ _ (by omega) (by omega)).mono ?_; rintro e W1 ⟨rfl, _, _, hW1⟩; replace HG := Lib.hid (show Grown w W1 from grown_trans (by repeat (first | with_reducible exact HG.out | with_reducible refine Grown.setCell ?_ (by simp <;> omega) _ | with_reducible refine Grown.alloc ?_ _ _ | with_reducible refine grown_more ?_ _ | with_reducible refine Grown.drew ?_)) hW1); clear hW1)
        | (go_at_call 22; refine (ndiv_any _ _ _ (by omega) (by omega) (by omega) (by omega)).mono ?_; rintro e W1 ⟨he, _, _, hW1⟩; (first | rw [H1.out] at he | rw [H2.out] at he); subst he; replace HG := Lib.hid (show Grown w W1 from grown_trans (by repeat (first | with_reducible exact HG.out | with_reducible refine Grown.setCell ?_ (by simp <;> omega) _ | with_reducible refine Grown.alloc ?_ _ _ | with_reducible refine grown_more ?_ _ | with_reducible refine Grown.drew ?_)) hW1); clear hW1)
        | (go_at_call 20; refine (fcos_any _ _ (by omega) (by omega)).mono ?_; rintro e W1 ⟨he, _, _, hW1⟩; (first | rw [H3.out] at he | rw [H4.out] at he); subst he; replace HG := Lib.hid (show Grown w W1 from grown_trans (by repeat (first | with_reducible exact HG.out | with_reducible refine Grown.setCell ?_ (by simp <;> omega) _ | with_reducible refine Grown.alloc ?_ _ _ | with_reducible refine grown_more ?_ _ | with_reducible refine Grown.drew ?_)) hW1); clear hW1)
        | (go_at_call 25; refine (rminus_any 2 _ _ (by omega) (by omega)).mono ?_; rintro e W1 ⟨he, hW1⟩; rw [show minI 2 D = negV D from rfl, HD.out] at he; subst he; replace HG := Lib.hid (show Grown w W1 from grown_trans (by repeat (first | with_reducible exact HG.out | with_reducible refine Grown.setCell ?_ (by simp <;> omega) _ | with_reducible refine Grown.alloc ?_ _ _ | with_reducible refine grown_more ?_ _ | with_reducible refine Grown.drew ?_)) hW1); clear hW1)
        | (go_at_call 26; refine (rless_any 2 _ _ _ (by omega) (by omega) (by omega) (by omega)).mono ?_; rintro e W1 ⟨he, hW1⟩; rw [HL.out] at he; subst he; replace HG := Lib.hid (show Grown w W1 from grown_trans (by repeat (first | with_reducible exact HG.out | with_reducible refine Grown.setCell ?_ (by simp <;> omega) _ | with_reducible refine Grown.alloc ?_ _ _ | with_reducible refine grown_more ?_ _ | with_reducible refine Grown.drew ?_)) hW1); clear hW1))
      go_ret
      exact ⟨rfl, by repeat (first | with_reducible exact HG.out | with_reducible refine Grown.setCell ?_ (by simp <;> omega) _ | with_reducible refine Grown.alloc ?_ _ _ | with_reducible refine grown_more ?_ _ | with_reducible refine Grown.drew ?_)⟩
    · go_enter Tryz.func4, Tryz.ntmps4
      go_wp2_with (first
        | (go_at_call 5; refine (known12_any _).mono ?_; rintro e W1 ⟨rfl, hW1⟩; replace HG := Lib.hid (show Grown w W1 from grown_trans (by repeat (first | with_reducible exact HG.out | with_reducible refine Grown.setCell ?_ (by simp <;> omega) _ | with_reducible refine Grown.alloc ?_ _ _ | with_reducible refine grown_more ?_ _ | with_reducible refine Grown.drew ?_)) hW1); clear hW1)
        | (go_at_call 23; refine (nint_any _ _ (by omega) (by omega)).mono ?_; rintro e W1 ⟨rfl, _, _, hW1⟩; replace HG := Lib.hid (show Grown w W1 from grown_trans (by repeat (first | with_reducible exact HG.out | with_reducible refine Grown.setCell ?_ (by simp <;> omega) _ | with_reducible refine Grown.alloc ?_ _ _ | with_reducible refine grown_more ?_ _ | with_reducible refine Grown.drew ?_)) hW1); clear hW1)
        | (go_at_call 22; refine (ndiv_any _ _ _ (by omega) (by omega) (by omega) (by omega)).mono ?_; rintro e W1 ⟨he, _, _, hW1⟩; (first | rw [H1.out] at he | rw [H2.out] at he); subst he; replace HG := Lib.hid (show Grown w W1 from grown_trans (by repeat (first | with_reducible exact HG.out | with_reducible refine Grown.setCell ?_ (by simp <;> omega) _ | with_reducible refine Grown.alloc ?_ _ _ | with_reducible refine grown_more ?_ _ | with_reducible refine Grown.drew ?_)) hW1); clear hW1)
        | (go_at_call 20; refine (fcos_any _ _ (by omega) (by omega)).mono ?_; rintro e W1 ⟨he, _, _, hW1⟩; (first | rw [H3.out] at he | rw [H4.out] at he); subst he; replace HG := Lib.hid (show Grown w W1 from grown_trans (by repeat (first | with_reducible exact HG.out | with_reducible refine Grown.setCell ?_ (by simp <;> omega) _ | with_reducible refine Grown.alloc ?_ _ _ | with_reducible refine grown_more ?_ _ | with_reducible refine Grown.drew ?_)) hW1); clear hW1)
        | (go_at_call 25; refine (rminus_any 2 _ _ (by omega) (by omega)).mono ?_; rintro e W1 ⟨he, hW1⟩; rw [show minI 2 D = negV D from rfl, HD.out] at he; subst he; replace HG := Lib.hid (show Grown w W1 from grown_trans (by repeat (first | with_reducible exact HG.out | with_reducible refine Grown.setCell ?_ (by simp <;> omega) _ | with_reducible refine Grown.alloc ?_ _ _ | with_reducible refine grown_more ?_ _ | with_reducible refine Grown.drew ?_)) hW1); clear hW1)
        | (go_at_call 26; refine (rless_any 2 _ _ _ (by omega) (by omega) (by omega) (by omega)).mono ?_; rintro e W1 ⟨he, hW1⟩; rw [HL.out] at he; subst he; replace HG := Lib.hid (show Grown w W1 from grown_trans (by repeat (first | with_reducible exact HG.out | with_reducible refine Grown.setCell ?_ (by simp <;> omega) _ | with_reducible refine Grown.alloc ?_ _ _ | with_reducible refine grown_more ?_ _ | with_reducible refine Grown.drew ?_)) hW1); clear hW1))
      go_ret
      exact ⟨rfl, by repeat (first | with_reducible exact HG.out | with_reducible refine Grown.setCell ?_ (by simp <;> omega) _ | with_reducible refine Grown.alloc ?_ _ _ | with_reducible refine grown_more ?_ _ | with_reducible refine Grown.drew ?_)⟩
end Go.Proofs.YtheaeclojljecaaGreat
