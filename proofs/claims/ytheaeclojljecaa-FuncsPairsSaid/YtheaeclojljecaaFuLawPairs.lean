/- The walk of FuncsPairs. (Written by gen43.py.) -/
import Derived.Test.YtheaeclojljecaaFuKnown
import Derived.Test.YtheaeclojljecaaPairG
import Derived.Test.YtheaeclojljecaaMild
import Derived.Test.YtheaeclojljecaaROrd
namespace Go.Proofs.Ytheaeclojljecaa
open Go.RowKit
set_option linter.unusedVariables false
set_option linter.unusedSimpArgs false

/-- A mild Single without its sign: nought, or from a quarter to below 4. -/
theorem mil_two (k : Int) (k0 : 0 ≤ k) : milI 2 k % 2147483648 = 0 ∨ (1048576000 ≤ milI 2 k % 2147483648 ∧ milI 2 k % 2147483648 ≤ 1082130431) := by
  have h1 : bia 2 = 127 := rfl
  have h2 : hid 2 = 8388608 := rfl
  have h3 : sgb 2 = 2147483648 := rfl
  unfold milI milA
  rw [h1, h2, h3]
  (repeat' split) <;> omega

theorem log_nought : logI 0 = 4286578688 := by kernel_rfl

set_option maxRecDepth 100000 in
set_option maxHeartbeats 16000000 in
theorem fupairs_walk (a0 : Int) (w0 : (Lit.int .u32 a0).wf = true) (w : World) :
    Calls Try.prog 5 #[.int .u32 a0] w fun e w' => e = .returned (.bool true) ∧ Grown w w' := by
  obtain ⟨b0, b1⟩ := bounds_u32 w0
  clear w0
  have HG := Lib.hid (Grown.refl w)
  have hm := mil_two a0 b0
  obtain ⟨X0, X1⟩ := mil_bd 2 a0 b0
  obtain ⟨X, hX⟩ : ∃ X, milI 2 a0 = X := ⟨_, rfl⟩
  rw [hX] at hm X0 X1
  have HX := Lib.hid (show Ending.returned (.int .u32 (milI 2 a0)) = .returned (.int .u32 X) by rw [hX])
  have hand : bits .andNot .u32 X 2147483648 = X % 2147483648 := no_land X X0 X1
  obtain ⟨x, hx⟩ : ∃ x, X % 2147483648 = x := ⟨_, rfl⟩
  rw [hx] at hand hm
  clear hX hx
  rcases hm with hz | ⟨x0, x1⟩
  · subst hz
    have HL := Lib.hid (show Ending.returned (.int .u32 (logI 0)) = .returned (.int .u32 4286578688) by rw [log_nought])
    go_enter Try.func5, Try.ntmps5
    go_wp2_with (first
      | (go_at_call 6; refine (known12_any _).mono ?_; rintro e W1 ⟨rfl, hW1⟩; replace HG := Lib.hid (show Grown w W1 from grown_trans (by repeat (first | with_reducible exact HG.out | with_reducible refine Grown.setCell ?_ (by simp <;> omega) _ | with_reducible refine Grown.alloc ?_ _ _ | with_reducible refine grown_more ?_ _ | with_reducible refine Grown.drew ?_)) hW1); clear hW1)
      | (go_at_call 15; refine (mild_is 2 a0 _ b0 b1).mono ?_; rintro e W1 ⟨he, dm, hd⟩; rw [HX.out] at he; subst he; have hW1 := grown_of_drew hd; clear hd; replace HG := Lib.hid (show Grown w W1 from grown_trans (by repeat (first | with_reducible exact HG.out | with_reducible refine Grown.setCell ?_ (by simp <;> omega) _ | with_reducible refine Grown.alloc ?_ _ _ | with_reducible refine grown_more ?_ _ | with_reducible refine Grown.drew ?_)) hW1); clear hW1)
      | (go_at_call 8; refine (flog_any _ _ (by omega) (by omega)).mono ?_; rintro e W1 ⟨he, _, _, hW1⟩; (first | rw [HL.out] at he); subst he; replace HG := Lib.hid (show Grown w W1 from grown_trans (by repeat (first | with_reducible exact HG.out | with_reducible refine Grown.setCell ?_ (by simp <;> omega) _ | with_reducible refine Grown.alloc ?_ _ _ | with_reducible refine grown_more ?_ _ | with_reducible refine Grown.drew ?_)) hW1); clear hW1))
    go_ret
    exact ⟨rfl, by repeat (first | with_reducible exact HG.out | with_reducible refine Grown.setCell ?_ (by simp <;> omega) _ | with_reducible refine Grown.alloc ?_ _ _ | with_reducible refine grown_more ?_ _ | with_reducible refine Grown.drew ?_)⟩
  · obtain ⟨p1, p2, p3, p4⟩ := pairs_all x x0 x1
    obtain ⟨L, hL⟩ : ∃ L, logI x = L := ⟨_, rfl⟩
    have hLw := log_word x
    rw [hL] at p1 p2 p3 p4 hLw
    obtain ⟨L0, L1⟩ := hLw
    obtain ⟨Y, hY⟩ : ∃ Y, expI L = Y := ⟨_, rfl⟩
    have hYw := exp_word L L0 L1
    rw [hY] at p2 p3 hYw
    obtain ⟨Y0, Y1⟩ := hYw
    obtain ⟨P, hP⟩ : ∃ P, keyI 2 Y = P := ⟨_, rfl⟩
    obtain ⟨Q, hQ⟩ : ∃ Q, keyI 2 x = Q := ⟨_, rfl⟩
    have hQx := key_of_pos x (by omega) (by omega)
    rw [hP, hQ] at p2 p3
    rw [hQ] at hQx
    obtain ⟨D, hD⟩ : ∃ D, P - Q = D := ⟨_, rfl⟩
    rw [hD] at p2 p3
    obtain ⟨B, hB⟩ : ∃ B, lesB 2 x 1065353216 = B := ⟨_, rfl⟩
    have hB2 : lesB 2 L 0 = B := by rw [← p4]; exact hB
    have HL := Lib.hid (show Ending.returned (.int .u32 (logI x)) = .returned (.int .u32 L) by rw [hL])
    have HY := Lib.hid (show Ending.returned (.int .u32 (expI L)) = .returned (.int .u32 Y) by rw [hY])
    have HK1 := Lib.hid (show Ending.returned (.int .i64 (keyI 2 Y)) = .returned (.int .i64 P) by rw [hP])
    have HK2 := Lib.hid (show Ending.returned (.int .i64 (keyI 2 x)) = .returned (.int .i64 Q) by rw [hQ])
    have HF := Lib.hid (show Ending.returned (.bool (finI 2 L)) = .returned (.bool true) by rw [p1])
    have HL1 := Lib.hid (show Ending.returned (.bool (lesB 2 x 1065353216)) = .returned (.bool B) by rw [hB])
    have HL2 := Lib.hid (show Ending.returned (.bool (lesB 2 L 0)) = .returned (.bool B) by rw [hB2])
    have hwD : IntKind.i64.wrap D = D := by rw [IntKind.wrap_i64]; omega
    have hwD2 : wrap64 D = D := by rw [wrap64_is]; exact hwD
    have hBB : (B == B) = true := by simp
    have hxne : (x == 0) = false := by simp only [beq_eq_false_iff_ne]; omega
    have hgt : decide (-64 < D) = true := decide_eq_true p2
    have hlt : decide (D < 64) = true := decide_eq_true p3
    clear p1 p4 hL hY hP hQ hQx hB hB2
    go_enter Try.func5, Try.ntmps5
    go_wp2_with (first
      | (go_at_call 6; refine (known12_any _).mono ?_; rintro e W1 ⟨rfl, hW1⟩; replace HG := Lib.hid (show Grown w W1 from grown_trans (by repeat (first | with_reducible exact HG.out | with_reducible refine Grown.setCell ?_ (by simp <;> omega) _ | with_reducible refine Grown.alloc ?_ _ _ | with_reducible refine grown_more ?_ _ | with_reducible refine Grown.drew ?_)) hW1); clear hW1)
      | (go_at_call 15; refine (mild_is 2 a0 _ b0 b1).mono ?_; rintro e W1 ⟨he, dm, hd⟩; rw [HX.out] at he; subst he; have hW1 := grown_of_drew hd; clear hd; replace HG := Lib.hid (show Grown w W1 from grown_trans (by repeat (first | with_reducible exact HG.out | with_reducible refine Grown.setCell ?_ (by simp <;> omega) _ | with_reducible refine Grown.alloc ?_ _ _ | with_reducible refine grown_more ?_ _ | with_reducible refine Grown.drew ?_)) hW1); clear hW1)
      | (go_at_call 8; refine (flog_any _ _ (by omega) (by omega)).mono ?_; rintro e W1 ⟨he, _, _, hW1⟩; (first | rw [HL.out] at he); subst he; replace HG := Lib.hid (show Grown w W1 from grown_trans (by repeat (first | with_reducible exact HG.out | with_reducible refine Grown.setCell ?_ (by simp <;> omega) _ | with_reducible refine Grown.alloc ?_ _ _ | with_reducible refine grown_more ?_ _ | with_reducible refine Grown.drew ?_)) hW1); clear hW1)
      | (go_at_call 7; refine (fexp_any _ _ (by omega) (by omega)).mono ?_; rintro e W1 ⟨he, _, _, hW1⟩; (first | rw [HY.out] at he); subst he; replace HG := Lib.hid (show Grown w W1 from grown_trans (by repeat (first | with_reducible exact HG.out | with_reducible refine Grown.setCell ?_ (by simp <;> omega) _ | with_reducible refine Grown.alloc ?_ _ _ | with_reducible refine grown_more ?_ _ | with_reducible refine Grown.drew ?_)) hW1); clear hW1)
      | (go_at_call 16; refine (rkey_any 2 _ _ (by omega) (by omega)).mono ?_; rintro e W1 ⟨he, dm, hd⟩; (first | rw [HK1.out] at he | rw [HK2.out] at he); subst he; have hW1 := grown_of_drew hd; clear hd; replace HG := Lib.hid (show Grown w W1 from grown_trans (by repeat (first | with_reducible exact HG.out | with_reducible refine Grown.setCell ?_ (by simp <;> omega) _ | with_reducible refine Grown.alloc ?_ _ _ | with_reducible refine grown_more ?_ _ | with_reducible refine Grown.drew ?_)) hW1); clear hW1)
      | (go_at_call 17; refine (rfinite_any 2 _ _ (by omega) (by omega)).mono ?_; rintro e W1 ⟨he, dm, hd⟩; rw [HF.out] at he; subst he; have hW1 := grown_of_drew hd; clear hd; replace HG := Lib.hid (show Grown w W1 from grown_trans (by repeat (first | with_reducible exact HG.out | with_reducible refine Grown.setCell ?_ (by simp <;> omega) _ | with_reducible refine Grown.alloc ?_ _ _ | with_reducible refine grown_more ?_ _ | with_reducible refine Grown.drew ?_)) hW1); clear hW1)
      | (go_at_call 18; refine (rless_any 2 _ _ _ (by omega) (by omega) (by omega) (by omega)).mono ?_; rintro e W1 ⟨he, hW1⟩; (first | rw [HL1.out] at he | rw [HL2.out] at he); subst he; replace HG := Lib.hid (show Grown w W1 from grown_trans (by repeat (first | with_reducible exact HG.out | with_reducible refine Grown.setCell ?_ (by simp <;> omega) _ | with_reducible refine Grown.alloc ?_ _ _ | with_reducible refine grown_more ?_ _ | with_reducible refine Grown.drew ?_)) hW1); clear hW1))
    all_goals
      go_ret
      exact ⟨rfl, by repeat (first | with_reducible exact HG.out | with_reducible refine Grown.setCell ?_ (by simp <;> omega) _ | with_reducible refine Grown.alloc ?_ _ _ | with_reducible refine grown_more ?_ _ | with_reducible refine Grown.drew ?_)⟩
end Go.Proofs.Ytheaeclojljecaa
