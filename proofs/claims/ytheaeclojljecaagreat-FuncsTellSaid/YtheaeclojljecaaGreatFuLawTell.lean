/- The walk of FuncsTell. (Written by gen33.py.) -/
import Derived.Test.YtheaeclojljecaaGreatFuKnown
import Derived.Test.YtheaeclojljecaaGreatRFun
import Derived.Test.YtheaeclojljecaaGreatMild
import Derived.OpenShut
namespace Go.Proofs.YtheaeclojljecaaGreat
open Go.RowKit
set_option linter.unusedVariables false
set_option linter.unusedSimpArgs false

def FuRel (w : World) (b : Nat) (i : Value) (W : World) : Prop := ∃ k : Nat, k ≤ 5 ∧ i = .int .i64 k ∧ Grown w W ∧ Holds .u32 5 0 4294967295 b W

set_option maxRecDepth 100000 in
set_option maxHeartbeats 16000000 in
theorem futell_walk (a0 a1 : Int) (w0 : (Lit.int .u32 a0).wf = true) (w1 : (Lit.int .u32 a1).wf = true) (w : World) :
    Calls Tryz.prog 3 #[.int .u32 a0, .int .u32 a1] w fun e w' => e = .returned (.bool true) ∧ Grown w w' := by
  obtain ⟨b0, b1⟩ := bounds_u32 w0
  obtain ⟨b2, b3⟩ := bounds_u32 w1
  clear w0 w1
  have HG := Lib.hid (Grown.refl w)
  have t1 : a1.tmod 67108864 = a1 % 67108864 := Int.tmod_eq_emod_of_nonneg b2
  go_enter Tryz.func3, Tryz.ntmps3
  go_wp2_with (first
    | (go_at_call 5; refine (known12_any _).mono ?_; rintro e W1 ⟨rfl, hW⟩; replace HG := Lib.hid (show Grown w W1 from grown_trans HG.out hW); clear hW)
    | (go_at_call 6; refine (num_any _ _ _ b2 b3).mono ?_; rintro e W2 ⟨⟨N1, he, N1a, N1b⟩, hW⟩; subst he; replace HG := Lib.hid (show Grown w W2 from grown_trans (by repeat (first | with_reducible exact HG.out | with_reducible refine Grown.setCell ?_ (by simp <;> omega) _ | with_reducible refine Grown.alloc ?_ _ _ | with_reducible refine grown_more ?_ _ | with_reducible refine Grown.drew ?_)) hW); clear hW)
    | (go_at_call 7; refine (mild_any _ _ _ b2 b3).mono ?_; rintro e W3 ⟨⟨N2, he, N2a, N2b⟩, hW⟩; subst he; replace HG := Lib.hid (show Grown w W3 from grown_trans (by repeat (first | with_reducible exact HG.out | with_reducible refine Grown.setCell ?_ (by simp <;> omega) _ | with_reducible refine Grown.alloc ?_ _ _ | with_reducible refine grown_more ?_ _ | with_reducible refine Grown.drew ?_)) hW); clear hW))
  go_loopw [22] (fun i wr1 => FuRel w W3.heap.size i wr1) (fun i _ => (5 - intOf i).toNat)
  case atStart =>
    exact ⟨0, by decide, rfl, Grown.alloc HG.out _ _, Holds.new rfl (by
      intro v hv
      simp only [List.mem_cons, List.not_mem_nil, or_false] at hv
      rcases hv with rfl | rfl | rfl | rfl | rfl <;> first | exact ⟨_, rfl, by omega, by omega⟩ | exact ⟨_, rfl, (bounds_u32 (wf_wrap .u32 _)).1, (bounds_u32 (wf_wrap .u32 _)).2⟩)⟩
  case round =>
    rename World => wr1
    clear HG
    obtain ⟨K, hK, rfl, hG, hH⟩ := hrel
    have HG := Lib.hid hG
    have H1 := Lib.hid hH
    clear hG hH
    by_cases c : (K : Int) < 5
    · obtain ⟨x, hx, x0, x1⟩ := H1.out.2 K (by omega)
      have HX := Lib.hid (Grown.refl wr1)
      go_wp2_with (first
        | (go_at_call 8; refine (fexp_any _ _ x0 x1).mono ?_; rintro e WC ⟨rfl, _, _, hW⟩; replace HX := Lib.hid (show Grown wr1 WC from grown_trans (by repeat (first | with_reducible exact HX.out | with_reducible refine Grown.setCell ?_ (by simp <;> omega) _ | with_reducible refine Grown.alloc ?_ _ _ | with_reducible refine grown_more ?_ _ | with_reducible refine Grown.drew ?_)) hW); clear hW)
        | (go_at_call 9; refine (nexp_any _ _ x0 x1).mono ?_; rintro e WC ⟨rfl, _, _, hW⟩; replace HX := Lib.hid (show Grown wr1 WC from grown_trans (by repeat (first | with_reducible exact HX.out | with_reducible refine Grown.setCell ?_ (by simp <;> omega) _ | with_reducible refine Grown.alloc ?_ _ _ | with_reducible refine grown_more ?_ _ | with_reducible refine Grown.drew ?_)) hW); clear hW)
        | (go_at_call 10; refine (flog_any _ _ x0 x1).mono ?_; rintro e WC ⟨rfl, _, _, hW⟩; replace HX := Lib.hid (show Grown wr1 WC from grown_trans (by repeat (first | with_reducible exact HX.out | with_reducible refine Grown.setCell ?_ (by simp <;> omega) _ | with_reducible refine Grown.alloc ?_ _ _ | with_reducible refine grown_more ?_ _ | with_reducible refine Grown.drew ?_)) hW); clear hW)
        | (go_at_call 11; refine (nlog_any _ _ x0 x1).mono ?_; rintro e WC ⟨rfl, _, _, hW⟩; replace HX := Lib.hid (show Grown wr1 WC from grown_trans (by repeat (first | with_reducible exact HX.out | with_reducible refine Grown.setCell ?_ (by simp <;> omega) _ | with_reducible refine Grown.alloc ?_ _ _ | with_reducible refine grown_more ?_ _ | with_reducible refine Grown.drew ?_)) hW); clear hW)
        | (go_at_call 12; refine (ftan_any _ _ x0 x1).mono ?_; rintro e WC ⟨rfl, _, _, hW⟩; replace HX := Lib.hid (show Grown wr1 WC from grown_trans (by repeat (first | with_reducible exact HX.out | with_reducible refine Grown.setCell ?_ (by simp <;> omega) _ | with_reducible refine Grown.alloc ?_ _ _ | with_reducible refine grown_more ?_ _ | with_reducible refine Grown.drew ?_)) hW); clear hW)
        | (go_at_call 13; refine (ntan_any _ _ x0 x1).mono ?_; rintro e WC ⟨rfl, _, _, hW⟩; replace HX := Lib.hid (show Grown wr1 WC from grown_trans (by repeat (first | with_reducible exact HX.out | with_reducible refine Grown.setCell ?_ (by simp <;> omega) _ | with_reducible refine Grown.alloc ?_ _ _ | with_reducible refine grown_more ?_ _ | with_reducible refine Grown.drew ?_)) hW); clear hW)
        | (go_at_call 14; refine (fsig_any _ _ x0 x1).mono ?_; rintro e WC ⟨rfl, _, _, hW⟩; replace HX := Lib.hid (show Grown wr1 WC from grown_trans (by repeat (first | with_reducible exact HX.out | with_reducible refine Grown.setCell ?_ (by simp <;> omega) _ | with_reducible refine Grown.alloc ?_ _ _ | with_reducible refine grown_more ?_ _ | with_reducible refine Grown.drew ?_)) hW); clear hW)
        | (go_at_call 15; refine (nsig_any _ _ x0 x1).mono ?_; rintro e WC ⟨rfl, _, _, hW⟩; replace HX := Lib.hid (show Grown wr1 WC from grown_trans (by repeat (first | with_reducible exact HX.out | with_reducible refine Grown.setCell ?_ (by simp <;> omega) _ | with_reducible refine Grown.alloc ?_ _ _ | with_reducible refine grown_more ?_ _ | with_reducible refine Grown.drew ?_)) hW); clear hW)
        | (go_at_call 16; refine (fgel_any _ _ x0 x1).mono ?_; rintro e WC ⟨rfl, _, _, hW⟩; replace HX := Lib.hid (show Grown wr1 WC from grown_trans (by repeat (first | with_reducible exact HX.out | with_reducible refine Grown.setCell ?_ (by simp <;> omega) _ | with_reducible refine Grown.alloc ?_ _ _ | with_reducible refine grown_more ?_ _ | with_reducible refine Grown.drew ?_)) hW); clear hW)
        | (go_at_call 17; refine (ngel_any _ _ x0 x1).mono ?_; rintro e WC ⟨rfl, _, _, hW⟩; replace HX := Lib.hid (show Grown wr1 WC from grown_trans (by repeat (first | with_reducible exact HX.out | with_reducible refine Grown.setCell ?_ (by simp <;> omega) _ | with_reducible refine Grown.alloc ?_ _ _ | with_reducible refine grown_more ?_ _ | with_reducible refine Grown.drew ?_)) hW); clear hW)
        | (go_at_call 18; refine (fslo_any _ _ x0 x1).mono ?_; rintro e WC ⟨rfl, _, _, hW⟩; replace HX := Lib.hid (show Grown wr1 WC from grown_trans (by repeat (first | with_reducible exact HX.out | with_reducible refine Grown.setCell ?_ (by simp <;> omega) _ | with_reducible refine Grown.alloc ?_ _ _ | with_reducible refine grown_more ?_ _ | with_reducible refine Grown.drew ?_)) hW); clear hW)
        | (go_at_call 19; refine (nslo_any _ _ x0 x1).mono ?_; rintro e WC ⟨rfl, _, _, hW⟩; replace HX := Lib.hid (show Grown wr1 WC from grown_trans (by repeat (first | with_reducible exact HX.out | with_reducible refine Grown.setCell ?_ (by simp <;> omega) _ | with_reducible refine Grown.alloc ?_ _ _ | with_reducible refine grown_more ?_ _ | with_reducible refine Grown.drew ?_)) hW); clear hW)
        | (go_at_call 20; refine (fcos_any _ _ x0 x1).mono ?_; rintro e WC ⟨rfl, _, _, hW⟩; replace HX := Lib.hid (show Grown wr1 WC from grown_trans (by repeat (first | with_reducible exact HX.out | with_reducible refine Grown.setCell ?_ (by simp <;> omega) _ | with_reducible refine Grown.alloc ?_ _ _ | with_reducible refine grown_more ?_ _ | with_reducible refine Grown.drew ?_)) hW); clear hW)
        | (go_at_call 21; refine (ncos_any _ _ x0 x1).mono ?_; rintro e WC ⟨rfl, _, _, hW⟩; replace HX := Lib.hid (show Grown wr1 WC from grown_trans (by repeat (first | with_reducible exact HX.out | with_reducible refine Grown.setCell ?_ (by simp <;> omega) _ | with_reducible refine Grown.alloc ?_ _ _ | with_reducible refine grown_more ?_ _ | with_reducible refine Grown.drew ?_)) hW); clear hW))
      go_roundw
      case rel => exact ⟨K + 1, by omega, by go_num, grown_trans HG.out HX.out, H1.out.grown HX.out⟩
      case measure => simp [intOf]; omega
    · go_wp2
      go_ret
      exact ⟨rfl, HG.out⟩
end Go.Proofs.YtheaeclojljecaaGreat
