/- The walk of ChanceTells. -/
import Derived.Test.YtfdfbgmnfiiipaaHKnown
import Derived.Test.YtfdfbgmnfiiipaaRCha
import Derived.Test.YtfdfbgmnfiiipaaNum
import Derived.Test.YtfdfbgmnfiiipaaMild
import Derived.OpenShut
namespace Go.Proofs.Ytfdfbgmnfiiipaa
open Go.RowKit
set_option linter.unusedVariables false
set_option linter.unusedSimpArgs false

abbrev IntsH (n b : Nat) (W : World) : Prop := Holds .i64 n (-9223372036854775808) 9223372036854775807 b W

abbrev WordsH (n b : Nat) (W : World) : Prop := Holds .u32 n 0 4294967295 b W

def HTRel1 (w : World) (b : Nat) (i : Value) (W : World) : Prop := ∃ k : Nat, k ≤ 4 ∧ i = .int .i64 k ∧ Grown w W ∧ IntsH 4 b W

def HTRel2 (w : World) (b c : Nat) (i : Value) (W : World) : Prop := ∃ k : Nat, k ≤ 7 ∧ i = .int .i64 k ∧ Grown w W ∧ IntsH 4 b W ∧ WordsH 7 c W

def HTRel3 (w : World) (b c d : Nat) (i : Value) (W : World) : Prop := ∃ k : Nat, k ≤ 4 ∧ i = .int .i64 k ∧ Grown w W ∧ IntsH 4 b W ∧ WordsH 7 c W ∧ WordsH 4 d W

set_option maxRecDepth 100000 in
set_option maxHeartbeats 16000000 in
theorem htells_walk (a0 a1 a2 a3 : Int) (w0 : (Lit.int .i64 a0).wf = true) (w1 : (Lit.int .u32 a1).wf = true) (w2 : (Lit.int .u32 a2).wf = true) (w3 : (Lit.int .u32 a3).wf = true) (w : World) :
    Calls Try.prog 3 #[.int .i64 a0, .int .u32 a1, .int .u32 a2, .int .u32 a3] w fun e w' => e = .returned (.bool true) ∧ Grown w w' := by
  obtain ⟨b0, b1⟩ := bounds_i64 w0
  obtain ⟨b2, b3⟩ := bounds_u32 w1
  obtain ⟨b4, b5⟩ := bounds_u32 w2
  obtain ⟨b6, b7⟩ := bounds_u32 w3
  clear w0 w1 w2 w3
  have HG := Lib.hid (Grown.refl w)
  have t1 : a1.tmod 805306368 = a1 % 805306368 := Int.tmod_eq_emod_of_nonneg b2
  have t2 : a1.tmod 12288 = a1 % 12288 := Int.tmod_eq_emod_of_nonneg b2
  have t3 : a1.tmod 65536 = a1 % 65536 := Int.tmod_eq_emod_of_nonneg b2
  have t4 : a1.tmod 100663296 = a1 % 100663296 := Int.tmod_eq_emod_of_nonneg b2
  go_enter Try.func3, Try.ntmps3
  go_wp2_with (go_at_call 7; refine (known11_any _).mono ?_; rintro e W1 ⟨rfl, hW⟩; replace HG := Lib.hid (show Grown w W1 from grown_trans HG.out hW); clear hW)
  go_loopw [20] (fun i wr1 => HTRel1 w W1.heap.size i wr1) (fun i _ => (4 - intOf i).toNat)
  case atStart =>
    exact ⟨0, by decide, rfl, Grown.alloc HG.out _ _, Holds.new rfl (by
      intro v hv
      simp only [List.mem_cons, List.not_mem_nil, or_false] at hv
      rcases hv with rfl | rfl | rfl | rfl <;> exact ⟨_, rfl, by omega, by omega⟩)⟩
  case round =>
    rename World => wr1
    clear HG
    obtain ⟨K, hK, rfl, hG, hH⟩ := hrel
    have HG := Lib.hid hG
    have H1 := Lib.hid hH
    clear hG hH
    by_cases c : (K : Int) < 4
    · obtain ⟨g, hg, g0, g1⟩ := H1.out.2 K (by omega)
      have HX := Lib.hid (Grown.refl wr1)
      go_wp2_with (first
        | (go_at_call 8; refine (num_any _ _ _ b2 b3).mono ?_; rintro e WA ⟨⟨N1, he, N1a, N1b⟩, hW⟩; subst he; replace HX := Lib.hid (show Grown wr1 WA from grown_trans (by repeat (first | with_reducible exact HX.out | with_reducible refine Grown.setCell ?_ (by simp <;> omega) _ | with_reducible refine Grown.alloc ?_ _ _ | with_reducible refine grown_more ?_ _ | with_reducible refine Grown.drew ?_)) hW); clear hW)
        | (go_at_call 9; refine (mild_any _ _ _ b2 b3).mono ?_; rintro e WB ⟨⟨N2, he, N2a, N2b⟩, hW⟩; subst he; replace HX := Lib.hid (show Grown wr1 WB from grown_trans (by repeat (first | with_reducible exact HX.out | with_reducible refine Grown.setCell ?_ (by simp <;> omega) _ | with_reducible refine Grown.alloc ?_ _ _ | with_reducible refine grown_more ?_ _ | with_reducible refine Grown.drew ?_)) hW); clear hW))
      replace HG := Lib.hid (grown_trans HG.out HX.out)
      replace H1 := Lib.hid (H1.out.grown HX.out)
      clear HX hg
      go_loopw [43] (fun i wr2 => HTRel2 w W1.heap.size WB.heap.size i wr2) (fun i _ => (7 - intOf i).toNat)
      case atStart =>
        exact ⟨0, by decide, rfl, Grown.alloc HG.out _ _, H1.out.grown (Grown.alloc (Grown.refl _) _ _), Holds.new rfl (by
          intro v hv
          simp only [List.mem_cons, List.not_mem_nil, or_false] at hv
          rcases hv with rfl | rfl | rfl | rfl | rfl | rfl | rfl <;> exact ⟨_, rfl, by omega, by omega⟩)⟩
      case round =>
        rename World => wr2
        clear HG H1 t1 t2 t3 t4 hK
        obtain ⟨K2, hK2, rfl, hG, hH, hH2⟩ := hrel
        have HG := Lib.hid hG
        have H1 := Lib.hid hH
        have H2 := Lib.hid hH2
        clear hG hH hH2
        by_cases c2 : (K2 : Int) < 7
        · obtain ⟨x, hx, x0, x1⟩ := H2.out.2 K2 (by omega)
          go_wp2_with fail
          go_loopw [52] (fun i wr3 => HTRel3 w W1.heap.size WB.heap.size wr2.heap.size i wr3) (fun i _ => (4 - intOf i).toNat)
          case atStart =>
            exact ⟨0, by decide, rfl, Grown.alloc HG.out _ _, H1.out.grown (Grown.alloc (Grown.refl _) _ _), H2.out.grown (Grown.alloc (Grown.refl _) _ _), Holds.new rfl (by
              intro v hv
              simp only [List.mem_cons, List.not_mem_nil, or_false] at hv
              rcases hv with rfl | rfl | rfl | rfl <;> first | exact ⟨_, rfl, by omega, by omega⟩ | exact ⟨_, rfl, (bounds_u32 (wf_wrap .u32 _)).1, (bounds_u32 (wf_wrap .u32 _)).2⟩)⟩
          case round =>
            rename World => wr3
            clear HG H1 H2 hx hK2
            obtain ⟨K3, hK3, rfl, hG, hH, hH2, hH3⟩ := hrel
            have HG := Lib.hid hG
            have H1 := Lib.hid hH
            have H2 := Lib.hid hH2
            have H3 := Lib.hid hH3
            clear hG hH hH2 hH3
            by_cases c3 : (K3 : Int) < 4
            · obtain ⟨y, hy, y0, y1⟩ := H3.out.2 K3 (by omega)
              obtain ⟨o, ho⟩ : ∃ o, bits .or .u32 x 2147483648 = o := ⟨_, rfl⟩
              have o0 := bounds_u32 (wf_bits .or .u32 x 2147483648)
              rw [ho] at o0
              obtain ⟨o0, o1⟩ := o0
              have HX := Lib.hid (Grown.refl wr3)
              go_wp2_with (first
                | (go_at_call 10; refine (hnarrow_any _ _ _ _ (by omega) (by omega) (by omega) (by omega)).mono ?_; rintro e WC ⟨he, hW⟩; subst he; replace HX := Lib.hid (show Grown wr3 WC from grown_trans (by repeat (first | with_reducible exact HX.out | with_reducible refine Grown.setCell ?_ (by simp <;> omega) _ | with_reducible refine Grown.alloc ?_ _ _ | with_reducible refine grown_more ?_ _ | with_reducible refine Grown.drew ?_)) hW); clear hW)
                | (go_at_call 11; refine (rchance_any _ _ _ _ (by omega) (by omega) (by omega) (by omega)).mono ?_; rintro e WC ⟨he, hW⟩; subst he; replace HX := Lib.hid (show Grown wr3 WC from grown_trans (by repeat (first | with_reducible exact HX.out | with_reducible refine Grown.setCell ?_ (by simp <;> omega) _ | with_reducible refine Grown.alloc ?_ _ _ | with_reducible refine grown_more ?_ _ | with_reducible refine Grown.drew ?_)) hW); clear hW))
              go_roundw
              case rel => exact ⟨K3 + 1, by omega, by go_num, grown_trans HG.out HX.out, H1.out.grown HX.out, H2.out.grown HX.out, H3.out.grown HX.out⟩
              case measure => simp [intOf]; omega
            · go_wp2
              go_roundw
              case rel => exact ⟨K2 + 1, by omega, by go_num, HG.out, H1.out, H2.out⟩
              case measure => simp [intOf]; omega
        · go_wp2
          go_roundw
          case rel => exact ⟨K + 1, by omega, by go_num, HG.out, H1.out⟩
          case measure => simp [intOf]; omega
    · go_wp2
      go_ret
      exact ⟨rfl, HG.out⟩
end Go.Proofs.Ytfdfbgmnfiiipaa
