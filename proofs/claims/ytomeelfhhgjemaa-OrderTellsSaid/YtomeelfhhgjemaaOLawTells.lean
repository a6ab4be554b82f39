/- The walk of OrderTells. -/
import Derived.Test.YtomeelfhhgjemaaOKnown
import Derived.Deep.RegionHeld3
namespace Go.Proofs.Ytomeelfhhgjemaa
open Go.RowKit
set_option linter.unusedVariables false
set_option linter.unusedSimpArgs false

/-- Block b holds these words. -/
structure PairsAt (b : Nat) (x y : Int) (W : World) : Prop where
  lies : b < W.heap.size
  f0 : W.cell? ⟨b, 0, none⟩ = some (.int .u32 x)
  f1 : W.cell? ⟨b, 1, none⟩ = some (.int .u32 y)

theorem PairsAt.grown {b : Nat} {x y : Int} {W W' : World} (h : PairsAt b x y W) (g : Grown W W') : PairsAt b x y W' :=
  ⟨Nat.lt_of_lt_of_le h.lies g.2.2, grown_cell g h.f0 h.lies, grown_cell g h.f1 h.lies⟩

theorem pairs_new (x y : Int) (t : TypeId) (w : World) : PairsAt w.heap.size x y (w.alloc (.cells #[.int .u32 x, .int .u32 y] t)) := by
  refine ⟨by show w.heap.size < (w.heap.push _).size; simp, ?_, ?_⟩ <;> rw [World.cell?_alloc_at (hn := rfl)] <;> rfl

def OTRel1 (w : World) (b : Nat) (i : Value) (W : World) : Prop := ∃ k : Nat, k ≤ 2 ∧ i = .int .i64 k ∧ Grown w W ∧ Holds .i64 2 (-9223372036854775808) 9223372036854775807 b W

def OTRel2 (w : World) (b c : Nat) (i : Value) (W : World) : Prop := ∃ k : Nat, k ≤ 4 ∧ i = .int .i64 k ∧ Grown w W ∧ Holds .i64 2 (-9223372036854775808) 9223372036854775807 b W ∧ Holds .u32 8 0 4294967295 c W

set_option maxRecDepth 100000 in
set_option maxHeartbeats 8000000 in
theorem otells_walk (a0 a1 a2 a3 : Int) (w0 : (Lit.int .i64 a0).wf = true) (w1 : (Lit.int .u8 a1).wf = true) (w2 : (Lit.int .u32 a2).wf = true) (w3 : (Lit.int .u32 a3).wf = true) (w : World) :
    Calls Try.prog 3 #[.int .i64 a0, .int .u8 a1, .int .u32 a2, .int .u32 a3] w fun e w' => e = .returned (.bool true) ∧ Grown w w' := by
  obtain ⟨b0, b1⟩ := bounds_i64 w0
  obtain ⟨b2, b3⟩ := bounds_u8 w1
  obtain ⟨b4, b5⟩ := bounds_u32 w2
  obtain ⟨b6, b7⟩ := bounds_u32 w3
  clear w0 w1 w2 w3
  have HG := Lib.hid (Grown.refl w)
  go_enter Try.func3, Try.ntmps3
  go_wp2_with (first
    | (go_at_call 6; refine (known7_any _).mono ?_; rintro e W1 ⟨rfl, hW1⟩; replace HG := Lib.hid (grown_trans HG.out hW1); clear hW1)
    | (go_at_call 7; refine (form7_any _ _ b2 b3).mono ?_; rintro e W2 ⟨rfl, hW2⟩; replace HG := Lib.hid (grown_trans HG.out hW2); clear hW2))
  rename_i W1 W2
  go_loopw [24] (fun i wr1 => OTRel1 w W2.heap.size i wr1) (fun i _ => (2 - intOf i).toNat)
  case atStart =>
    exact ⟨0, by decide, rfl, Grown.alloc HG.out _ _, Holds.new rfl (by
      intro v hv
      simp only [List.mem_cons, List.not_mem_nil, or_false] at hv
      rcases hv with rfl | rfl <;> exact ⟨_, rfl, by omega, by omega⟩)⟩
  case round =>
    rename World => wr1
    clear HG
    obtain ⟨K, hK, rfl, hG, hH⟩ := hrel
    have HG := Lib.hid hG
    have H1 := Lib.hid hH
    clear hG hH
    by_cases c : (K : Int) < 2
    · obtain ⟨g, hg, g0, g1⟩ := H1.out.2 K (by omega)
      have HR := Lib.hid (Grown.refl wr1)
      go_wp2_with (go_at_call 8; refine (num_any _ _ _ (by omega) (by omega)).mono ?_; rintro e W3 ⟨⟨X, he, X0, X1⟩, hW⟩; subst he; replace HR := Lib.hid (grown_trans HR.out hW); clear hW)
      rename_i W3
      go_loopw [51] (fun i wr2 => OTRel2 w W2.heap.size W3.heap.size i wr2) (fun i _ => (4 - intOf i).toNat)
      case atStart =>
        refine ⟨0, by decide, rfl, grown_trans HG.out (Grown.alloc HR.out _ _), H1.out.grown (Grown.alloc HR.out _ _), Holds.new rfl (by
          intro v hv
          simp only [List.mem_cons, List.not_mem_nil, or_false] at hv
          rcases hv with rfl | rfl | rfl | rfl | rfl | rfl | rfl | rfl <;> first | exact ⟨_, rfl, by omega, by omega⟩ | exact ⟨_, rfl, (bounds_u32 (wf_bits .xor .u32 _ _)).1, (bounds_u32 (wf_bits .xor .u32 _ _)).2⟩)⟩
      case round =>
        rename World => wr2
        clear HG HR H1 hg
        obtain ⟨K2, hK2, rfl, hG, hH1, hH2⟩ := hrel
        have HG := Lib.hid hG
        have H1 := Lib.hid hH1
        have H2 := Lib.hid hH2
        clear hG hH1 hH2
        by_cases c2 : (K2 : Int) < 4
        · obtain ⟨x, hx, x0, x1⟩ := H2.out.2 (K2 * 2) (by omega)
          obtain ⟨y, hy, y0, y1⟩ := H2.out.2 (K2 * 2 + 1) (by omega)
          go_wp2_with fail
          refine (ocompare_any g x y _ x0 x1 y0 y1).mono ?_
          rintro e W10 ⟨he, hW⟩
          subst he
          have HX := Lib.hid (show Grown wr2 W10 from grown_trans (by repeat (first | with_reducible exact Grown.refl _ | with_reducible refine Grown.setCell ?_ (by simp <;> omega) _ | with_reducible refine Grown.alloc ?_ _ _ | with_reducible refine grown_more ?_ _)) hW)
          have HP := Lib.hid ((pairs_new x y 26 wr2).grown (grown_trans (by repeat (first | with_reducible exact Grown.refl _ | with_reducible refine Grown.setCell ?_ (by simp <;> omega) _ | with_reducible refine Grown.alloc ?_ _ _ | with_reducible refine grown_more ?_ _)) hW))
          clear hW hx hy
          obtain ⟨q, q0, q1⟩ := HP.out
          go_wp2_with fail
          refine (rcompare_any g x y _ x0 x1 y0 y1).mono ?_
          rintro e W11 ⟨he, hW⟩
          subst he
          replace HX := Lib.hid (show Grown wr2 W11 from grown_trans (by repeat (first | with_reducible exact HX.out | with_reducible refine Grown.setCell ?_ (by simp <;> omega) _ | with_reducible refine Grown.alloc ?_ _ _ | with_reducible refine grown_more ?_ _)) hW)
          replace HP := Lib.hid (HP.out.grown (grown_trans (by repeat (first | with_reducible exact Grown.refl _ | with_reducible refine Grown.setCell ?_ (by simp <;> omega) _ | with_reducible refine Grown.alloc ?_ _ _ | with_reducible refine grown_more ?_ _)) hW))
          clear hW q q0 q1
          obtain ⟨q, q0, q1⟩ := HP.out
          go_wp2_with fail
          go_region_held3 (fun w' => w'.cell? ⟨wr2.heap.size, 0, none⟩ = some (.int .u32 x) ∧ w'.cell? ⟨wr2.heap.size, 1, none⟩ = some (.int .u32 y)) (go_keep) (first
            | (go_at_call 11; refine (oless_any _ _ _ _ x0 x1 y0 y1).mono ?_; rintro e W20 ⟨he, hW⟩; subst he; replace HX := Lib.hid (show Grown wr2 W20 from grown_trans (by repeat (first | with_reducible exact HX.out | with_reducible refine Grown.setCell ?_ (by simp <;> omega) _ | with_reducible refine Grown.alloc ?_ _ _ | with_reducible refine grown_more ?_ _ | with_reducible refine Grown.drew ?_)) hW); replace HP := Lib.hid (HP.out.grown (grown_trans (by repeat (first | with_reducible exact Grown.refl _ | with_reducible refine Grown.setCell ?_ (by simp <;> omega) _ | with_reducible refine Grown.alloc ?_ _ _ | with_reducible refine grown_more ?_ _ | with_reducible refine Grown.drew ?_)) hW)); clear hW q q0 q1; obtain ⟨q, q0, q1⟩ := HP.out)
            | (go_at_call 12; refine (rless_any _ _ _ _ x0 x1 y0 y1).mono ?_; rintro e W20 ⟨he, hW⟩; subst he; replace HX := Lib.hid (show Grown wr2 W20 from grown_trans (by repeat (first | with_reducible exact HX.out | with_reducible refine Grown.setCell ?_ (by simp <;> omega) _ | with_reducible refine Grown.alloc ?_ _ _ | with_reducible refine grown_more ?_ _ | with_reducible refine Grown.drew ?_)) hW); replace HP := Lib.hid (HP.out.grown (grown_trans (by repeat (first | with_reducible exact Grown.refl _ | with_reducible refine Grown.setCell ?_ (by simp <;> omega) _ | with_reducible refine Grown.alloc ?_ _ _ | with_reducible refine grown_more ?_ _ | with_reducible refine Grown.drew ?_)) hW)); clear hW q q0 q1; obtain ⟨q, q0, q1⟩ := HP.out)
            | (go_at_call 13; refine (omin_any _ _ _ _ x0 x1 y0 y1).mono ?_; rintro e W20 ⟨he, hW⟩; subst he; replace HX := Lib.hid (show Grown wr2 W20 from grown_trans (by repeat (first | with_reducible exact HX.out | with_reducible refine Grown.setCell ?_ (by simp <;> omega) _ | with_reducible refine Grown.alloc ?_ _ _ | with_reducible refine grown_more ?_ _ | with_reducible refine Grown.drew ?_)) hW); replace HP := Lib.hid (HP.out.grown (grown_trans (by repeat (first | with_reducible exact Grown.refl _ | with_reducible refine Grown.setCell ?_ (by simp <;> omega) _ | with_reducible refine Grown.alloc ?_ _ _ | with_reducible refine grown_more ?_ _ | with_reducible refine Grown.drew ?_)) hW)); clear hW q q0 q1; obtain ⟨q, q0, q1⟩ := HP.out)
            | (go_at_call 14; refine (rmin_any _ _ _ _ x0 x1 y0 y1).mono ?_; rintro e W20 ⟨he, hW⟩; subst he; replace HX := Lib.hid (show Grown wr2 W20 from grown_trans (by repeat (first | with_reducible exact HX.out | with_reducible refine Grown.setCell ?_ (by simp <;> omega) _ | with_reducible refine Grown.alloc ?_ _ _ | with_reducible refine grown_more ?_ _ | with_reducible refine Grown.drew ?_)) hW); replace HP := Lib.hid (HP.out.grown (grown_trans (by repeat (first | with_reducible exact Grown.refl _ | with_reducible refine Grown.setCell ?_ (by simp <;> omega) _ | with_reducible refine Grown.alloc ?_ _ _ | with_reducible refine grown_more ?_ _ | with_reducible refine Grown.drew ?_)) hW)); clear hW q q0 q1; obtain ⟨q, q0, q1⟩ := HP.out)
            | (go_at_call 15; refine (omax_any _ _ _ _ x0 x1 y0 y1).mono ?_; rintro e W20 ⟨he, hW⟩; subst he; replace HX := Lib.hid (show Grown wr2 W20 from grown_trans (by repeat (first | with_reducible exact HX.out | with_reducible refine Grown.setCell ?_ (by simp <;> omega) _ | with_reducible refine Grown.alloc ?_ _ _ | with_reducible refine grown_more ?_ _ | with_reducible refine Grown.drew ?_)) hW); replace HP := Lib.hid (HP.out.grown (grown_trans (by repeat (first | with_reducible exact Grown.refl _ | with_reducible refine Grown.setCell ?_ (by simp <;> omega) _ | with_reducible refine Grown.alloc ?_ _ _ | with_reducible refine grown_more ?_ _ | with_reducible refine Grown.drew ?_)) hW)); clear hW q q0 q1; obtain ⟨q, q0, q1⟩ := HP.out)
            | (go_at_call 16; refine (rmax_any _ _ _ _ x0 x1 y0 y1).mono ?_; rintro e W20 ⟨he, hW⟩; subst he; replace HX := Lib.hid (show Grown wr2 W20 from grown_trans (by repeat (first | with_reducible exact HX.out | with_reducible refine Grown.setCell ?_ (by simp <;> omega) _ | with_reducible refine Grown.alloc ?_ _ _ | with_reducible refine grown_more ?_ _ | with_reducible refine Grown.drew ?_)) hW); replace HP := Lib.hid (HP.out.grown (grown_trans (by repeat (first | with_reducible exact Grown.refl _ | with_reducible refine Grown.setCell ?_ (by simp <;> omega) _ | with_reducible refine Grown.alloc ?_ _ _ | with_reducible refine grown_more ?_ _ | with_reducible refine Grown.drew ?_)) hW)); clear hW q q0 q1; obtain ⟨q, q0, q1⟩ := HP.out)
            | (go_at_call 17; refine (okey_any _ _ _ x0 x1).mono ?_; rintro e W20 ⟨he, hW⟩; subst he; replace HX := Lib.hid (show Grown wr2 W20 from grown_trans (by repeat (first | with_reducible exact HX.out | with_reducible refine Grown.setCell ?_ (by simp <;> omega) _ | with_reducible refine Grown.alloc ?_ _ _ | with_reducible refine grown_more ?_ _ | with_reducible refine Grown.drew ?_)) hW); replace HP := Lib.hid (HP.out.grown (grown_trans (by repeat (first | with_reducible exact Grown.refl _ | with_reducible refine Grown.setCell ?_ (by simp <;> omega) _ | with_reducible refine Grown.alloc ?_ _ _ | with_reducible refine grown_more ?_ _ | with_reducible refine Grown.drew ?_)) hW)); clear hW q q0 q1; obtain ⟨q, q0, q1⟩ := HP.out)
            | (go_at_call 18; refine (rkey_any _ _ _ x0 x1).mono ?_; rintro e w' ⟨he, dm, rfl⟩; subst he))
          go_wp2
          go_roundw
          case rel => exact ⟨K2 + 1, by omega, by go_num, grown_trans HG.out (by repeat (first | with_reducible exact HX.out | with_reducible refine Grown.setCell ?_ (by simp <;> omega) _ | with_reducible refine Grown.alloc ?_ _ _ | with_reducible refine grown_more ?_ _)), H1.out.grown (by repeat (first | with_reducible exact HX.out | with_reducible refine Grown.setCell ?_ (by simp <;> omega) _ | with_reducible refine Grown.alloc ?_ _ _ | with_reducible refine grown_more ?_ _)), H2.out.grown (by repeat (first | with_reducible exact HX.out | with_reducible refine Grown.setCell ?_ (by simp <;> omega) _ | with_reducible refine Grown.alloc ?_ _ _ | with_reducible refine grown_more ?_ _))⟩
          case measure => simp [intOf]; omega
        · go_wp2
          go_roundw
          case rel => exact ⟨K + 1, by omega, by go_num, HG.out, H1.out⟩
          case measure => simp [intOf]; omega
    · go_wp2
      go_ret
      exact ⟨rfl, HG.out⟩
end Go.Proofs.Ytomeelfhhgjemaa
