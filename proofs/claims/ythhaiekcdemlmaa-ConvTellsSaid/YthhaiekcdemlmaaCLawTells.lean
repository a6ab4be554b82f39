/- The walk of ConvTells. -/
import Derived.Test.YthhaiekcdemlmaaRCon
import Derived.Test.YthhaiekcdemlmaaCKnown
import Derived.Deep.RegionHeld3
namespace Go.Proofs.Ythhaiekcdemlmaa
open Go.RowKit
set_option linter.unusedVariables false
set_option linter.unusedSimpArgs false

abbrev Ints9 (n b : Nat) (W : World) : Prop := Holds .i64 n (-9223372036854775808) 9223372036854775807 b W

abbrev Words9 (n b : Nat) (W : World) : Prop := Holds .u32 n 0 4294967295 b W

/-- Block b holds these three. -/
structure ThreeAt (b : Nat) (x y z : Int) (W : World) : Prop where
  lies : b < W.heap.size
  f0 : W.cell? ⟨b, 0, none⟩ = some (.int .i64 x)
  f1 : W.cell? ⟨b, 1, none⟩ = some (.int .i64 y)
  f2 : W.cell? ⟨b, 2, none⟩ = some (.int .i64 z)

theorem ThreeAt.grown {b : Nat} {x y z : Int} {W W' : World} (h : ThreeAt b x y z W) (g : Grown W W') : ThreeAt b x y z W' :=
  ⟨Nat.lt_of_lt_of_le h.lies g.2.2, grown_cell g h.f0 h.lies, grown_cell g h.f1 h.lies, grown_cell g h.f2 h.lies⟩

theorem threes_new (x y z : Int) (t : TypeId) (w : World) : ThreeAt w.heap.size x y z (w.alloc (.cells #[.int .i64 x, .int .i64 y, .int .i64 z] t)) := by
  refine ⟨by show w.heap.size < (w.heap.push _).size; simp, ?_, ?_, ?_⟩ <;> rw [World.cell?_alloc_at (hn := rfl)] <;> rfl

def CTRel1 (w : World) (b : Nat) (i : Value) (W : World) : Prop := ∃ k : Nat, k ≤ 3 ∧ i = .int .i64 k ∧ Grown w W ∧ Ints9 9 b W

def CTRel2 (w : World) (b c d : Nat) (f g m : Int) (i : Value) (W : World) : Prop := ∃ k : Nat, k ≤ 3 ∧ i = .int .i64 k ∧ Grown w W ∧ Ints9 9 b W ∧ ThreeAt c f g m W ∧ Words9 3 d W

set_option maxRecDepth 100000 in
set_option maxHeartbeats 16000000 in
theorem ctells_walk (a0 a1 a2 a3 a4 a5 : Int) (w0 : (Lit.int .i64 a0).wf = true) (w1 : (Lit.int .i64 a1).wf = true) (w2 : (Lit.int .i64 a2).wf = true) (w3 : (Lit.int .u8 a3).wf = true) (w4 : (Lit.int .u8 a4).wf = true) (w5 : (Lit.int .u32 a5).wf = true) (w : World) :
    Calls Try.prog 3 #[.int .i64 a0, .int .i64 a1, .int .i64 a2, .int .u8 a3, .int .u8 a4, .int .u32 a5] w fun e w' => e = .returned (.bool true) ∧ Grown w w' := by
  obtain ⟨b0, b1⟩ := bounds_i64 w0
  obtain ⟨b2, b3⟩ := bounds_i64 w1
  obtain ⟨b4, b5⟩ := bounds_i64 w2
  obtain ⟨b6, b7⟩ := bounds_u8 w3
  obtain ⟨b8, b9⟩ := bounds_u8 w4
  obtain ⟨b10, b11⟩ := bounds_u32 w5
  clear w0 w1 w2 w3 w4 w5
  have HG := Lib.hid (Grown.refl w)
  have q1 : a3.tdiv 3 = a3 / 3 := Int.tdiv_eq_ediv_of_nonneg b6
  have q2 : (a3 / 3).tmod 5 = a3 / 3 % 5 := Int.tmod_eq_emod_of_nonneg (by omega)
  go_enter Try.func3, Try.ntmps3
  go_wp2_with (first
    | (go_at_call 6; refine (known9_any _).mono ?_; rintro e W1 ⟨rfl, hW1⟩; replace HG := Lib.hid (grown_trans HG.out hW1); clear hW1)
    | (go_at_call 7; refine (form9_any _ _ (by omega) (by omega)).mono ?_; rintro e W2 ⟨rfl, hW2⟩; replace HG := Lib.hid (grown_trans HG.out hW2); clear hW2))
  rename_i W1 W2a W2b W2
  go_loopw [45] (fun i wr1 => CTRel1 w W2.heap.size i wr1) (fun i _ => (3 - intOf i).toNat)
  case atStart =>
    exact ⟨0, by decide, rfl, Grown.alloc HG.out _ _, Holds.new rfl (by
      intro v hv
      simp only [List.mem_cons, List.not_mem_nil, or_false] at hv
      rcases hv with rfl | rfl | rfl | rfl | rfl | rfl | rfl | rfl | rfl <;> exact ⟨_, rfl, by omega, by omega⟩)⟩
  case round =>
    rename World => wr1
    clear HG q1 q2
    obtain ⟨K, hK, rfl, hG, hH⟩ := hrel
    have HG := Lib.hid hG
    have H1 := Lib.hid hH
    clear hG hH
    by_cases c : (K : Int) < 3
    · obtain ⟨f, hf, f0, f1⟩ := H1.out.2 (K * 3) (by omega)
      obtain ⟨g, hg, g0, g1⟩ := H1.out.2 (K * 3 + 1) (by omega)
      obtain ⟨m, hm, m0, m1⟩ := H1.out.2 (K * 3 + 2) (by omega)
      go_wp2_with fail
      have HT := Lib.hid (threes_new f g m 24 wr1)
      have HX := Lib.hid (Grown.alloc (Grown.refl wr1) #[.int .i64 f, .int .i64 g, .int .i64 m] 24)
      generalize hb : wr1.heap.size = b at HT ⊢
      generalize (wr1.alloc _) = W4 at HT HX ⊢
      clear hf hg hm hK
      obtain ⟨q, q0, q1, q2⟩ := HT.out
      go_region_held3 (fun w' => w'.cell? ⟨b, 0, none⟩ = some (.int .i64 f)) (go_keep) (first
        | (go_at_call 8; refine (num_any f a5 _ b10 b11).mono ?_; rintro e WB ⟨⟨N1, he, N1a, N1b⟩, hW⟩; subst he; replace HX := Lib.hid (show Grown wr1 WB from grown_trans (by repeat (first | with_reducible exact HX.out | with_reducible refine Grown.setCell ?_ (by simp <;> omega) _ | with_reducible refine Grown.alloc ?_ _ _ | with_reducible refine grown_more ?_ _ | with_reducible refine Grown.drew ?_)) hW); replace HT := Lib.hid (HT.out.grown (grown_trans (by repeat (first | with_reducible exact Grown.refl _ | with_reducible refine Grown.setCell ?_ (by simp <;> omega) _ | with_reducible refine Grown.alloc ?_ _ _ | with_reducible refine grown_more ?_ _ | with_reducible refine Grown.drew ?_)) hW)); clear hW q q0 q1 q2; obtain ⟨q, q0, q1, q2⟩ := HT.out)
        | (go_at_call 9; refine (mild_any f a5 _ b10 b11).mono ?_; rintro e WB ⟨⟨N2, he, N2a, N2b⟩, hW⟩; subst he; replace HX := Lib.hid (show Grown wr1 WB from grown_trans (by repeat (first | with_reducible exact HX.out | with_reducible refine Grown.setCell ?_ (by simp <;> omega) _ | with_reducible refine Grown.alloc ?_ _ _ | with_reducible refine grown_more ?_ _ | with_reducible refine Grown.drew ?_)) hW); replace HT := Lib.hid (HT.out.grown (grown_trans (by repeat (first | with_reducible exact Grown.refl _ | with_reducible refine Grown.setCell ?_ (by simp <;> omega) _ | with_reducible refine Grown.alloc ?_ _ _ | with_reducible refine grown_more ?_ _ | with_reducible refine Grown.drew ?_)) hW)); clear hW q q0 q1 q2; obtain ⟨q, q0, q1, q2⟩ := HT.out))
      go_wp2_with fail
      replace HG := Lib.hid (grown_trans HG.out HX.out)
      replace H1 := Lib.hid (H1.out.grown HX.out)
      clear HX hb
      go_loopw [60] (fun i wr2 => CTRel2 w W2.heap.size b WB.heap.size f g m i wr2) (fun i _ => (3 - intOf i).toNat)
      case atStart =>
        exact ⟨0, by decide, rfl, Grown.alloc HG.out _ _, H1.out.grown (Grown.alloc (Grown.refl _) _ _), HT.out.grown (Grown.alloc (Grown.refl _) _ _), Holds.new rfl (by
            intro v hv
            simp only [List.mem_cons, List.not_mem_nil, or_false] at hv
            rcases hv with rfl | rfl | rfl <;> exact ⟨_, rfl, by omega, by omega⟩)⟩
      case round =>
        rename World => wr2
        clear HG H1 HT q q0 q1 q2
        obtain ⟨K2, hK2, rfl, hHG, hH1, hHT, hH2⟩ := hrel
        have HG := Lib.hid hHG
        have H1 := Lib.hid hH1
        have HT := Lib.hid hHT
        have H2 := Lib.hid hH2
        clear hHG hH1 hHT hH2
        by_cases c2 : (K2 : Int) < 3
        · obtain ⟨x, hx, x0, x1⟩ := H2.out.2 K2 (by omega)
          obtain ⟨va, hva⟩ : ∃ v, conV f g m x = v := ⟨_, rfl⟩
          have HR := Lib.hid (show conE f g m x = .returned (.tuple #[.int .u32 va, .agg #[.bool (sigB f x), .bool false, .bool (conO f g m x), .bool (conU f g x), .bool (conX f g m x)]]) by unfold conE; rw [hva])
          generalize sigB f x = g1 at HR
          generalize conO f g m x = g2 at HR
          generalize conU f g x = g3 at HR
          generalize conX f g m x = g4 at HR
          clear hva
          obtain ⟨q, q0, q1, q2⟩ := HT.out
          go_wp2_with fail
          refine (cto_any f g m x _ x0 x1).mono ?_
          rintro e V1 ⟨he, hW⟩
          rw [HR.out] at he
          subst he
          have HX := Lib.hid (show Grown wr2 V1 from grown_trans (by repeat (first | with_reducible exact Grown.refl _ | with_reducible refine Grown.setCell ?_ (by simp <;> omega) _ | with_reducible refine Grown.alloc ?_ _ _ | with_reducible refine grown_more ?_ _ | with_reducible refine Grown.drew ?_)) hW)
          replace HT := Lib.hid (HT.out.grown (grown_trans (by repeat (first | with_reducible exact Grown.refl _ | with_reducible refine Grown.setCell ?_ (by simp <;> omega) _ | with_reducible refine Grown.alloc ?_ _ _ | with_reducible refine grown_more ?_ _ | with_reducible refine Grown.drew ?_)) hW))
          clear hW q q0 q1 q2 hx
          obtain ⟨q, q0, q1, q2⟩ := HT.out
          go_wp2_with fail
          refine (rto_any f g m x _ x0 x1).mono ?_
          rintro e V2 ⟨he, hW⟩
          rw [HR.out] at he
          subst he
          have HB1 := Lib.hid (grown_new5 hW)
          replace HX := Lib.hid (show Grown wr2 V2 from grown_trans (by repeat (first | with_reducible exact HX.out | with_reducible refine Grown.setCell ?_ (by simp <;> omega) _ | with_reducible refine Grown.alloc ?_ _ _ | with_reducible refine grown_more ?_ _ | with_reducible refine Grown.drew ?_)) hW)
          replace HT := Lib.hid (HT.out.grown (grown_trans (by repeat (first | with_reducible exact Grown.refl _ | with_reducible refine Grown.setCell ?_ (by simp <;> omega) _ | with_reducible refine Grown.alloc ?_ _ _ | with_reducible refine grown_more ?_ _ | with_reducible refine Grown.drew ?_)) hW))
          clear hW q q0 q1 q2
          obtain ⟨q, q0, q1, q2⟩ := HT.out
          clear q q0 q1 q2
          go_wp2_with fail
          have HB2 := Lib.hid (five_new (c0 := .bool g1) (c1 := .bool false) (c2 := .bool g2) (c3 := .bool g3) (c4 := .bool g4) (t := 30) (w := V2))
          replace HX := Lib.hid (Grown.alloc HX.out #[.bool g1, .bool false, .bool g2, .bool g3, .bool g4] 30)
          replace HT := Lib.hid (HT.out.grown (Grown.alloc (Grown.refl _) #[.bool g1, .bool false, .bool g2, .bool g3, .bool g4] 30))
          replace HB1 := Lib.hid (HB1.out.grown (Grown.alloc (Grown.refl _) #[.bool g1, .bool false, .bool g2, .bool g3, .bool g4] 30))
          generalize V1.heap.size = e1 at HB1 ⊢
          generalize V2.heap.size = e2 at HB2 ⊢
          generalize (V2.alloc _) = V3 at HB1 HB2 HX HT ⊢
          obtain ⟨q, q0, q1, q2⟩ := HT.out
          obtain ⟨z0, z1, z2, z3, z4, z5⟩ := HB1.out
          obtain ⟨y0, y1, y2, y3, y4, y5⟩ := HB2.out
          go_region_held3 (fun w' => w'.cell? ⟨b, 0, none⟩ = some (.int .i64 f) ∧ w'.cell? ⟨b, 1, none⟩ = some (.int .i64 g) ∧ w'.cell? ⟨e1, 0, none⟩ = some (.bool g1) ∧ w'.cell? ⟨e1, 1, none⟩ = some (.bool false) ∧ w'.cell? ⟨e1, 2, none⟩ = some (.bool g2) ∧ w'.cell? ⟨e1, 3, none⟩ = some (.bool g3) ∧ w'.cell? ⟨e1, 4, none⟩ = some (.bool g4) ∧ w'.cell? ⟨e2, 0, none⟩ = some (.bool g1) ∧ w'.cell? ⟨e2, 1, none⟩ = some (.bool false) ∧ w'.cell? ⟨e2, 2, none⟩ = some (.bool g2) ∧ w'.cell? ⟨e2, 3, none⟩ = some (.bool g3) ∧ w'.cell? ⟨e2, 4, none⟩ = some (.bool g4)) (go_keep) (first
            | (go_at_call 12; refine (cwiden_any f x _ x0 x1).mono ?_; rintro e W20 ⟨he, hW⟩; subst he; replace HX := Lib.hid (show Grown wr2 W20 from grown_trans (by repeat (first | with_reducible exact HX.out | with_reducible refine Grown.setCell ?_ (by simp <;> omega) _ | with_reducible refine Grown.alloc ?_ _ _ | with_reducible refine grown_more ?_ _ | with_reducible refine Grown.drew ?_)) hW); replace HT := Lib.hid (HT.out.grown (grown_trans (by repeat (first | with_reducible exact Grown.refl _ | with_reducible refine Grown.setCell ?_ (by simp <;> omega) _ | with_reducible refine Grown.alloc ?_ _ _ | with_reducible refine grown_more ?_ _ | with_reducible refine Grown.drew ?_)) hW)); replace HB1 := Lib.hid (HB1.out.grown (grown_trans (by repeat (first | with_reducible exact Grown.refl _ | with_reducible refine Grown.setCell ?_ (by simp <;> omega) _ | with_reducible refine Grown.alloc ?_ _ _ | with_reducible refine grown_more ?_ _ | with_reducible refine Grown.drew ?_)) hW)); replace HB2 := Lib.hid (HB2.out.grown (grown_trans (by repeat (first | with_reducible exact Grown.refl _ | with_reducible refine Grown.setCell ?_ (by simp <;> omega) _ | with_reducible refine Grown.alloc ?_ _ _ | with_reducible refine grown_more ?_ _ | with_reducible refine Grown.drew ?_)) hW)); clear hW q q0 q1 q2 z0 z1 z2 z3 z4 z5 y0 y1 y2 y3 y4 y5; obtain ⟨q, q0, q1, q2⟩ := HT.out; obtain ⟨z0, z1, z2, z3, z4, z5⟩ := HB1.out; obtain ⟨y0, y1, y2, y3, y4, y5⟩ := HB2.out)
            | (go_at_call 13; refine (rwiden_any f x _ x0 x1).mono ?_; rintro e W20 ⟨he, hW⟩; subst he; replace HX := Lib.hid (show Grown wr2 W20 from grown_trans (by repeat (first | with_reducible exact HX.out | with_reducible refine Grown.setCell ?_ (by simp <;> omega) _ | with_reducible refine Grown.alloc ?_ _ _ | with_reducible refine grown_more ?_ _ | with_reducible refine Grown.drew ?_)) hW); replace HT := Lib.hid (HT.out.grown (grown_trans (by repeat (first | with_reducible exact Grown.refl _ | with_reducible refine Grown.setCell ?_ (by simp <;> omega) _ | with_reducible refine Grown.alloc ?_ _ _ | with_reducible refine grown_more ?_ _ | with_reducible refine Grown.drew ?_)) hW)); replace HB1 := Lib.hid (HB1.out.grown (grown_trans (by repeat (first | with_reducible exact Grown.refl _ | with_reducible refine Grown.setCell ?_ (by simp <;> omega) _ | with_reducible refine Grown.alloc ?_ _ _ | with_reducible refine grown_more ?_ _ | with_reducible refine Grown.drew ?_)) hW)); replace HB2 := Lib.hid (HB2.out.grown (grown_trans (by repeat (first | with_reducible exact Grown.refl _ | with_reducible refine Grown.setCell ?_ (by simp <;> omega) _ | with_reducible refine Grown.alloc ?_ _ _ | with_reducible refine grown_more ?_ _ | with_reducible refine Grown.drew ?_)) hW)); clear hW q q0 q1 q2 z0 z1 z2 z3 z4 z5 y0 y1 y2 y3 y4 y5; obtain ⟨q, q0, q1, q2⟩ := HT.out; obtain ⟨z0, z1, z2, z3, z4, z5⟩ := HB1.out; obtain ⟨y0, y1, y2, y3, y4, y5⟩ := HB2.out)
            | (go_at_call 14; refine (cnarrow_any g x _ x0 x1).mono ?_; rintro e W20 ⟨he, hW⟩; subst he; replace HX := Lib.hid (show Grown wr2 W20 from grown_trans (by repeat (first | with_reducible exact HX.out | with_reducible refine Grown.setCell ?_ (by simp <;> omega) _ | with_reducible refine Grown.alloc ?_ _ _ | with_reducible refine grown_more ?_ _ | with_reducible refine Grown.drew ?_)) hW); replace HT := Lib.hid (HT.out.grown (grown_trans (by repeat (first | with_reducible exact Grown.refl _ | with_reducible refine Grown.setCell ?_ (by simp <;> omega) _ | with_reducible refine Grown.alloc ?_ _ _ | with_reducible refine grown_more ?_ _ | with_reducible refine Grown.drew ?_)) hW)); replace HB1 := Lib.hid (HB1.out.grown (grown_trans (by repeat (first | with_reducible exact Grown.refl _ | with_reducible refine Grown.setCell ?_ (by simp <;> omega) _ | with_reducible refine Grown.alloc ?_ _ _ | with_reducible refine grown_more ?_ _ | with_reducible refine Grown.drew ?_)) hW)); replace HB2 := Lib.hid (HB2.out.grown (grown_trans (by repeat (first | with_reducible exact Grown.refl _ | with_reducible refine Grown.setCell ?_ (by simp <;> omega) _ | with_reducible refine Grown.alloc ?_ _ _ | with_reducible refine grown_more ?_ _ | with_reducible refine Grown.drew ?_)) hW)); clear hW q q0 q1 q2 z0 z1 z2 z3 z4 z5 y0 y1 y2 y3 y4 y5; obtain ⟨q, q0, q1, q2⟩ := HT.out; obtain ⟨z0, z1, z2, z3, z4, z5⟩ := HB1.out; obtain ⟨y0, y1, y2, y3, y4, y5⟩ := HB2.out)
            | (go_at_call 15; refine (rnarrow_any g x _ x0 x1).mono ?_; rintro e W20 ⟨he, hW⟩; subst he; replace HX := Lib.hid (show Grown wr2 W20 from grown_trans (by repeat (first | with_reducible exact HX.out | with_reducible refine Grown.setCell ?_ (by simp <;> omega) _ | with_reducible refine Grown.alloc ?_ _ _ | with_reducible refine grown_more ?_ _ | with_reducible refine Grown.drew ?_)) hW); replace HT := Lib.hid (HT.out.grown (grown_trans (by repeat (first | with_reducible exact Grown.refl _ | with_reducible refine Grown.setCell ?_ (by simp <;> omega) _ | with_reducible refine Grown.alloc ?_ _ _ | with_reducible refine grown_more ?_ _ | with_reducible refine Grown.drew ?_)) hW)); replace HB1 := Lib.hid (HB1.out.grown (grown_trans (by repeat (first | with_reducible exact Grown.refl _ | with_reducible refine Grown.setCell ?_ (by simp <;> omega) _ | with_reducible refine Grown.alloc ?_ _ _ | with_reducible refine grown_more ?_ _ | with_reducible refine Grown.drew ?_)) hW)); replace HB2 := Lib.hid (HB2.out.grown (grown_trans (by repeat (first | with_reducible exact Grown.refl _ | with_reducible refine Grown.setCell ?_ (by simp <;> omega) _ | with_reducible refine Grown.alloc ?_ _ _ | with_reducible refine grown_more ?_ _ | with_reducible refine Grown.drew ?_)) hW)); clear hW q q0 q1 q2 z0 z1 z2 z3 z4 z5 y0 y1 y2 y3 y4 y5; obtain ⟨q, q0, q1, q2⟩ := HT.out; obtain ⟨z0, z1, z2, z3, z4, z5⟩ := HB1.out; obtain ⟨y0, y1, y2, y3, y4, y5⟩ := HB2.out))
          go_wp2
          go_roundw
          case rel => exact ⟨K2 + 1, by omega, by go_num, grown_trans HG.out (by repeat (first | with_reducible exact HX.out | with_reducible refine Grown.setCell ?_ (by simp <;> omega) _ | with_reducible refine Grown.alloc ?_ _ _ | with_reducible refine grown_more ?_ _ | with_reducible refine Grown.drew ?_)), H1.out.grown (by repeat (first | with_reducible exact HX.out | with_reducible refine Grown.setCell ?_ (by simp <;> omega) _ | with_reducible refine Grown.alloc ?_ _ _ | with_reducible refine grown_more ?_ _ | with_reducible refine Grown.drew ?_)), HT.out.grown (by repeat (first | with_reducible exact Grown.refl _ | with_reducible refine Grown.setCell ?_ (by simp <;> omega) _ | with_reducible refine Grown.alloc ?_ _ _ | with_reducible refine grown_more ?_ _ | with_reducible refine Grown.drew ?_)), H2.out.grown (by repeat (first | with_reducible exact HX.out | with_reducible refine Grown.setCell ?_ (by simp <;> omega) _ | with_reducible refine Grown.alloc ?_ _ _ | with_reducible refine grown_more ?_ _ | with_reducible refine Grown.drew ?_))⟩
          case measure => simp [intOf]; omega
        · go_wp2
          go_roundw
          case rel => exact ⟨K + 1, by omega, by go_num, HG.out, H1.out⟩
          case measure => simp [intOf]; omega
    · go_wp2
      go_ret
      exact ⟨rfl, HG.out⟩
end Go.Proofs.Ythhaiekcdemlmaa
