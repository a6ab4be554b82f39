/- The walk of WholeTells. (Written by gen23.py.) -/
import Derived.Test.YtbmcohikblldjaaWKnown
import Derived.Test.YtbmcohikblldjaaRWhoB
import Derived.Deep.RegionHeld3
namespace Go.Proofs.Ytbmcohikblldjaa
open Go.RowKit
set_option linter.unusedVariables false
set_option linter.unusedSimpArgs false

abbrev Ints (n b : Nat) (W : World) : Prop := Holds .i64 n (-9223372036854775808) 9223372036854775807 b W

abbrev Words8 (n b : Nat) (W : World) : Prop := Holds .u32 n 0 4294967295 b W

/-- Block b holds these two. -/
structure TwoAt (b : Nat) (x y : Int) (W : World) : Prop where
  lies : b < W.heap.size
  f0 : W.cell? ⟨b, 0, none⟩ = some (.int .i64 x)
  f1 : W.cell? ⟨b, 1, none⟩ = some (.int .i64 y)

theorem TwoAt.grown {b : Nat} {x y : Int} {W W' : World} (h : TwoAt b x y W) (g : Grown W W') : TwoAt b x y W' :=
  ⟨Nat.lt_of_lt_of_le h.lies g.2.2, grown_cell g h.f0 h.lies, grown_cell g h.f1 h.lies⟩

theorem twos_new (x y : Int) (t : TypeId) (w : World) : TwoAt w.heap.size x y (w.alloc (.cells #[.int .i64 x, .int .i64 y] t)) := by
  refine ⟨by show w.heap.size < (w.heap.push _).size; simp, ?_, ?_⟩ <;> rw [World.cell?_alloc_at (hn := rfl)] <;> rfl

theorem holds_new2 {W : World} {C D : Array Value} {t u : TypeId} {k : IntKind} {n : Nat} {lo hi : Int} (hn : n = D.size)
    (h : ∀ v ∈ D.toList, ∃ x : Int, v = .int k x ∧ lo ≤ x ∧ x ≤ hi) : Holds k n lo hi (W.heap.size + 1) ((W.alloc (.cells C t)).alloc (.cells D u)) := by
  have e : (W.alloc (.cells C t)).heap.size = W.heap.size + 1 := by show (W.heap.push _).size = _; simp
  rw [← e]; exact Holds.new hn h

theorem shr_bd (v : Int) (k : Nat) (h0 : -9223372036854775808 ≤ v) (h1 : v ≤ 9223372036854775807) : -9223372036854775808 ≤ v / 2 ^ k ∧ v / 2 ^ k ≤ 9223372036854775807 := by
  have hp := pow2_pos k
  constructor
  · refine (Int.le_ediv_iff_mul_le hp).2 ?_
    have : (-9223372036854775808 : Int) * 2 ^ k ≤ -9223372036854775808 * 1 := Int.mul_le_mul_of_nonpos_left (by omega) (by omega)
    omega
  · by_cases c : 0 ≤ v
    · exact Int.le_trans (Int.ediv_le_self _ c) h1
    · have := Int.ediv_neg_of_neg_of_pos (show v < 0 by omega) hp
      omega

def WTRel1 (w : World) (b : Nat) (i : Value) (W : World) : Prop := ∃ k : Nat, k ≤ 2 ∧ i = .int .i64 k ∧ Grown w W ∧ Ints 4 b W

def WTRelA (w : World) (b c d : Nat) (g m : Int) (i : Value) (W : World) : Prop := ∃ k : Nat, k ≤ 4 ∧ i = .int .i64 k ∧ Grown w W ∧ Ints 4 b W ∧ TwoAt c g m W ∧ Ints 4 d W

def WTRelB (w : World) (b c d : Nat) (g m : Int) (i : Value) (W : World) : Prop := ∃ k : Nat, k ≤ 3 ∧ i = .int .i64 k ∧ Grown w W ∧ Ints 4 b W ∧ TwoAt c g m W ∧ Words8 3 d W

def WTRelC (w : World) (b c d x : Nat) (g m : Int) (i : Value) (W : World) : Prop := ∃ k : Nat, k ≤ 3 ∧ i = .int .i64 k ∧ Grown w W ∧ Ints 4 b W ∧ TwoAt c g m W ∧ Words8 3 d W ∧ Ints 3 x W

set_option maxRecDepth 100000 in
set_option maxHeartbeats 16000000 in
theorem wtells_walk (a0 a1 a2 a3 a4 a5 a6 : Int) (w0 : (Lit.int .i64 a0).wf = true) (w1 : (Lit.int .i64 a1).wf = true) (w2 : (Lit.int .i64 a2).wf = true) (w3 : (Lit.int .u8 a3).wf = true) (w4 : (Lit.int .u8 a4).wf = true) (w5 : (Lit.int .u32 a5).wf = true) (w6 : (Lit.int .i64 a6).wf = true) (w : World) :
    Calls Try.prog 3 #[.int .i64 a0, .int .i64 a1, .int .i64 a2, .int .u8 a3, .int .u8 a4, .int .u32 a5, .int .i64 a6] w fun e w' => e = .returned (.bool true) ∧ Grown w w' := by
  obtain ⟨b0, b1⟩ := bounds_i64 w0
  obtain ⟨b2, b3⟩ := bounds_i64 w1
  obtain ⟨b4, b5⟩ := bounds_i64 w2
  obtain ⟨b6, b7⟩ := bounds_u8 w3
  obtain ⟨b8, b9⟩ := bounds_u8 w4
  obtain ⟨b10, b11⟩ := bounds_u32 w5
  obtain ⟨b12, b13⟩ := bounds_i64 w6
  clear w0 w1 w2 w3 w4 w5 w6
  have HG := Lib.hid (Grown.refl w)
  go_enter Try.func3, Try.ntmps3
  go_wp2_with (first
    | (go_at_call 7; refine (known8_any _).mono ?_; rintro e W1 ⟨rfl, hW1⟩; replace HG := Lib.hid (grown_trans HG.out hW1); clear hW1)
    | (go_at_call 8; refine (form8_any _ _ b6 b7).mono ?_; rintro e W2 ⟨rfl, hW2⟩; replace HG := Lib.hid (grown_trans HG.out hW2); clear hW2))
  rename_i W1 W2
  go_loopw [52] (fun i wr1 => WTRel1 w W2.heap.size i wr1) (fun i _ => (2 - intOf i).toNat)
  case atStart =>
    exact ⟨0, by decide, rfl, Grown.alloc HG.out _ _, Holds.new rfl (by
      intro v hv
      simp only [List.mem_cons, List.not_mem_nil, or_false] at hv
      rcases hv with rfl | rfl | rfl | rfl <;> exact ⟨_, rfl, by omega, by omega⟩)⟩
  case round =>
    rename World => wr1
    clear HG
    obtain ⟨K, hK, rfl, hG, hH⟩ := hrel
    have HG := Lib.hid hG
    have H1 := Lib.hid hH
    clear hG hH
    by_cases c : (K : Int) < 2
    · obtain ⟨g, hg, g0, g1⟩ := H1.out.2 (K * 2) (by omega)
      obtain ⟨m, hm, m0, m1⟩ := H1.out.2 (K * 2 + 1) (by omega)
      have hm15 : a4.tmod 64 = a4 % 64 := Int.tmod_eq_emod_of_nonneg b8
      go_wp2_with fail
      have HP := Lib.hid (twos_new g m 24 wr1)
      go_loopw [68] (fun i wr2 => WTRelA w W2.heap.size wr1.heap.size (wr1.heap.size + 1) g m i wr2) (fun i _ => (4 - intOf i).toNat)
      case atStart =>
        exact ⟨0, by decide, rfl, (Grown.alloc (Grown.alloc HG.out _ _) _ _), H1.out.grown (Grown.alloc (Grown.alloc (Grown.refl _) _ _) _ _), HP.out.grown (Grown.alloc (Grown.refl _) _ _), holds_new2 rfl (by
            intro v hv
            simp only [List.mem_cons, List.not_mem_nil, or_false] at hv
            rcases hv with rfl | rfl | rfl | rfl <;> first | exact ⟨_, rfl, by omega, by omega⟩ | exact ⟨_, rfl, by simp only [wrap64]; omega, by simp only [wrap64]; omega⟩ | exact ⟨_, rfl, (shr_bd _ _ (by omega) (by omega)).1, (shr_bd _ _ (by omega) (by omega)).2⟩)⟩
      case round =>
        rename World => wr2
        clear HG H1 HP hg hm hK
        obtain ⟨K2, hK2, rfl, hHG, hH1, hHT, hH2⟩ := hrel
        have HG := Lib.hid hHG
        have H1 := Lib.hid hH1
        have HT := Lib.hid hHT
        have H2 := Lib.hid hH2
        clear hHG hH1 hHT hH2
        by_cases c2 : (K2 : Int) < 4
        · obtain ⟨v, hv, v0, v1⟩ := H2.out.2 K2 (by omega)
          obtain ⟨va, g1a, g2a, g3a, g4a, g5a, ha⟩ := from_shape g m v
          have Ha := Lib.hid ha
          clear ha
          obtain ⟨q0, q1, q2⟩ := HT.out
          go_wp2_with fail
          refine (wfromint_any g m v _ v0 v1).mono ?_
          rintro e V1 ⟨he, hW⟩
          rw [Ha.out] at he
          subst he
          have HY1 := Lib.hid (show Grown wr2 V1 from grown_trans (by repeat (first | with_reducible exact Grown.refl _ | with_reducible refine Grown.setCell ?_ (by simp <;> omega) _ | with_reducible refine Grown.alloc ?_ _ _ | with_reducible refine grown_more ?_ _)) hW)
          have HX := Lib.hid (show Grown wr2 V1 from grown_trans (by repeat (first | with_reducible exact Grown.refl _ | with_reducible refine Grown.setCell ?_ (by simp <;> omega) _ | with_reducible refine Grown.alloc ?_ _ _ | with_reducible refine grown_more ?_ _)) hW)
          replace HT := Lib.hid (HT.out.grown HY1.out)
          clear hW q0 q1 q2
          obtain ⟨q0, q1, q2⟩ := HT.out
          go_wp2_with fail
          refine (rfromint_any g m v _ v0 v1).mono ?_
          rintro e V2 ⟨he, hW⟩
          rw [Ha.out] at he
          subst he
          have HY2 := Lib.hid (show Grown V1 V2 from grown_trans (by repeat (first | with_reducible exact Grown.refl _ | with_reducible refine Grown.setCell ?_ (by simp <;> omega) _ | with_reducible refine Grown.alloc ?_ _ _ | with_reducible refine grown_more ?_ _)) hW)
          replace HX := Lib.hid (show Grown wr2 V2 from grown_trans (by repeat (first | with_reducible exact HX.out | with_reducible refine Grown.setCell ?_ (by simp <;> omega) _ | with_reducible refine Grown.alloc ?_ _ _ | with_reducible refine grown_more ?_ _)) hW)
          replace HT := Lib.hid (HT.out.grown HY2.out)
          have HB1 := Lib.hid (grown_new5 hW)
          clear hW q0 q1 q2
          obtain ⟨q0, q1, q2⟩ := HT.out
          obtain ⟨z10, z11, z12, z13, z14, z15⟩ := HB1.out
          go_wp2
          go_roundw
          case rel => exact ⟨K2 + 1, by omega, by go_num, grown_trans HG.out (by repeat (first | with_reducible exact HX.out | with_reducible refine Grown.setCell ?_ (by simp <;> omega) _ | with_reducible refine Grown.alloc ?_ _ _ | with_reducible refine grown_more ?_ _)), H1.out.grown (by repeat (first | with_reducible exact HX.out | with_reducible refine Grown.setCell ?_ (by simp <;> omega) _ | with_reducible refine Grown.alloc ?_ _ _ | with_reducible refine grown_more ?_ _)), HT.out.grown (by repeat (first | with_reducible exact Grown.refl _ | with_reducible refine Grown.setCell ?_ (by simp <;> omega) _ | with_reducible refine Grown.alloc ?_ _ _ | with_reducible refine grown_more ?_ _)), H2.out.grown (by repeat (first | with_reducible exact HX.out | with_reducible refine Grown.setCell ?_ (by simp <;> omega) _ | with_reducible refine Grown.alloc ?_ _ _ | with_reducible refine grown_more ?_ _))⟩
          case measure => simp [intOf]; omega
        · obtain ⟨q0, q1, q2⟩ := HT.out
          have HX := Lib.hid (Grown.refl wr2)
          go_wp2_with fail
          go_region_held3 (fun w' => w'.cell? ⟨wr1.heap.size, 0, none⟩ = some (.int .i64 g)) (go_keep) (first
            | (go_at_call 11; refine (num_any g a5 _ b10 b11).mono ?_; rintro e WB ⟨⟨N1, he, N1a, N1b⟩, hW⟩; subst he; replace HX := Lib.hid (show Grown wr2 WB from grown_trans (by repeat (first | with_reducible exact HX.out | with_reducible refine Grown.setCell ?_ (by simp <;> omega) _ | with_reducible refine Grown.alloc ?_ _ _ | with_reducible refine grown_more ?_ _ | with_reducible refine Grown.drew ?_)) hW); replace HT := Lib.hid (HT.out.grown (grown_trans (by repeat (first | with_reducible exact Grown.refl _ | with_reducible refine Grown.setCell ?_ (by simp <;> omega) _ | with_reducible refine Grown.alloc ?_ _ _ | with_reducible refine grown_more ?_ _ | with_reducible refine Grown.drew ?_)) hW)); clear hW q0 q1 q2; obtain ⟨q0, q1, q2⟩ := HT.out)
            | (go_at_call 12; refine (mild_any g a5 _ b10 b11).mono ?_; rintro e WB ⟨⟨N2, he, N2a, N2b⟩, hW⟩; subst he; replace HX := Lib.hid (show Grown wr2 WB from grown_trans (by repeat (first | with_reducible exact HX.out | with_reducible refine Grown.setCell ?_ (by simp <;> omega) _ | with_reducible refine Grown.alloc ?_ _ _ | with_reducible refine grown_more ?_ _ | with_reducible refine Grown.drew ?_)) hW); replace HT := Lib.hid (HT.out.grown (grown_trans (by repeat (first | with_reducible exact Grown.refl _ | with_reducible refine Grown.setCell ?_ (by simp <;> omega) _ | with_reducible refine Grown.alloc ?_ _ _ | with_reducible refine grown_more ?_ _ | with_reducible refine Grown.drew ?_)) hW)); clear hW q0 q1 q2; obtain ⟨q0, q1, q2⟩ := HT.out))
          go_wp2_with fail
          replace HG := Lib.hid (grown_trans HG.out HX.out)
          replace H1 := Lib.hid (H1.out.grown HX.out)
          clear HX H2
          go_loopw [110] (fun i wr3 => WTRelB w W2.heap.size wr1.heap.size WB.heap.size g m i wr3) (fun i _ => (3 - intOf i).toNat)
          case atStart =>
            exact ⟨0, by decide, rfl, Grown.alloc HG.out _ _, H1.out.grown (Grown.alloc (Grown.refl _) _ _), HT.out.grown (Grown.alloc (Grown.refl _) _ _), Holds.new rfl (by
                intro v hv
                simp only [List.mem_cons, List.not_mem_nil, or_false] at hv
                rcases hv with rfl | rfl | rfl <;> first | exact ⟨_, rfl, by omega, by omega⟩ | exact ⟨_, rfl, by simp only [wrap64]; omega, by simp only [wrap64]; omega⟩ | exact ⟨_, rfl, (shr_bd _ _ (by omega) (by omega)).1, (shr_bd _ _ (by omega) (by omega)).2⟩)⟩
          case round =>
            rename World => wr3
            clear HG H1 HT
            obtain ⟨K3, hK3, rfl, hHG, hH1, hHT, hH3⟩ := hrel
            have HG := Lib.hid hHG
            have H1 := Lib.hid hH1
            have HT := Lib.hid hHT
            have H3 := Lib.hid hH3
            clear hHG hH1 hHT hH3
            by_cases c3 : (K3 : Int) < 3
            · obtain ⟨u, hu, u0, u1⟩ := H3.out.2 K3 (by omega)
              obtain ⟨va, g1a, g2a, g3a, g4a, g5a, ha⟩ := to_shape g m u
              have Ha := Lib.hid ha
              clear ha
              obtain ⟨vb, g1b, g2b, g3b, g4b, g5b, hb⟩ := whol_shape g m u
              have Hb := Lib.hid hb
              clear hb
              obtain ⟨q0, q1, q2⟩ := HT.out
              go_wp2_with fail
              refine (wtoint_any g m u _ u0 u1).mono ?_
              rintro e V1 ⟨he, hW⟩
              rw [Ha.out] at he
              subst he
              have HY1 := Lib.hid (show Grown wr3 V1 from grown_trans (by repeat (first | with_reducible exact Grown.refl _ | with_reducible refine Grown.setCell ?_ (by simp <;> omega) _ | with_reducible refine Grown.alloc ?_ _ _ | with_reducible refine grown_more ?_ _)) hW)
              have HX := Lib.hid (show Grown wr3 V1 from grown_trans (by repeat (first | with_reducible exact Grown.refl _ | with_reducible refine Grown.setCell ?_ (by simp <;> omega) _ | with_reducible refine Grown.alloc ?_ _ _ | with_reducible refine grown_more ?_ _)) hW)
              replace HT := Lib.hid (HT.out.grown HY1.out)
              clear hW q0 q1 q2
              obtain ⟨q0, q1, q2⟩ := HT.out
              go_wp2_with fail
              refine (rtoint_any g m u _ u0 u1).mono ?_
              rintro e V2 ⟨he, hW⟩
              rw [Ha.out] at he
              subst he
              have HY2 := Lib.hid (show Grown V1 V2 from grown_trans (by repeat (first | with_reducible exact Grown.refl _ | with_reducible refine Grown.setCell ?_ (by simp <;> omega) _ | with_reducible refine Grown.alloc ?_ _ _ | with_reducible refine grown_more ?_ _)) hW)
              replace HX := Lib.hid (show Grown wr3 V2 from grown_trans (by repeat (first | with_reducible exact HX.out | with_reducible refine Grown.setCell ?_ (by simp <;> omega) _ | with_reducible refine Grown.alloc ?_ _ _ | with_reducible refine grown_more ?_ _)) hW)
              replace HT := Lib.hid (HT.out.grown HY2.out)
              have HB1 := Lib.hid (grown_new5 hW)
              clear hW q0 q1 q2
              obtain ⟨q0, q1, q2⟩ := HT.out
              go_wp2_with fail
              refine (wround_any g m u _ u0 u1).mono ?_
              rintro e V3 ⟨he, hW⟩
              rw [Hb.out] at he
              subst he
              have HY3 := Lib.hid (show Grown V2 V3 from grown_trans (by repeat (first | with_reducible exact Grown.refl _ | with_reducible refine Grown.setCell ?_ (by simp <;> omega) _ | with_reducible refine Grown.alloc ?_ _ _ | with_reducible refine grown_more ?_ _)) hW)
              replace HX := Lib.hid (show Grown wr3 V3 from grown_trans (by repeat (first | with_reducible exact HX.out | with_reducible refine Grown.setCell ?_ (by simp <;> omega) _ | with_reducible refine Grown.alloc ?_ _ _ | with_reducible refine grown_more ?_ _)) hW)
              replace HT := Lib.hid (HT.out.grown HY3.out)
              replace HB1 := Lib.hid (HB1.out.grown HY3.out)
              have HB2 := Lib.hid (grown_new5 hW)
              clear hW q0 q1 q2
              obtain ⟨q0, q1, q2⟩ := HT.out
              go_wp2_with fail
              refine (rround_any g m u _ u0 u1).mono ?_
              rintro e V4 ⟨he, hW⟩
              rw [Hb.out] at he
              subst he
              have HY4 := Lib.hid (show Grown V3 V4 from grown_trans (by repeat (first | with_reducible exact Grown.refl _ | with_reducible refine Grown.setCell ?_ (by simp <;> omega) _ | with_reducible refine Grown.alloc ?_ _ _ | with_reducible refine grown_more ?_ _)) hW)
              replace HX := Lib.hid (show Grown wr3 V4 from grown_trans (by repeat (first | with_reducible exact HX.out | with_reducible refine Grown.setCell ?_ (by simp <;> omega) _ | with_reducible refine Grown.alloc ?_ _ _ | with_reducible refine grown_more ?_ _)) hW)
              replace HT := Lib.hid (HT.out.grown HY4.out)
              replace HB1 := Lib.hid (HB1.out.grown HY4.out)
              replace HB2 := Lib.hid (HB2.out.grown HY4.out)
              have HB3 := Lib.hid (grown_new5 hW)
              clear hW q0 q1 q2
              obtain ⟨q0, q1, q2⟩ := HT.out
              obtain ⟨z10, z11, z12, z13, z14, z15⟩ := HB1.out
              obtain ⟨z20, z21, z22, z23, z24, z25⟩ := HB2.out
              obtain ⟨z30, z31, z32, z33, z34, z35⟩ := HB3.out
              clear HB1 HB2 HB3 HY1 HY2 HY3 HY4
              go_wp2_with fail
              go_loopw [178] (fun i wr4 => WTRelC w W2.heap.size wr1.heap.size WB.heap.size (V4.heap.size + 1) g m i wr4) (fun i _ => (3 - intOf i).toNat)
              case atStart =>
                exact ⟨0, by decide, rfl, grown_trans HG.out (by repeat (first | with_reducible exact HX.out | with_reducible refine Grown.setCell ?_ (by simp <;> omega) _ | with_reducible refine Grown.alloc ?_ _ _ | with_reducible refine grown_more ?_ _)), H1.out.grown (by repeat (first | with_reducible exact HX.out | with_reducible refine Grown.setCell ?_ (by simp <;> omega) _ | with_reducible refine Grown.alloc ?_ _ _ | with_reducible refine grown_more ?_ _)), HT.out.grown (by repeat (first | with_reducible exact Grown.refl _ | with_reducible refine Grown.setCell ?_ (by simp <;> omega) _ | with_reducible refine Grown.alloc ?_ _ _ | with_reducible refine grown_more ?_ _)), H3.out.grown (by repeat (first | with_reducible exact HX.out | with_reducible refine Grown.setCell ?_ (by simp <;> omega) _ | with_reducible refine Grown.alloc ?_ _ _ | with_reducible refine grown_more ?_ _)), holds_new2 rfl (by
                    intro v hv
                    simp only [List.mem_cons, List.not_mem_nil, or_false] at hv
                    rcases hv with rfl | rfl | rfl <;> first | exact ⟨_, rfl, by omega, by omega⟩ | exact ⟨_, rfl, by simp only [wrap64]; omega, by simp only [wrap64]; omega⟩ | exact ⟨_, rfl, (shr_bd _ _ (by omega) (by omega)).1, (shr_bd _ _ (by omega) (by omega)).2⟩)⟩
              case round =>
                rename World => wr4
                clear HG H1 HT H3 HX hK3
                obtain ⟨K4, hK4, rfl, hHG, hH1, hHT, hH3, hH4⟩ := hrel
                have HG := Lib.hid hHG
                have H1 := Lib.hid hH1
                have HT := Lib.hid hHT
                have H3 := Lib.hid hH3
                have H4 := Lib.hid hH4
                clear hHG hH1 hHT hH3 hH4
                by_cases c4 : (K4 : Int) < 3
                · obtain ⟨n, hn, n0, n1⟩ := H4.out.2 K4 (by omega)
                  obtain ⟨va, g1a, g2a, g3a, g4a, g5a, ha⟩ := sca_shape g m u n
                  have Ha := Lib.hid ha
                  clear ha
                  obtain ⟨q0, q1, q2⟩ := HT.out
                  go_wp2_with fail
                  refine (wscale_any g m u n _ u0 u1 n0 n1).mono ?_
                  rintro e V1 ⟨he, hW⟩
                  rw [Ha.out] at he
                  subst he
                  have HY1 := Lib.hid (show Grown wr4 V1 from grown_trans (by repeat (first | with_reducible exact Grown.refl _ | with_reducible refine Grown.setCell ?_ (by simp <;> omega) _ | with_reducible refine Grown.alloc ?_ _ _ | with_reducible refine grown_more ?_ _)) hW)
                  have HX := Lib.hid (show Grown wr4 V1 from grown_trans (by repeat (first | with_reducible exact Grown.refl _ | with_reducible refine Grown.setCell ?_ (by simp <;> omega) _ | with_reducible refine Grown.alloc ?_ _ _ | with_reducible refine grown_more ?_ _)) hW)
                  replace HT := Lib.hid (HT.out.grown HY1.out)
                  clear hW q0 q1 q2
                  obtain ⟨q0, q1, q2⟩ := HT.out
                  go_wp2_with fail
                  refine (rscale_any g m u n _ u0 u1 n0 n1).mono ?_
                  rintro e V2 ⟨he, hW⟩
                  rw [Ha.out] at he
                  subst he
                  have HY2 := Lib.hid (show Grown V1 V2 from grown_trans (by repeat (first | with_reducible exact Grown.refl _ | with_reducible refine Grown.setCell ?_ (by simp <;> omega) _ | with_reducible refine Grown.alloc ?_ _ _ | with_reducible refine grown_more ?_ _)) hW)
                  replace HX := Lib.hid (show Grown wr4 V2 from grown_trans (by repeat (first | with_reducible exact HX.out | with_reducible refine Grown.setCell ?_ (by simp <;> omega) _ | with_reducible refine Grown.alloc ?_ _ _ | with_reducible refine grown_more ?_ _)) hW)
                  replace HT := Lib.hid (HT.out.grown HY2.out)
                  have HB1 := Lib.hid (grown_new5 hW)
                  clear hW q0 q1 q2
                  obtain ⟨q0, q1, q2⟩ := HT.out
                  obtain ⟨z10, z11, z12, z13, z14, z15⟩ := HB1.out
                  go_wp2
                  go_roundw
                  case rel => exact ⟨K4 + 1, by omega, by go_num, grown_trans HG.out (by repeat (first | with_reducible exact HX.out | with_reducible refine Grown.setCell ?_ (by simp <;> omega) _ | with_reducible refine Grown.alloc ?_ _ _ | with_reducible refine grown_more ?_ _)), H1.out.grown (by repeat (first | with_reducible exact HX.out | with_reducible refine Grown.setCell ?_ (by simp <;> omega) _ | with_reducible refine Grown.alloc ?_ _ _ | with_reducible refine grown_more ?_ _)), HT.out.grown (by repeat (first | with_reducible exact Grown.refl _ | with_reducible refine Grown.setCell ?_ (by simp <;> omega) _ | with_reducible refine Grown.alloc ?_ _ _ | with_reducible refine grown_more ?_ _)), H3.out.grown (by repeat (first | with_reducible exact HX.out | with_reducible refine Grown.setCell ?_ (by simp <;> omega) _ | with_reducible refine Grown.alloc ?_ _ _ | with_reducible refine grown_more ?_ _)), H4.out.grown (by repeat (first | with_reducible exact HX.out | with_reducible refine Grown.setCell ?_ (by simp <;> omega) _ | with_reducible refine Grown.alloc ?_ _ _ | with_reducible refine grown_more ?_ _))⟩
                  case measure => simp [intOf]; omega
                · go_wp2
                  go_roundw
                  case rel => exact ⟨K3 + 1, by omega, by go_num, HG.out, H1.out, HT.out, H3.out⟩
                  case measure => simp [intOf]; omega
            · go_wp2
              go_roundw
              case rel => exact ⟨K + 1, by omega, by go_num, HG.out, H1.out⟩
              case measure => simp [intOf]; omega
    · go_wp2
      go_ret
      exact ⟨rfl, HG.out⟩
end Go.Proofs.Ytbmcohikblldjaa
