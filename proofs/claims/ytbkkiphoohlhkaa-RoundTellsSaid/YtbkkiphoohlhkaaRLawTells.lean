/- The walk of RoundTells. -/
import Derived.Test.YtbkkiphoohlhkaaRKnown
import Derived.Test.YtbkkiphoohlhkaaRRdT
import Derived.Test.YtbkkiphoohlhkaaHolds
namespace Go.Proofs.Ytbkkiphoohlhkaa
open Go.RowKit
set_option linter.unusedVariables false
set_option linter.unusedSimpArgs false

abbrev I64s (n b : Nat) (W : World) : Prop := Holds .i64 n (-9223372036854775808) 9223372036854775807 b W
def TRel1 (w : World) (b : Nat) (i : Value) (W : World) : Prop := ∃ k : Nat, k ≤ 2 ∧ i = .int .i64 k ∧ Grown w W ∧ I64s 2 b W
def TRel2 (w : World) (b c : Nat) (i : Value) (W : World) : Prop := ∃ k : Nat, k ≤ 2 ∧ i = .int .i64 k ∧ Grown w W ∧ I64s 2 b W ∧ I64s 2 c W
def TRel3 (w : World) (b c d : Nat) (i : Value) (W : World) : Prop := ∃ k : Nat, k ≤ 6 ∧ i = .int .i64 k ∧ Grown w W ∧ I64s 2 b W ∧ I64s 2 c W ∧ I64s 6 d W
def TRel4 (w : World) (b c d g : Nat) (i : Value) (W : World) : Prop := ∃ k : Nat, k ≤ 4 ∧ i = .int .i64 k ∧ Grown w W ∧ I64s 2 b W ∧ I64s 2 c W ∧ I64s 6 d W ∧ Holds .u64 4 0 18446744073709551615 g W

set_option maxRecDepth 100000 in
set_option maxHeartbeats 8000000 in
theorem rtells_walk (a0 a1 a2 a3 a4 a5 : Int) (a6 a7 : Bool) (w0 : (Lit.int .i64 a0).wf = true) (w1 : (Lit.int .i64 a1).wf = true) (w2 : (Lit.int .i64 a2).wf = true) (w3 : (Lit.int .u8 a3).wf = true) (w4 : (Lit.int .u8 a4).wf = true) (w5 : (Lit.int .u64 a5).wf = true) (w : World) :
    Calls Try.prog 3 #[.int .i64 a0, .int .i64 a1, .int .i64 a2, .int .u8 a3, .int .u8 a4, .int .u64 a5, .bool a6, .bool a7] w fun e w' => e = .returned (.bool true) ∧ Grown w w' := by
  obtain ⟨b0, b1⟩ := bounds_i64 w0
  obtain ⟨b2, b3⟩ := bounds_i64 w1
  obtain ⟨b4, b5⟩ := bounds_i64 w2
  obtain ⟨b6, b7⟩ := bounds_u8 w3
  obtain ⟨b8, b9⟩ := bounds_u8 w4
  obtain ⟨b10, b11⟩ := bounds_u64 w5
  clear w0 w1 w2 w3 w4 w5
  have HG := Lib.hid (Grown.refl w)
  go_enter Try.func3, Try.ntmps3
  go_wp2_with (first
    | (go_at_call 8; refine (known3_any _).mono ?_; rintro e W1 ⟨rfl, hW1⟩; replace HG := Lib.hid (grown_trans HG.out hW1); clear hW1)
    | (go_at_call 9; refine (form3_any _ _ b6 b7).mono ?_; rintro e W2 ⟨rfl, hW2⟩; replace HG := Lib.hid (grown_trans HG.out hW2); clear hW2))
  rename_i W1 W2
  go_loopw [36] (fun i wr1 => TRel1 w W2.heap.size i wr1) (fun i _ => (2 - intOf i).toNat)
  case atStart =>
    exact ⟨0, by decide, rfl, Grown.alloc HG.out _ _, Holds.new rfl (by
      intro v hv
      simp only [List.mem_cons, List.not_mem_nil, or_false] at hv
      rcases hv with rfl | rfl <;> exact ⟨_, rfl, by omega, by omega⟩)⟩
  case round =>
    rename World => wr1
    clear HG
    obtain ⟨K, hK, rfl, hG, hH⟩ := hrel
    have HG := Lib.hid hG
    have H1 := Lib.hid hH
    clear hG hH
    by_cases c : (K : Int) < 2
    · obtain ⟨g, hg, g0, g1⟩ := H1.out.2 K (by omega)
      go_wp2
      go_loopw [46] (fun i wr2 => TRel2 w W2.heap.size wr1.heap.size i wr2) (fun i _ => (2 - intOf i).toNat)
      case atStart =>
        exact ⟨0, by decide, rfl, Grown.alloc HG.out _ _, H1.out.grown (Grown.alloc (Grown.refl _) _ _), Holds.new rfl (by
          intro v hv
          simp only [List.mem_cons, List.not_mem_nil, or_false] at hv
          rcases hv with rfl | rfl <;> exact ⟨_, rfl, by omega, by omega⟩)⟩
      case round =>
        rename World => wr2
        clear HG H1 hK hg
        obtain ⟨K2, hK2, rfl, hG, hH1, hH2⟩ := hrel
        have HG := Lib.hid hG
        have H1 := Lib.hid hH1
        have H2 := Lib.hid hH2
        clear hG hH1 hH2
        by_cases c2 : (K2 : Int) < 2
        · obtain ⟨m, hm, m0, m1⟩ := H2.out.2 K2 (by omega)
          go_wp2
          go_loopw [64] (fun i wr3 => TRel3 w W2.heap.size wr1.heap.size wr2.heap.size i wr3) (fun i _ => (6 - intOf i).toNat)
          case atStart =>
            refine ⟨0, by decide, rfl, Grown.alloc HG.out _ _, H1.out.grown (Grown.alloc (Grown.refl _) _ _), H2.out.grown (Grown.alloc (Grown.refl _) _ _), Holds.new rfl (by
              intro v hv
              simp only [List.mem_cons, List.not_mem_nil, or_false] at hv
              rcases hv with rfl | rfl | rfl | rfl | rfl | rfl <;> exact ⟨_, rfl, by first | omega | (simp only [wrap64]; omega), by first | omega | (simp only [wrap64]; omega)⟩)⟩
          case round =>
            rename World => wr3
            clear HG H1 H2 hK2 hm
            obtain ⟨K3, hK3, rfl, hG, hH1, hH2, hH3⟩ := hrel
            have HG := Lib.hid hG
            have H1 := Lib.hid hH1
            have H2 := Lib.hid hH2
            have H3 := Lib.hid hH3
            clear hG hH1 hH2 hH3
            by_cases c3 : (K3 : Int) < 6
            · obtain ⟨x, hx, x0, x1⟩ := H3.out.2 K3 (by omega)
              go_wp2
              go_loopw [79] (fun i wr4 => TRel4 w W2.heap.size wr1.heap.size wr2.heap.size wr3.heap.size i wr4) (fun i _ => (4 - intOf i).toNat)
              case atStart =>
                refine ⟨0, by decide, rfl, Grown.alloc HG.out _ _, H1.out.grown (Grown.alloc (Grown.refl _) _ _), H2.out.grown (Grown.alloc (Grown.refl _) _ _), H3.out.grown (Grown.alloc (Grown.refl _) _ _), Holds.new rfl (by
                  intro v hv
                  simp only [List.mem_cons, List.not_mem_nil, or_false] at hv
                  rcases hv with rfl | rfl | rfl | rfl
                  · exact ⟨_, rfl, by omega, by omega⟩
                  · exact ⟨_, rfl, Int.ediv_nonneg b10 (Int.le_of_lt (pow2_pos _)), Int.le_trans (Int.ediv_le_self _ b10) b11⟩
                  · exact ⟨_, rfl, by omega, by omega⟩
                  · exact ⟨_, rfl, (bounds_u64 (wf_bits .and .u64 a5 7)).1, (bounds_u64 (wf_bits .and .u64 a5 7)).2⟩)⟩
              case round =>
                rename World => wr4
                clear HG H1 H2 H3 hK3 hx
                obtain ⟨K4, hK4, rfl, hG, hH1, hH2, hH3, hH4⟩ := hrel
                have HG := Lib.hid hG
                have H1 := Lib.hid hH1
                have H2 := Lib.hid hH2
                have H3 := Lib.hid hH3
                have H4 := Lib.hid hH4
                clear hG hH1 hH2 hH3 hH4
                by_cases c4 : (K4 : Int) < 4
                · obtain ⟨y, hy, y0, y1⟩ := H4.out.2 K4 (by omega)
                  have HR := Lib.hid (Grown.refl wr4)
                  go_wp2_with (first
                    | (go_at_call 10; refine (pack_any _ _ _ _ _ _ _ (by omega) (by omega) (by omega) (by omega)).mono ?_; rintro e W5 ⟨he, hW5⟩; rw [← packE_is] at he; subst he; replace HR := Lib.hid (grown_trans HR.out hW5); clear hW5)
                    | (go_at_call 11; refine (rpack_any _ _ _ _ _ _ _ (by omega) (by omega) (by omega) (by omega)).mono ?_; rintro e W6 ⟨he, hW6⟩; rw [← packE_is] at he; subst he; replace HR := Lib.hid (grown_trans (Grown.alloc HR.out _ _) hW6); obtain ⟨i0, i1, i2, i3, i4, i5⟩ := grown_new5 hW6; clear hW6))
                  go_roundw
                  case rel =>
                    refine ⟨K4 + 1, by omega, by go_num, grown_trans HG.out (Grown.alloc HR.out _ _), H1.out.grown (Grown.alloc HR.out _ _), H2.out.grown (Grown.alloc HR.out _ _), H3.out.grown (Grown.alloc HR.out _ _), H4.out.grown (Grown.alloc HR.out _ _)⟩
                  case measure => simp [intOf]; omega
                · go_wp2
                  go_roundw
                  case rel => exact ⟨K3 + 1, by omega, by go_num, HG.out, H1.out, H2.out, H3.out⟩
                  case measure => simp [intOf]; omega
            · go_wp2
              go_roundw
              case rel => exact ⟨K2 + 1, by omega, by go_num, HG.out, H1.out, H2.out⟩
              case measure => simp [intOf]; omega
        · go_wp2
          go_roundw
          case rel => exact ⟨K + 1, by omega, by go_num, HG.out, H1.out⟩
          case measure => simp [intOf]; omega
    · go_wp2
      go_ret
      exact ⟨rfl, HG.out⟩
end Go.Proofs.Ytbkkiphoohlhkaa
