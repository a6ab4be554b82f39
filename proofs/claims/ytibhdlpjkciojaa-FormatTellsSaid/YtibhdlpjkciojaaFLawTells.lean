/- The walk of FormatTells. -/
import Derived.Test.YtibhdlpjkciojaaFKnown
import Derived.Lib.Hide
import Derived.Handy
namespace Go.Proofs.Ytibhdlpjkciojaa
open Go.RowKit
set_option linter.unusedVariables false
set_option linter.unusedSimpArgs false

/-- Block b holds n numbers of a kind. -/
def Holds (k : IntKind) (n : Nat) (lo hi : Int) (b : Nat) (W : World) : Prop :=
  b < W.heap.size ∧ ∀ j, j < n → ∃ x : Int, W.cell? ⟨b, j, none⟩ = some (.int k x) ∧ lo ≤ x ∧ x ≤ hi
theorem Holds.grown {k : IntKind} {n : Nat} {lo hi : Int} {b : Nat} {W W' : World} (h : Holds k n lo hi b W) (g : Grown W W') : Holds k n lo hi b W' :=
  ⟨Nat.lt_of_lt_of_le h.1 g.2.2, fun j hj => by obtain ⟨x, hx, h0⟩ := h.2 j hj; exact ⟨x, grown_cell g hx h.1, h0⟩⟩
theorem Holds.more {k : IntKind} {n : Nat} {lo hi : Int} {b : Nat} {W : World} (h : Holds k n lo hi b W) (m : Nat) : Holds k n lo hi b (W.drewN m) := h
theorem Holds.new {W : World} {C : Array Value} {t : TypeId} {k : IntKind} {n : Nat} {lo hi : Int} (hn : n = C.size)
    (h : ∀ v ∈ C.toList, ∃ x : Int, v = .int k x ∧ lo ≤ x ∧ x ≤ hi) : Holds k n lo hi W.heap.size (W.alloc (.cells C t)) := by
  refine ⟨by show W.heap.size < (W.heap.push _).size; simp, fun j hj => ?_⟩
  subst hn
  obtain ⟨x, hx, b0⟩ := h C[j] (by simp)
  refine ⟨x, ?_, b0⟩
  rw [World.cell?_alloc_mark W C t (0, 0) j]
  rw [← hx]; simp [hj]
def OutRel (w : World) (b : Nat) (i : Value) (W : World) : Prop :=
  ∃ k : Nat, k ≤ 4 ∧ i = .int .i64 k ∧ Grown w W ∧ Holds .i64 4 (-9223372036854775808) 9223372036854775807 b W
def InRel (w : World) (b c : Nat) (i : Value) (W : World) : Prop :=
  ∃ k : Nat, k ≤ 3 ∧ i = .int .i64 k ∧ Grown w W ∧ Holds .i64 4 (-9223372036854775808) 9223372036854775807 b W ∧ Holds .u32 3 0 4294967295 c W

set_option maxRecDepth 100000 in
set_option maxHeartbeats 8000000 in
theorem ftells_walk (a0 a1 a2 : Int) (a3 : Bool) (w0 : (Lit.int .i64 a0).wf = true) (w1 : (Lit.int .u32 a1).wf = true) (w2 : (Lit.int .u32 a2).wf = true) (w : World) :
    Calls Try.prog 3 #[.int .i64 a0, .int .u32 a1, .int .u32 a2, .bool a3] w fun e w' => e = .returned (.bool true) ∧ Grown w w' := by
  obtain ⟨b0, b1⟩ := bounds_i64 w0
  obtain ⟨b2, b3⟩ := bounds_u32 w1
  obtain ⟨b4, b5⟩ := bounds_u32 w2
  clear w0 w1 w2
  go_enter Try.func3, Try.ntmps3
  go_wp2_with (first
    | (go_at_call 7; refine (known2_any _).mono ?_; rintro e W ⟨rfl, hW⟩))
  have HW := Lib.hid hW
  clear hW
  go_loopw [28] (fun i wr => OutRel w W.heap.size i wr) (fun i _ => (4 - intOf i).toNat)
  case atStart =>
    exact ⟨0, by decide, rfl, Grown.alloc HW.out _ _, Holds.new rfl (by
      intro v hv
      simp only [List.mem_cons, List.not_mem_nil, or_false] at hv
      rcases hv with rfl | rfl | rfl | rfl <;> exact ⟨_, rfl, by omega, by omega⟩)⟩
  case round =>
    obtain ⟨K, hK, rfl, hG, hH⟩ := hrel
    have HG := Lib.hid hG
    have HH := Lib.hid hH
    clear hG hH
    by_cases c : K < 4
    · obtain ⟨g, hg, g0, g1⟩ := HH.out.2 K c
      go_wp2_with (first
        | (go_at_call 8; refine (num_any _ _ _ (by omega) (by omega)).mono ?_; rintro e W3 ⟨⟨x, rfl, x0, x1⟩, hW3⟩; have HW3 := Lib.hid hW3; clear hW3))
      rename_i V y y0 y1 HV
      go_loopw [41] (fun i wr => InRel w W.heap.size W3.heap.size i wr) (fun i _ => (3 - intOf i).toNat)
      case atStart =>
        exact ⟨0, by decide, rfl, Grown.alloc (grown_trans (grown_trans HG.out HV.out) HW3.out) _ _, ((HH.out.grown HV.out).grown HW3.out).grown (Grown.alloc (Grown.refl _) _ _), Holds.new rfl (by
          intro v hv
          simp only [List.mem_cons, List.not_mem_nil, or_false] at hv
          rcases hv with rfl | rfl | rfl <;> exact ⟨_, rfl, by omega, by omega⟩)⟩
      case round =>
        obtain ⟨J, hJ, rfl, hG2, hH2, hC2⟩ := hrel
        have HG2 := Lib.hid hG2
        have HH2 := Lib.hid hH2
        have HC2 := Lib.hid hC2
        clear hG2 hH2 hC2
        by_cases c3 : J < 3
        · obtain ⟨z, hz, z0, z1⟩ := HC2.out.2 J c3
          go_wp2_with (first
            | (go_at_call 9; refine (unpack_any _ _ _ (by omega) (by omega)).mono ?_; rintro e w' ⟨rfl, m, rfl⟩)
            | (go_at_call 10; refine (runpack_any _ _ _ (by omega) (by omega)).mono ?_; rintro e w' ⟨rfl, m, rfl⟩)
            | (go_at_call 11; refine (class_any _ _ _ (by omega) (by omega)).mono ?_; rintro e w' ⟨rfl, m, rfl⟩)
            | (go_at_call 12; refine (rclass_any _ _ _ (by omega) (by omega)).mono ?_; rintro e w' ⟨rfl, m, rfl⟩)
            | (go_at_call 13; refine (finite_any _ _ _ (by omega) (by omega)).mono ?_; rintro e w' ⟨rfl, m, rfl⟩)
            | (go_at_call 14; refine (rfinite_any _ _ _ (by omega) (by omega)).mono ?_; rintro e w' ⟨rfl, m, rfl⟩))
          go_roundw
          case rel => exact ⟨J + 1, by omega, by go_num, grown_more HG2.out _, HH2.out.more _, HC2.out.more _⟩
          case measure => simp [intOf]; omega
        · go_wp2_with (first
            | (go_at_call 15; refine (widths_any _ _).mono ?_; rintro e w' ⟨rfl, rfl⟩)
            | (go_at_call 16; refine (rwidths_any _ _).mono ?_; rintro e w' ⟨rfl, rfl⟩)
            | (go_at_call 17; refine (mask_any _ _).mono ?_; rintro e w' ⟨rfl, rfl⟩)
            | (go_at_call 18; refine (rmask_any _ _).mono ?_; rintro e w' ⟨rfl, rfl⟩)
            | (go_at_call 19; refine (zero_any _ _ _).mono ?_; rintro e w' ⟨rfl, rfl⟩)
            | (go_at_call 20; refine (rzero_any _ _ _).mono ?_; rintro e w' ⟨rfl, rfl⟩)
            | (go_at_call 21; refine (inf_any _ _ _).mono ?_; rintro e w' ⟨rfl, rfl⟩)
            | (go_at_call 22; refine (rinf_any _ _ _).mono ?_; rintro e w' ⟨rfl, m, rfl⟩)
            | (go_at_call 23; refine (greatest_any _ _ _).mono ?_; rintro e w' ⟨rfl, rfl⟩)
            | (go_at_call 24; refine (rgreatest_any _ _ _).mono ?_; rintro e w' ⟨rfl, m, rfl⟩)
            | (go_at_call 25; refine (nan_any _ _).mono ?_; rintro e w' ⟨rfl, rfl⟩)
            | (go_at_call 26; refine (rnan_any _ _).mono ?_; rintro e w' ⟨rfl, m, rfl⟩))
          go_roundw
          case rel => exact ⟨K + 1, by omega, by go_num, grown_more HG2.out _, HH2.out.more _⟩
          case measure => simp [intOf]; omega
    · go_wp2
      go_ret
      exact ⟨rfl, HG.out⟩
end Go.Proofs.Ytibhdlpjkciojaa
