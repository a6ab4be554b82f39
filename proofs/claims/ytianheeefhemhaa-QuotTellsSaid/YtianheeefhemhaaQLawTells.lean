/- The walk of QuotTells. (Written by gen16.py.) -/
import Derived.Test.YtianheeefhemhaaQKnown
import Derived.Test.YtianheeefhemhaaRDiv
import Derived.Test.YtianheeefhemhaaRSqrt
namespace Go.Proofs.Ytianheeefhemhaa
open Go.RowKit
set_option linter.unusedVariables false
set_option linter.unusedSimpArgs false

/-- Block b holds these words. -/
structure PairAt (b : Nat) (x y : Int) (W : World) : Prop where
  lies : b < W.heap.size
  f0 : W.cell? ⟨b, 0, none⟩ = some (.int .u32 x)
  f1 : W.cell? ⟨b, 1, none⟩ = some (.int .u32 y)
theorem PairAt.grown {b : Nat} {x y : Int} {W W' : World} (h : PairAt b x y W) (g : Grown W W') : PairAt b x y W' :=
  ⟨Nat.lt_of_lt_of_le h.lies g.2.2, grown_cell g h.f0 h.lies, grown_cell g h.f1 h.lies⟩
theorem pair_new (x y : Int) (t : TypeId) (w : World) : PairAt w.heap.size x y (w.alloc (.cells #[.int .u32 x, .int .u32 y] t)) := by
  refine ⟨by show w.heap.size < (w.heap.push _).size; simp, ?_, ?_⟩ <;> rw [World.cell?_alloc_at (hn := rfl)] <;> rfl
structure ThreeAt (b : Nat) (x y z : Int) (W : World) : Prop where
  lies : b < W.heap.size
  f0 : W.cell? ⟨b, 0, none⟩ = some (.int .u32 x)
  f1 : W.cell? ⟨b, 1, none⟩ = some (.int .u32 y)
  f2 : W.cell? ⟨b, 2, none⟩ = some (.int .u32 z)
theorem ThreeAt.grown {b : Nat} {x y z : Int} {W W' : World} (h : ThreeAt b x y z W) (g : Grown W W') : ThreeAt b x y z W' :=
  ⟨Nat.lt_of_lt_of_le h.lies g.2.2, grown_cell g h.f0 h.lies, grown_cell g h.f1 h.lies, grown_cell g h.f2 h.lies⟩
theorem three_new (x y z : Int) (t : TypeId) (w : World) : ThreeAt w.heap.size x y z (w.alloc (.cells #[.int .u32 x, .int .u32 y, .int .u32 z] t)) := by
  refine ⟨by show w.heap.size < (w.heap.push _).size; simp, ?_, ?_, ?_⟩ <;> rw [World.cell?_alloc_at (hn := rfl)] <;> rfl
abbrev Words (n b : Nat) (W : World) : Prop := Holds .u32 n 0 4294967295 b W

def QTRel (w : World) (b : Nat) (i : Value) (W : World) : Prop := ∃ k : Nat, k ≤ 3 ∧ i = .int .i64 k ∧ Grown w W ∧ Words 6 b W

set_option maxRecDepth 100000 in
set_option maxHeartbeats 8000000 in
theorem qtells_walk (a0 a1 a2 a3 a4 a5 : Int) (w0 : (Lit.int .i64 a0).wf = true) (w1 : (Lit.int .i64 a1).wf = true) (w2 : (Lit.int .u8 a2).wf = true) (w3 : (Lit.int .u8 a3).wf = true) (w4 : (Lit.int .u32 a4).wf = true) (w5 : (Lit.int .u32 a5).wf = true) (w : World) :
    Calls Try.prog 3 #[.int .i64 a0, .int .i64 a1, .int .u8 a2, .int .u8 a3, .int .u32 a4, .int .u32 a5] w fun e w' => e = .returned (.bool true) ∧ Grown w w' := by
  obtain ⟨b0, b1⟩ := bounds_i64 w0
  obtain ⟨b2, b3⟩ := bounds_i64 w1
  obtain ⟨b4, b5⟩ := bounds_u8 w2
  obtain ⟨b6, b7⟩ := bounds_u8 w3
  obtain ⟨b8, b9⟩ := bounds_u32 w4
  obtain ⟨b10, b11⟩ := bounds_u32 w5
  clear w0 w1 w2 w3 w4 w5
  have HG0 := Lib.hid (Grown.refl w)
  obtain ⟨F, hF⟩ : ∃ F, a2 % 3 = F := ⟨_, rfl⟩
  have HF := Lib.hid hF
  clear hF
  obtain ⟨M, hM⟩ : ∃ M, a3 % 5 = M := ⟨_, rfl⟩
  go_enter Try.func3, Try.ntmps3
  go_wp2_with fail
  refine (known6_any _).mono ?_
  rintro e W1 ⟨he, hW⟩
  subst he
  have HX1 := Lib.hid (show Grown w W1 from grown_trans (by repeat (first | with_reducible exact Grown.refl _ | with_reducible refine Grown.setCell ?_ (by simp <;> omega) _ | with_reducible refine Grown.alloc ?_ _ _ | with_reducible refine grown_more ?_ _)) hW)
  clear hW
  have HG1 := Lib.hid (grown_trans HG0.out HX1.out)
  go_wp2_with fail
  refine (form6_any _ _ b4 b5).mono ?_
  rintro e W2 ⟨he, hW⟩
  rw [HF.out] at he
  subst he
  have HX2 := Lib.hid (show Grown W1 W2 from grown_trans (by repeat (first | with_reducible exact Grown.refl _ | with_reducible refine Grown.setCell ?_ (by simp <;> omega) _ | with_reducible refine Grown.alloc ?_ _ _ | with_reducible refine grown_more ?_ _)) hW)
  clear hW
  have HG2 := Lib.hid (grown_trans HG1.out HX2.out)
  go_wp2_with fail
  refine (num_any F a4 _ b8 b9).mono ?_
  rintro e W3 ⟨⟨N1, he, N1a, N1b⟩, hW⟩
  subst he
  have HX3 := Lib.hid (show Grown W2 W3 from grown_trans (by repeat (first | with_reducible exact Grown.refl _ | with_reducible refine Grown.setCell ?_ (by simp <;> omega) _ | with_reducible refine Grown.alloc ?_ _ _ | with_reducible refine grown_more ?_ _)) hW)
  clear hW
  have HG3 := Lib.hid (grown_trans HG2.out HX3.out)
  go_wp2_with fail
  refine (num_any F a5 _ b10 b11).mono ?_
  rintro e W4 ⟨⟨N2, he, N2a, N2b⟩, hW⟩
  subst he
  have HX4 := Lib.hid (show Grown W3 W4 from grown_trans (by repeat (first | with_reducible exact Grown.refl _ | with_reducible refine Grown.setCell ?_ (by simp <;> omega) _ | with_reducible refine Grown.alloc ?_ _ _ | with_reducible refine grown_more ?_ _)) hW)
  clear hW
  have HG4 := Lib.hid (grown_trans HG3.out HX4.out)
  go_wp2_with fail
  refine (mild_any F a4 _ b8 b9).mono ?_
  rintro e W5 ⟨⟨N3, he, N3a, N3b⟩, hW⟩
  subst he
  have HX5 := Lib.hid (show Grown W4 W5 from grown_trans (by repeat (first | with_reducible exact Grown.refl _ | with_reducible refine Grown.setCell ?_ (by simp <;> omega) _ | with_reducible refine Grown.alloc ?_ _ _ | with_reducible refine grown_more ?_ _)) hW)
  clear hW
  have HG5 := Lib.hid (grown_trans HG4.out HX5.out)
  go_wp2_with fail
  refine (mild_any F a5 _ b10 b11).mono ?_
  rintro e W6 ⟨⟨N4, he, N4a, N4b⟩, hW⟩
  subst he
  have HX6 := Lib.hid (show Grown W5 W6 from grown_trans (by repeat (first | with_reducible exact Grown.refl _ | with_reducible refine Grown.setCell ?_ (by simp <;> omega) _ | with_reducible refine Grown.alloc ?_ _ _ | with_reducible refine grown_more ?_ _)) hW)
  clear hW
  have HG6 := Lib.hid (grown_trans HG5.out HX6.out)
  have HGl := HG6
  clear HG1 HX1 HG2 HX2 HG3 HX3 HG4 HX4 HG5 HX5 HG6 HX6
  go_wp2_with fail
  go_loopw [55] (fun i wr => QTRel w W6.heap.size i wr) (fun i _ => (3 - intOf i).toNat)
  case atStart =>
    refine ⟨0, by decide, rfl, Grown.alloc HGl.out _ _, Holds.new rfl (by
      intro v hv
      simp only [List.mem_cons, List.not_mem_nil, or_false] at hv
      rcases hv with rfl | rfl | rfl | rfl | rfl | rfl <;> exact ⟨_, rfl, by omega, by omega⟩)⟩
  case round =>
    rename World => wr
    clear HGl
    obtain ⟨K, hK, rfl, hG, hH⟩ := hrel
    have HG := Lib.hid hG
    have HH := Lib.hid hH
    clear hG hH
    have hk' : K = 0 ∨ K = 1 ∨ K = 2 ∨ K = 3 := by omega
    clear hK
    rcases hk' with rfl | rfl | rfl | rfl
    · obtain ⟨X0, y0, l0, h0⟩ := HH.out.2 0 (by omega)
      obtain ⟨X1, y1, l1, h1⟩ := HH.out.2 1 (by omega)
      obtain ⟨v, g1, g2, g3, g4, g5, hR, _, _⟩ := div_shape F M X0 X1
      have HR := Lib.hid hR
      obtain ⟨u, k1, k2, k3, k4, k5, hS, _, _⟩ := sqr_shape F M X0
      have HS := Lib.hid hS
      clear hR hS
      go_wp2_with fail
      refine (qdiv_any F M X0 X1 _ l0 h0 l1 h1).mono ?_
      rintro e W5 ⟨he, hW⟩
      rw [HR.out] at he
      subst he
      have HX5 := Lib.hid (show Grown wr W5 from grown_trans (by repeat (first | with_reducible exact Grown.refl _ | with_reducible refine Grown.setCell ?_ (by simp <;> omega) _ | with_reducible refine Grown.alloc ?_ _ _ | with_reducible refine grown_more ?_ _)) hW)
      have HP5 := Lib.hid ((pair_new X0 X1 26 wr).grown (grown_trans (by repeat (first | with_reducible exact Grown.refl _ | with_reducible refine Grown.setCell ?_ (by simp <;> omega) _ | with_reducible refine Grown.alloc ?_ _ _ | with_reducible refine grown_more ?_ _)) hW))
      clear hW y0 y1
      obtain ⟨q, q0, q1⟩ := HP5.out
      go_wp2_with fail
      refine (rdiv_any F M X0 X1 _ l0 h0 l1 h1).mono ?_
      rintro e W6 ⟨he, hW⟩
      rw [HR.out] at he
      subst he
      have HX6 := Lib.hid (show Grown W5 W6 from grown_trans (by repeat (first | with_reducible exact Grown.refl _ | with_reducible refine Grown.setCell ?_ (by simp <;> omega) _ | with_reducible refine Grown.alloc ?_ _ _ | with_reducible refine grown_more ?_ _)) hW)
      have HB5 := Lib.hid ((five_new (c0 := .bool g1) (c1 := .bool g2) (c2 := .bool g3) (c3 := .bool g4) (c4 := .bool g5) (t := 29) (w := W5)).grown (grown_trans (by repeat (first | with_reducible exact Grown.refl _ | with_reducible refine Grown.setCell ?_ (by simp <;> omega) _ | with_reducible refine Grown.alloc ?_ _ _ | with_reducible refine grown_more ?_ _)) hW))
      have HP6 := Lib.hid (HP5.out.grown HX6.out)
      clear hW q q0 q1
      obtain ⟨q, q0, q1⟩ := HP6.out
      go_wp2_with fail
      refine (qsqrt_any F M X0 _ l0 h0).mono ?_
      rintro e W7 ⟨he, hW⟩
      rw [HS.out] at he
      subst he
      have HX7 := Lib.hid (show Grown W6 W7 from grown_trans (by repeat (first | with_reducible exact Grown.refl _ | with_reducible refine Grown.setCell ?_ (by simp <;> omega) _ | with_reducible refine Grown.alloc ?_ _ _ | with_reducible refine grown_more ?_ _)) hW)
      have HB6 := Lib.hid ((five_new (c0 := .bool g1) (c1 := .bool g2) (c2 := .bool g3) (c3 := .bool g4) (c4 := .bool g5) (t := 29) (w := W6)).grown (grown_trans (by repeat (first | with_reducible exact Grown.refl _ | with_reducible refine Grown.setCell ?_ (by simp <;> omega) _ | with_reducible refine Grown.alloc ?_ _ _ | with_reducible refine grown_more ?_ _)) hW))
      have HP7 := Lib.hid (HP6.out.grown HX7.out)
      replace HB5 := Lib.hid (HB5.out.grown HX7.out)
      clear hW q q0 q1
      obtain ⟨q, q0, q1⟩ := HP7.out
      go_wp2_with fail
      refine (rsqrt_any F M X0 _ l0 h0).mono ?_
      rintro e W8 ⟨he, hW⟩
      rw [HS.out] at he
      subst he
      have HX8 := Lib.hid (show Grown W7 W8 from grown_trans (by repeat (first | with_reducible exact Grown.refl _ | with_reducible refine Grown.setCell ?_ (by simp <;> omega) _ | with_reducible refine Grown.alloc ?_ _ _ | with_reducible refine grown_more ?_ _)) hW)
      have HB7 := Lib.hid ((five_new (c0 := .bool k1) (c1 := .bool k2) (c2 := .bool k3) (c3 := .bool k4) (c4 := .bool k5) (t := 29) (w := W7)).grown (grown_trans (by repeat (first | with_reducible exact Grown.refl _ | with_reducible refine Grown.setCell ?_ (by simp <;> omega) _ | with_reducible refine Grown.alloc ?_ _ _ | with_reducible refine grown_more ?_ _)) hW))
      replace HB5 := Lib.hid (HB5.out.grown HX8.out)
      replace HB6 := Lib.hid (HB6.out.grown HX8.out)
      clear hW q q0 q1
      have HX6 := Lib.hid (grown_trans (grown_trans (grown_trans HX5.out HX6.out) HX7.out) HX8.out)
      obtain ⟨p0, p1, p2, p3, p4, p5⟩ := HB5.out
      obtain ⟨r0, r1, r2, r3, r4, r5⟩ := HB6.out
      obtain ⟨t0, t1, t2, t3, t4, t5⟩ := HB7.out
      go_wp2
      go_roundw
      case rel => exact ⟨1, by omega, by go_num, grown_trans HG.out (Grown.alloc HX6.out _ _), HH.out.grown (Grown.alloc HX6.out _ _)⟩
      case measure => simp [intOf]
    · obtain ⟨X0, y0, l0, h0⟩ := HH.out.2 2 (by omega)
      obtain ⟨X1, y1, l1, h1⟩ := HH.out.2 3 (by omega)
      obtain ⟨v, g1, g2, g3, g4, g5, hR, _, _⟩ := div_shape F M X0 X1
      have HR := Lib.hid hR
      obtain ⟨u, k1, k2, k3, k4, k5, hS, _, _⟩ := sqr_shape F M X0
      have HS := Lib.hid hS
      clear hR hS
      go_wp2_with fail
      refine (qdiv_any F M X0 X1 _ l0 h0 l1 h1).mono ?_
      rintro e W5 ⟨he, hW⟩
      rw [HR.out] at he
      subst he
      have HX5 := Lib.hid (show Grown wr W5 from grown_trans (by repeat (first | with_reducible exact Grown.refl _ | with_reducible refine Grown.setCell ?_ (by simp <;> omega) _ | with_reducible refine Grown.alloc ?_ _ _ | with_reducible refine grown_more ?_ _)) hW)
      have HP5 := Lib.hid ((pair_new X0 X1 26 wr).grown (grown_trans (by repeat (first | with_reducible exact Grown.refl _ | with_reducible refine Grown.setCell ?_ (by simp <;> omega) _ | with_reducible refine Grown.alloc ?_ _ _ | with_reducible refine grown_more ?_ _)) hW))
      clear hW y0 y1
      obtain ⟨q, q0, q1⟩ := HP5.out
      go_wp2_with fail
      refine (rdiv_any F M X0 X1 _ l0 h0 l1 h1).mono ?_
      rintro e W6 ⟨he, hW⟩
      rw [HR.out] at he
      subst he
      have HX6 := Lib.hid (show Grown W5 W6 from grown_trans (by repeat (first | with_reducible exact Grown.refl _ | with_reducible refine Grown.setCell ?_ (by simp <;> omega) _ | with_reducible refine Grown.alloc ?_ _ _ | with_reducible refine grown_more ?_ _)) hW)
      have HB5 := Lib.hid ((five_new (c0 := .bool g1) (c1 := .bool g2) (c2 := .bool g3) (c3 := .bool g4) (c4 := .bool g5) (t := 29) (w := W5)).grown (grown_trans (by repeat (first | with_reducible exact Grown.refl _ | with_reducible refine Grown.setCell ?_ (by simp <;> omega) _ | with_reducible refine Grown.alloc ?_ _ _ | with_reducible refine grown_more ?_ _)) hW))
      have HP6 := Lib.hid (HP5.out.grown HX6.out)
      clear hW q q0 q1
      obtain ⟨q, q0, q1⟩ := HP6.out
      go_wp2_with fail
      refine (qsqrt_any F M X0 _ l0 h0).mono ?_
      rintro e W7 ⟨he, hW⟩
      rw [HS.out] at he
      subst he
      have HX7 := Lib.hid (show Grown W6 W7 from grown_trans (by repeat (first | with_reducible exact Grown.refl _ | with_reducible refine Grown.setCell ?_ (by simp <;> omega) _ | with_reducible refine Grown.alloc ?_ _ _ | with_reducible refine grown_more ?_ _)) hW)
      have HB6 := Lib.hid ((five_new (c0 := .bool g1) (c1 := .bool g2) (c2 := .bool g3) (c3 := .bool g4) (c4 := .bool g5) (t := 29) (w := W6)).grown (grown_trans (by repeat (first | with_reducible exact Grown.refl _ | with_reducible refine Grown.setCell ?_ (by simp <;> omega) _ | with_reducible refine Grown.alloc ?_ _ _ | with_reducible refine grown_more ?_ _)) hW))
      have HP7 := Lib.hid (HP6.out.grown HX7.out)
      replace HB5 := Lib.hid (HB5.out.grown HX7.out)
      clear hW q q0 q1
      obtain ⟨q, q0, q1⟩ := HP7.out
      go_wp2_with fail
      refine (rsqrt_any F M X0 _ l0 h0).mono ?_
      rintro e W8 ⟨he, hW⟩
      rw [HS.out] at he
      subst he
      have HX8 := Lib.hid (show Grown W7 W8 from grown_trans (by repeat (first | with_reducible exact Grown.refl _ | with_reducible refine Grown.setCell ?_ (by simp <;> omega) _ | with_reducible refine Grown.alloc ?_ _ _ | with_reducible refine grown_more ?_ _)) hW)
      have HB7 := Lib.hid ((five_new (c0 := .bool k1) (c1 := .bool k2) (c2 := .bool k3) (c3 := .bool k4) (c4 := .bool k5) (t := 29) (w := W7)).grown (grown_trans (by repeat (first | with_reducible exact Grown.refl _ | with_reducible refine Grown.setCell ?_ (by simp <;> omega) _ | with_reducible refine Grown.alloc ?_ _ _ | with_reducible refine grown_more ?_ _)) hW))
      replace HB5 := Lib.hid (HB5.out.grown HX8.out)
      replace HB6 := Lib.hid (HB6.out.grown HX8.out)
      clear hW q q0 q1
      have HX6 := Lib.hid (grown_trans (grown_trans (grown_trans HX5.out HX6.out) HX7.out) HX8.out)
      obtain ⟨p0, p1, p2, p3, p4, p5⟩ := HB5.out
      obtain ⟨r0, r1, r2, r3, r4, r5⟩ := HB6.out
      obtain ⟨t0, t1, t2, t3, t4, t5⟩ := HB7.out
      go_wp2
      go_roundw
      case rel => exact ⟨2, by omega, by go_num, grown_trans HG.out (Grown.alloc HX6.out _ _), HH.out.grown (Grown.alloc HX6.out _ _)⟩
      case measure => simp [intOf]
    · obtain ⟨X0, y0, l0, h0⟩ := HH.out.2 4 (by omega)
      obtain ⟨X1, y1, l1, h1⟩ := HH.out.2 5 (by omega)
      obtain ⟨v, g1, g2, g3, g4, g5, hR, _, _⟩ := div_shape F M X0 X1
      have HR := Lib.hid hR
      obtain ⟨u, k1, k2, k3, k4, k5, hS, _, _⟩ := sqr_shape F M X0
      have HS := Lib.hid hS
      clear hR hS
      go_wp2_with fail
      refine (qdiv_any F M X0 X1 _ l0 h0 l1 h1).mono ?_
      rintro e W5 ⟨he, hW⟩
      rw [HR.out] at he
      subst he
      have HX5 := Lib.hid (show Grown wr W5 from grown_trans (by repeat (first | with_reducible exact Grown.refl _ | with_reducible refine Grown.setCell ?_ (by simp <;> omega) _ | with_reducible refine Grown.alloc ?_ _ _ | with_reducible refine grown_more ?_ _)) hW)
      have HP5 := Lib.hid ((pair_new X0 X1 26 wr).grown (grown_trans (by repeat (first | with_reducible exact Grown.refl _ | with_reducible refine Grown.setCell ?_ (by simp <;> omega) _ | with_reducible refine Grown.alloc ?_ _ _ | with_reducible refine grown_more ?_ _)) hW))
      clear hW y0 y1
      obtain ⟨q, q0, q1⟩ := HP5.out
      go_wp2_with fail
      refine (rdiv_any F M X0 X1 _ l0 h0 l1 h1).mono ?_
      rintro e W6 ⟨he, hW⟩
      rw [HR.out] at he
      subst he
      have HX6 := Lib.hid (show Grown W5 W6 from grown_trans (by repeat (first | with_reducible exact Grown.refl _ | with_reducible refine Grown.setCell ?_ (by simp <;> omega) _ | with_reducible refine Grown.alloc ?_ _ _ | with_reducible refine grown_more ?_ _)) hW)
      have HB5 := Lib.hid ((five_new (c0 := .bool g1) (c1 := .bool g2) (c2 := .bool g3) (c3 := .bool g4) (c4 := .bool g5) (t := 29) (w := W5)).grown (grown_trans (by repeat (first | with_reducible exact Grown.refl _ | with_reducible refine Grown.setCell ?_ (by simp <;> omega) _ | with_reducible refine Grown.alloc ?_ _ _ | with_reducible refine grown_more ?_ _)) hW))
      have HP6 := Lib.hid (HP5.out.grown HX6.out)
      clear hW q q0 q1
      obtain ⟨q, q0, q1⟩ := HP6.out
      go_wp2_with fail
      refine (qsqrt_any F M X0 _ l0 h0).mono ?_
      rintro e W7 ⟨he, hW⟩
      rw [HS.out] at he
      subst he
      have HX7 := Lib.hid (show Grown W6 W7 from grown_trans (by repeat (first | with_reducible exact Grown.refl _ | with_reducible refine Grown.setCell ?_ (by simp <;> omega) _ | with_reducible refine Grown.alloc ?_ _ _ | with_reducible refine grown_more ?_ _)) hW)
      have HB6 := Lib.hid ((five_new (c0 := .bool g1) (c1 := .bool g2) (c2 := .bool g3) (c3 := .bool g4) (c4 := .bool g5) (t := 29) (w := W6)).grown (grown_trans (by repeat (first | with_reducible exact Grown.refl _ | with_reducible refine Grown.setCell ?_ (by simp <;> omega) _ | with_reducible refine Grown.alloc ?_ _ _ | with_reducible refine grown_more ?_ _)) hW))
      have HP7 := Lib.hid (HP6.out.grown HX7.out)
      replace HB5 := Lib.hid (HB5.out.grown HX7.out)
      clear hW q q0 q1
      obtain ⟨q, q0, q1⟩ := HP7.out
      go_wp2_with fail
      refine (rsqrt_any F M X0 _ l0 h0).mono ?_
      rintro e W8 ⟨he, hW⟩
      rw [HS.out] at he
      subst he
      have HX8 := Lib.hid (show Grown W7 W8 from grown_trans (by repeat (first | with_reducible exact Grown.refl _ | with_reducible refine Grown.setCell ?_ (by simp <;> omega) _ | with_reducible refine Grown.alloc ?_ _ _ | with_reducible refine grown_more ?_ _)) hW)
      have HB7 := Lib.hid ((five_new (c0 := .bool k1) (c1 := .bool k2) (c2 := .bool k3) (c3 := .bool k4) (c4 := .bool k5) (t := 29) (w := W7)).grown (grown_trans (by repeat (first | with_reducible exact Grown.refl _ | with_reducible refine Grown.setCell ?_ (by simp <;> omega) _ | with_reducible refine Grown.alloc ?_ _ _ | with_reducible refine grown_more ?_ _)) hW))
      replace HB5 := Lib.hid (HB5.out.grown HX8.out)
      replace HB6 := Lib.hid (HB6.out.grown HX8.out)
      clear hW q q0 q1
      have HX6 := Lib.hid (grown_trans (grown_trans (grown_trans HX5.out HX6.out) HX7.out) HX8.out)
      obtain ⟨p0, p1, p2, p3, p4, p5⟩ := HB5.out
      obtain ⟨r0, r1, r2, r3, r4, r5⟩ := HB6.out
      obtain ⟨t0, t1, t2, t3, t4, t5⟩ := HB7.out
      go_wp2
      go_roundw
      case rel => exact ⟨3, by omega, by go_num, grown_trans HG.out (Grown.alloc HX6.out _ _), HH.out.grown (Grown.alloc HX6.out _ _)⟩
      case measure => simp [intOf]
    · obtain ⟨v, g1, g2, g3, g4, g5, hR, _, _⟩ := div_shape a0 a1 a4 a5
      have HR := Lib.hid hR
      clear hR
      go_wp2_with fail
      refine (qdiv_any a0 a1 a4 a5 _ b8 b9 b10 b11).mono ?_
      rintro e W5 ⟨he, hW⟩
      rw [HR.out] at he
      subst he
      have HX5 := Lib.hid (show Grown wr W5 from grown_trans (by repeat (first | with_reducible exact Grown.refl _ | with_reducible refine Grown.setCell ?_ (by simp <;> omega) _ | with_reducible refine Grown.alloc ?_ _ _ | with_reducible refine grown_more ?_ _)) hW)
      clear hW
      go_wp2_with fail
      refine (rdiv_any a0 a1 a4 a5 _ b8 b9 b10 b11).mono ?_
      rintro e W6 ⟨he, hW⟩
      rw [HR.out] at he
      subst he
      have HX6 := Lib.hid (show Grown wr W6 from grown_trans (by repeat (first | with_reducible exact HX5.out | with_reducible refine Grown.setCell ?_ (by simp <;> omega) _ | with_reducible refine Grown.alloc ?_ _ _ | with_reducible refine grown_more ?_ _)) hW)
      have HB5 := Lib.hid ((five_new (c0 := .bool g1) (c1 := .bool g2) (c2 := .bool g3) (c3 := .bool g4) (c4 := .bool g5) (t := 29) (w := W5)).grown (grown_trans (by repeat (first | with_reducible exact Grown.refl _ | with_reducible refine Grown.setCell ?_ (by simp <;> omega) _ | with_reducible refine Grown.alloc ?_ _ _ | with_reducible refine grown_more ?_ _)) hW))
      clear hW
      obtain ⟨p, p0, p1, p2, p3, p4⟩ := HB5.out
      have HGe := Lib.hid (grown_trans HG.out HX6.out)
      go_wp2
      go_ret
      exact ⟨rfl, by repeat (first | with_reducible exact HGe.out | with_reducible refine Grown.setCell ?_ (by simp <;> omega) _ | with_reducible refine Grown.alloc ?_ _ _ | with_reducible refine grown_more ?_ _)⟩
end Go.Proofs.Ytianheeefhemhaa
