/- The walk of SumTells. -/
import Derived.Test.YtdaikgeellpolaaSKnown
import Derived.Test.YtdaikgeellpolaaMild
import Derived.Test.YtdaikgeellpolaaHolds
namespace Go.Proofs.Ytdaikgeellpolaa
open Go.RowKit
set_option linter.unusedVariables false
set_option linter.unusedSimpArgs false

/-- Block b holds four values. -/
structure Four (b : Nat) (c0 c1 c2 c3 : Value) (W : World) : Prop where
  lies : b < W.heap.size
  f0 : W.cell? ⟨b, 0, none⟩ = some c0
  f1 : W.cell? ⟨b, 1, none⟩ = some c1
  f2 : W.cell? ⟨b, 2, none⟩ = some c2
  f3 : W.cell? ⟨b, 3, none⟩ = some c3
theorem Four.grown {b : Nat} {c0 c1 c2 c3 : Value} {W W' : World} (h : Four b c0 c1 c2 c3 W) (g : Grown W W') : Four b c0 c1 c2 c3 W' :=
  ⟨Nat.lt_of_lt_of_le h.lies g.2.2, grown_cell g h.f0 h.lies, grown_cell g h.f1 h.lies, grown_cell g h.f2 h.lies, grown_cell g h.f3 h.lies⟩
theorem four_new (c0 c1 c2 c3 : Value) (t : TypeId) (w : World) : Four w.heap.size c0 c1 c2 c3 (w.alloc (.cells #[c0, c1, c2, c3] t)) := by
  refine ⟨by show w.heap.size < (w.heap.push _).size; simp, ?_, ?_, ?_, ?_⟩ <;> rw [World.cell?_alloc_at (hn := rfl)] <;> rfl
theorem new4 {w W : World} {c0 c1 c2 c3 : Value} {t : TypeId} (g : Grown (w.alloc (.cells #[c0, c1, c2, c3] t)) W) : Four w.heap.size c0 c1 c2 c3 W := (four_new c0 c1 c2 c3 t w).grown g
theorem sub_shape (f mode a b : Int) : ∃ (v : Int) (b1 b2 b3 b4 b5 : Bool), subE f mode a b = .returned (.tuple #[.int .u32 v, .agg #[.bool b1, .bool b2, .bool b3, .bool b4, .bool b5]]) := add_shape f mode a (xorI f b)
abbrev Words (n b : Nat) (W : World) : Prop := Holds .u32 n 0 4294967295 b W
def STRel (w : World) (b : Nat) (i : Value) (W : World) : Prop := ∃ k : Nat, k ≤ 4 ∧ i = .int .i64 k ∧ Grown w W ∧ Words 16 b W

set_option maxRecDepth 100000 in
set_option maxHeartbeats 8000000 in
theorem stells_walk (a0 a1 a2 a3 a4 a5 : Int) (w0 : (Lit.int .i64 a0).wf = true) (w1 : (Lit.int .i64 a1).wf = true) (w2 : (Lit.int .u8 a2).wf = true) (w3 : (Lit.int .u8 a3).wf = true) (w4 : (Lit.int .u32 a4).wf = true) (w5 : (Lit.int .u32 a5).wf = true) (w : World) :
    Calls Try.prog 3 #[.int .i64 a0, .int .i64 a1, .int .u8 a2, .int .u8 a3, .int .u32 a4, .int .u32 a5] w fun e w' => e = .returned (.bool true) ∧ Grown w w' := by
  obtain ⟨b0, b1⟩ := bounds_i64 w0
  obtain ⟨b2, b3⟩ := bounds_i64 w1
  obtain ⟨b4, b5⟩ := bounds_u8 w2
  obtain ⟨b6, b7⟩ := bounds_u8 w3
  obtain ⟨b8, b9⟩ := bounds_u32 w4
  obtain ⟨b10, b11⟩ := bounds_u32 w5
  clear w0 w1 w2 w3 w4 w5
  have HG := Lib.hid (Grown.refl w)
  obtain ⟨F, hF⟩ : ∃ F, a2 % 3 = F := ⟨_, rfl⟩
  have F0 : 0 ≤ F := by omega
  have F1 : F ≤ 2 := by omega
  have HF := Lib.hid hF
  clear hF
  go_enter Try.func3, Try.ntmps3
  go_wp2_with (first
    | (go_at_call 7; refine (known4_any _).mono ?_; rintro e W1 ⟨rfl, hW1⟩; replace HG := Lib.hid (grown_trans HG.out hW1); clear hW1)
    | (go_at_call 8; refine (form4_any _ _ b4 b5).mono ?_; rintro e W2 ⟨he, hW2⟩; rw [HF.out] at he; subst he; replace HG := Lib.hid (grown_trans HG.out hW2); clear hW2)
    | (go_at_call 9; refine (num_any _ _ _ (by omega) (by omega)).mono ?_; rintro e W3 ⟨⟨x, rfl, hx0, hx1⟩, hW3⟩; replace HG := Lib.hid (grown_trans HG.out hW3); clear hW3)
    | (go_at_call 10; refine (mild_any _ _ _ (by omega) (by omega)).mono ?_; rintro e W4 ⟨⟨x, rfl, hx0, hx1⟩, hW4⟩; replace HG := Lib.hid (grown_trans HG.out hW4); clear hW4))
  rename World => Wl
  go_loopw [69] (fun i wr => STRel w Wl.heap.size i wr) (fun i _ => (4 - intOf i).toNat)
  case atStart =>
    refine ⟨0, by decide, rfl, Grown.alloc HG.out _ _, Holds.new rfl (by
      intro v hv
      simp only [List.mem_cons, List.not_mem_nil, or_false] at hv
      rcases hv with rfl | rfl | rfl | rfl | rfl | rfl | rfl | rfl | rfl | rfl | rfl | rfl | rfl | rfl | rfl | rfl <;> exact ⟨_, rfl, by omega, by omega⟩)⟩
  case round =>
    rename World => wr
    clear HG
    obtain ⟨K, hK, rfl, hG, hH⟩ := hrel
    have HG := Lib.hid hG
    have HH := Lib.hid hH
    clear hG hH
    have hk' : K = 0 ∨ K = 1 ∨ K = 2 ∨ K = 3 ∨ K = 4 := by omega
    clear hK
    rcases hk' with rfl | rfl | rfl | rfl | rfl
    · obtain ⟨X0, y0, l0, h0⟩ := HH.out.2 0 (by omega)
      obtain ⟨X1, y1, l1, h1⟩ := HH.out.2 1 (by omega)
      obtain ⟨X2, y2, l2, h2⟩ := HH.out.2 2 (by omega)
      obtain ⟨X3, y3, l3, h3⟩ := HH.out.2 3 (by omega)
      obtain ⟨v, g1, g2, g3, g4, g5, hR⟩ := add_shape X0 X1 X2 X3
      obtain ⟨u, k1, k2, k3, k4, k5, hS⟩ := sub_shape X0 X1 X2 X3
      have HR := Lib.hid hR
      have HS := Lib.hid hS
      clear hR hS
      go_wp2_with fail
      refine (sadd_any X0 X1 X2 X3 _ l2 h2 l3 h3).mono ?_
      rintro e W5 ⟨he, hW5⟩
      rw [HR.out] at he
      subst he
      have HW5 := Lib.hid hW5
      clear hW5 y0 y1 y2 y3
      obtain ⟨q, q0, q1, q2, q3⟩ := new4 HW5.out
      go_wp2_with fail
      refine (radd_any X0 X1 X2 X3 _ l2 h2 l3 h3).mono ?_
      rintro e W6 ⟨he, hW6⟩
      rw [HR.out] at he
      subst he
      have HW6 := Lib.hid hW6
      have HX6 := Lib.hid (grown_trans (Grown.alloc (Grown.refl W5) _ _) hW6)
      clear hW6 q q0 q1 q2 q3
      obtain ⟨q, q0, q1, q2, q3⟩ := (new4 HW5.out).grown HX6.out
      go_wp2_with fail
      refine (ssub_any X0 X1 X2 X3 _ l2 h2 l3 h3).mono ?_
      rintro e W7 ⟨he, hW7⟩
      rw [HS.out] at he
      subst he
      have HW7 := Lib.hid hW7
      have HX7 := Lib.hid (grown_trans (Grown.alloc (Grown.refl W6) _ _) hW7)
      clear hW7 q q0 q1 q2 q3
      obtain ⟨q, q0, q1, q2, q3⟩ := ((new4 HW5.out).grown HX6.out).grown HX7.out
      go_wp2_with fail
      refine (rsub_any X0 X1 X2 X3 _ l2 h2 l3 h3).mono ?_
      rintro e W8 ⟨he, hW8⟩
      rw [HS.out] at he
      subst he
      have HW8 := Lib.hid hW8
      have HX8 := Lib.hid (grown_trans (Grown.alloc (Grown.refl W7) _ _) hW8)
      clear hW8 q q0 q1 q2 q3
      obtain ⟨p, p0, p1, p2, p3, p4⟩ := ((grown_new5 HW6.out).grown HX7.out).grown HX8.out
      obtain ⟨r, r0, r1, r2, r3, r4⟩ := (grown_new5 HW7.out).grown HX8.out
      obtain ⟨s, s0, s1, s2, s3, s4⟩ := grown_new5 HW8.out
      have HA := Lib.hid (grown_trans (grown_trans (grown_trans (grown_trans (Grown.alloc (Grown.refl wr) _ _) HW5.out) HX6.out) HX7.out) HX8.out)
      go_wp2
      go_roundw
      case rel => exact ⟨1, by omega, by go_num, grown_trans HG.out (Grown.alloc HA.out _ _), HH.out.grown (Grown.alloc HA.out _ _)⟩
      case measure => simp [intOf]
    · obtain ⟨X0, y0, l0, h0⟩ := HH.out.2 4 (by omega)
      obtain ⟨X1, y1, l1, h1⟩ := HH.out.2 5 (by omega)
      obtain ⟨X2, y2, l2, h2⟩ := HH.out.2 6 (by omega)
      obtain ⟨X3, y3, l3, h3⟩ := HH.out.2 7 (by omega)
      obtain ⟨v, g1, g2, g3, g4, g5, hR⟩ := add_shape X0 X1 X2 X3
      obtain ⟨u, k1, k2, k3, k4, k5, hS⟩ := sub_shape X0 X1 X2 X3
      have HR := Lib.hid hR
      have HS := Lib.hid hS
      clear hR hS
      go_wp2_with fail
      refine (sadd_any X0 X1 X2 X3 _ l2 h2 l3 h3).mono ?_
      rintro e W5 ⟨he, hW5⟩
      rw [HR.out] at he
      subst he
      have HW5 := Lib.hid hW5
      clear hW5 y0 y1 y2 y3
      obtain ⟨q, q0, q1, q2, q3⟩ := new4 HW5.out
      go_wp2_with fail
      refine (radd_any X0 X1 X2 X3 _ l2 h2 l3 h3).mono ?_
      rintro e W6 ⟨he, hW6⟩
      rw [HR.out] at he
      subst he
      have HW6 := Lib.hid hW6
      have HX6 := Lib.hid (grown_trans (Grown.alloc (Grown.refl W5) _ _) hW6)
      clear hW6 q q0 q1 q2 q3
      obtain ⟨q, q0, q1, q2, q3⟩ := (new4 HW5.out).grown HX6.out
      go_wp2_with fail
      refine (ssub_any X0 X1 X2 X3 _ l2 h2 l3 h3).mono ?_
      rintro e W7 ⟨he, hW7⟩
      rw [HS.out] at he
      subst he
      have HW7 := Lib.hid hW7
      have HX7 := Lib.hid (grown_trans (Grown.alloc (Grown.refl W6) _ _) hW7)
      clear hW7 q q0 q1 q2 q3
      obtain ⟨q, q0, q1, q2, q3⟩ := ((new4 HW5.out).grown HX6.out).grown HX7.out
      go_wp2_with fail
      refine (rsub_any X0 X1 X2 X3 _ l2 h2 l3 h3).mono ?_
      rintro e W8 ⟨he, hW8⟩
      rw [HS.out] at he
      subst he
      have HW8 := Lib.hid hW8
      have HX8 := Lib.hid (grown_trans (Grown.alloc (Grown.refl W7) _ _) hW8)
      clear hW8 q q0 q1 q2 q3
      obtain ⟨p, p0, p1, p2, p3, p4⟩ := ((grown_new5 HW6.out).grown HX7.out).grown HX8.out
      obtain ⟨r, r0, r1, r2, r3, r4⟩ := (grown_new5 HW7.out).grown HX8.out
      obtain ⟨s, s0, s1, s2, s3, s4⟩ := grown_new5 HW8.out
      have HA := Lib.hid (grown_trans (grown_trans (grown_trans (grown_trans (Grown.alloc (Grown.refl wr) _ _) HW5.out) HX6.out) HX7.out) HX8.out)
      go_wp2
      go_roundw
      case rel => exact ⟨2, by omega, by go_num, grown_trans HG.out (Grown.alloc HA.out _ _), HH.out.grown (Grown.alloc HA.out _ _)⟩
      case measure => simp [intOf]
    · obtain ⟨X0, y0, l0, h0⟩ := HH.out.2 8 (by omega)
      obtain ⟨X1, y1, l1, h1⟩ := HH.out.2 9 (by omega)
      obtain ⟨X2, y2, l2, h2⟩ := HH.out.2 10 (by omega)
      obtain ⟨X3, y3, l3, h3⟩ := HH.out.2 11 (by omega)
      obtain ⟨v, g1, g2, g3, g4, g5, hR⟩ := add_shape X0 X1 X2 X3
      obtain ⟨u, k1, k2, k3, k4, k5, hS⟩ := sub_shape X0 X1 X2 X3
      have HR := Lib.hid hR
      have HS := Lib.hid hS
      clear hR hS
      go_wp2_with fail
      refine (sadd_any X0 X1 X2 X3 _ l2 h2 l3 h3).mono ?_
      rintro e W5 ⟨he, hW5⟩
      rw [HR.out] at he
      subst he
      have HW5 := Lib.hid hW5
      clear hW5 y0 y1 y2 y3
      obtain ⟨q, q0, q1, q2, q3⟩ := new4 HW5.out
      go_wp2_with fail
      refine (radd_any X0 X1 X2 X3 _ l2 h2 l3 h3).mono ?_
      rintro e W6 ⟨he, hW6⟩
      rw [HR.out] at he
      subst he
      have HW6 := Lib.hid hW6
      have HX6 := Lib.hid (grown_trans (Grown.alloc (Grown.refl W5) _ _) hW6)
      clear hW6 q q0 q1 q2 q3
      obtain ⟨q, q0, q1, q2, q3⟩ := (new4 HW5.out).grown HX6.out
      go_wp2_with fail
      refine (ssub_any X0 X1 X2 X3 _ l2 h2 l3 h3).mono ?_
      rintro e W7 ⟨he, hW7⟩
      rw [HS.out] at he
      subst he
      have HW7 := Lib.hid hW7
      have HX7 := Lib.hid (grown_trans (Grown.alloc (Grown.refl W6) _ _) hW7)
      clear hW7 q q0 q1 q2 q3
      obtain ⟨q, q0, q1, q2, q3⟩ := ((new4 HW5.out).grown HX6.out).grown HX7.out
      go_wp2_with fail
      refine (rsub_any X0 X1 X2 X3 _ l2 h2 l3 h3).mono ?_
      rintro e W8 ⟨he, hW8⟩
      rw [HS.out] at he
      subst he
      have HW8 := Lib.hid hW8
      have HX8 := Lib.hid (grown_trans (Grown.alloc (Grown.refl W7) _ _) hW8)
      clear hW8 q q0 q1 q2 q3
      obtain ⟨p, p0, p1, p2, p3, p4⟩ := ((grown_new5 HW6.out).grown HX7.out).grown HX8.out
      obtain ⟨r, r0, r1, r2, r3, r4⟩ := (grown_new5 HW7.out).grown HX8.out
      obtain ⟨s, s0, s1, s2, s3, s4⟩ := grown_new5 HW8.out
      have HA := Lib.hid (grown_trans (grown_trans (grown_trans (grown_trans (Grown.alloc (Grown.refl wr) _ _) HW5.out) HX6.out) HX7.out) HX8.out)
      go_wp2
      go_roundw
      case rel => exact ⟨3, by omega, by go_num, grown_trans HG.out (Grown.alloc HA.out _ _), HH.out.grown (Grown.alloc HA.out _ _)⟩
      case measure => simp [intOf]
    · obtain ⟨X0, y0, l0, h0⟩ := HH.out.2 12 (by omega)
      obtain ⟨X1, y1, l1, h1⟩ := HH.out.2 13 (by omega)
      obtain ⟨X2, y2, l2, h2⟩ := HH.out.2 14 (by omega)
      obtain ⟨X3, y3, l3, h3⟩ := HH.out.2 15 (by omega)
      obtain ⟨v, g1, g2, g3, g4, g5, hR⟩ := add_shape X0 X1 X2 X3
      obtain ⟨u, k1, k2, k3, k4, k5, hS⟩ := sub_shape X0 X1 X2 X3
      have HR := Lib.hid hR
      have HS := Lib.hid hS
      clear hR hS
      go_wp2_with fail
      refine (sadd_any X0 X1 X2 X3 _ l2 h2 l3 h3).mono ?_
      rintro e W5 ⟨he, hW5⟩
      rw [HR.out] at he
      subst he
      have HW5 := Lib.hid hW5
      clear hW5 y0 y1 y2 y3
      obtain ⟨q, q0, q1, q2, q3⟩ := new4 HW5.out
      go_wp2_with fail
      refine (radd_any X0 X1 X2 X3 _ l2 h2 l3 h3).mono ?_
      rintro e W6 ⟨he, hW6⟩
      rw [HR.out] at he
      subst he
      have HW6 := Lib.hid hW6
      have HX6 := Lib.hid (grown_trans (Grown.alloc (Grown.refl W5) _ _) hW6)
      clear hW6 q q0 q1 q2 q3
      obtain ⟨q, q0, q1, q2, q3⟩ := (new4 HW5.out).grown HX6.out
      go_wp2_with fail
      refine (ssub_any X0 X1 X2 X3 _ l2 h2 l3 h3).mono ?_
      rintro e W7 ⟨he, hW7⟩
      rw [HS.out] at he
      subst he
      have HW7 := Lib.hid hW7
      have HX7 := Lib.hid (grown_trans (Grown.alloc (Grown.refl W6) _ _) hW7)
      clear hW7 q q0 q1 q2 q3
      obtain ⟨q, q0, q1, q2, q3⟩ := ((new4 HW5.out).grown HX6.out).grown HX7.out
      go_wp2_with fail
      refine (rsub_any X0 X1 X2 X3 _ l2 h2 l3 h3).mono ?_
      rintro e W8 ⟨he, hW8⟩
      rw [HS.out] at he
      subst he
      have HW8 := Lib.hid hW8
      have HX8 := Lib.hid (grown_trans (Grown.alloc (Grown.refl W7) _ _) hW8)
      clear hW8 q q0 q1 q2 q3
      obtain ⟨p, p0, p1, p2, p3, p4⟩ := ((grown_new5 HW6.out).grown HX7.out).grown HX8.out
      obtain ⟨r, r0, r1, r2, r3, r4⟩ := (grown_new5 HW7.out).grown HX8.out
      obtain ⟨s, s0, s1, s2, s3, s4⟩ := grown_new5 HW8.out
      have HA := Lib.hid (grown_trans (grown_trans (grown_trans (grown_trans (Grown.alloc (Grown.refl wr) _ _) HW5.out) HX6.out) HX7.out) HX8.out)
      go_wp2
      go_roundw
      case rel => exact ⟨4, by omega, by go_num, grown_trans HG.out (Grown.alloc HA.out _ _), HH.out.grown (Grown.alloc HA.out _ _)⟩
      case measure => simp [intOf]
    · obtain ⟨v, g1, g2, g3, g4, g5, hR⟩ := add_shape a0 a1 a4 a5
      have HR := Lib.hid hR
      clear hR
      go_wp2_with fail
      refine (sadd_any a0 a1 a4 a5 _ b8 b9 b10 b11).mono ?_
      rintro e W5 ⟨he, hW5⟩
      rw [HR.out] at he
      subst he
      have HW5 := Lib.hid hW5
      clear hW5
      go_wp2_with fail
      refine (radd_any a0 a1 a4 a5 _ b8 b9 b10 b11).mono ?_
      rintro e W6 ⟨he, hW6⟩
      rw [HR.out] at he
      subst he
      have HW6 := Lib.hid hW6
      clear hW6
      obtain ⟨p, p0, p1, p2, p3, p4⟩ := grown_new5 HW6.out
      go_wp2
      go_ret
      exact ⟨rfl, grown_trans HG.out (Grown.alloc (grown_trans HW5.out (grown_trans (Grown.alloc (Grown.refl W5) _ _) HW6.out)) _ _)⟩
end Go.Proofs.Ytdaikgeellpolaa
