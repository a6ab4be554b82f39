/- The walk of PhiloxTells. -/
import Derived.Test.YtjedegeajkpmaaaPhKnown
namespace Go.Proofs.Ytjedegeajkpmaaa
open Go.RowKit
set_option linter.unusedVariables false
set_option linter.unusedSimpArgs false

abbrev Longs (n b : Nat) (W : World) : Prop := Holds .u64 n 0 18446744073709551615 b W

structure PTBlocks (e1 e2 : Nat) (k0 k1 c0 c1 c2 c3 : Int) (W : World) : Prop where
  l1 : e1 < W.heap.size
  l2 : e2 < W.heap.size
  x0 : W.cell? ⟨e1, 0, none⟩ = some (.int .u32 k0)
  x1 : W.cell? ⟨e1, 1, none⟩ = some (.int .u32 k1)
  y0 : W.cell? ⟨e2, 0, none⟩ = some (.int .u32 c0)
  y1 : W.cell? ⟨e2, 1, none⟩ = some (.int .u32 c1)
  y2 : W.cell? ⟨e2, 2, none⟩ = some (.int .u32 c2)
  y3 : W.cell? ⟨e2, 3, none⟩ = some (.int .u32 c3)

theorem PTBlocks.grown {e1 e2 : Nat} {k0 k1 c0 c1 c2 c3 : Int} {W W' : World} (h : PTBlocks e1 e2 k0 k1 c0 c1 c2 c3 W) (g : Grown W W') : PTBlocks e1 e2 k0 k1 c0 c1 c2 c3 W' :=
  ⟨Nat.lt_of_lt_of_le h.l1 g.2.2, Nat.lt_of_lt_of_le h.l2 g.2.2, grown_cell g h.x0 h.l1, grown_cell g h.x1 h.l1, grown_cell g h.y0 h.l2, grown_cell g h.y1 h.l2, grown_cell g h.y2 h.l2, grown_cell g h.y3 h.l2⟩

theorem ptblocks_new {k0 k1 c0 c1 c2 c3 : Int} {t u : TypeId} {w : World} : PTBlocks w.heap.size (w.heap.size + 1) k0 k1 c0 c1 c2 c3 ((w.alloc (.cells #[.int .u32 k0, .int .u32 k1] t)).alloc (.cells #[.int .u32 c0, .int .u32 c1, .int .u32 c2, .int .u32 c3] u)) := by
  refine ⟨?_, ?_, ?_, ?_, ?_, ?_, ?_, ?_⟩
  · show w.heap.size < ((w.heap.push _).push _).size; simp; omega
  · show w.heap.size + 1 < ((w.heap.push _).push _).size; simp
  all_goals go_simp

def PTRel (w : World) (b e1 e2 : Nat) (k0 k1 c0 c1 c2 c3 : Int) (i : Value) (W : World) : Prop := ∃ k : Nat, k ≤ 3 ∧ i = .int .i64 k ∧ Grown w W ∧ Longs 3 b W ∧ PTBlocks e1 e2 k0 k1 c0 c1 c2 c3 W

set_option maxRecDepth 100000 in
set_option maxHeartbeats 16000000 in
theorem ptells_walk (k0 k1 c0 c1 c2 c3 a2 a3 a4 a5 a6 : Int) (hA : PhW ⟨k0, k1, c0, c1, c2, c3⟩) (w2 : (Lit.int .u64 a2).wf = true) (w3 : (Lit.int .u32 a3).wf = true) (w4 : (Lit.int .u32 a4).wf = true) (w5 : (Lit.int .u32 a5).wf = true) (w6 : (Lit.int .u64 a6).wf = true) (w : World) :
    Calls Try.prog 3 #[.agg #[.int .u32 k0, .int .u32 k1], .agg #[.int .u32 c0, .int .u32 c1, .int .u32 c2, .int .u32 c3], .int .u64 a2, .int .u32 a3, .int .u32 a4, .int .u32 a5, .int .u64 a6] w fun e w' => e = .returned (.bool true) ∧ Grown w w' := by
  obtain ⟨b0, b1⟩ := bounds_u64 w2
  obtain ⟨b2, b3⟩ := bounds_u32 w3
  obtain ⟨b4, b5⟩ := bounds_u32 w4
  obtain ⟨b6, b7⟩ := bounds_u32 w5
  obtain ⟨b8, b9⟩ := bounds_u64 w6
  clear w2 w3 w4 w5 w6
  have HP := Lib.hid (fun w => pblock_any ⟨k0, k1, c0, c1, c2, c3⟩ w hA)
  have HR := Lib.hid (fun w => rblock_any ⟨k0, k1, c0, c1, c2, c3⟩ w hA)
  generalize phN ⟨k0, k1, c0, c1, c2, c3⟩ 10 = S at HP HR
  obtain ⟨s4, s5, s0, s1, s2, s3⟩ := S
  dsimp only [phV] at HP HR
  clear hA
  have hE : ∀ w, (Op.equalIn 10000 24 (.agg #[.int .u32 s0, .int .u32 s1, .int .u32 s2, .int .u32 s3]) (.agg #[.int .u32 s0, .int .u32 s1, .int .u32 s2, .int .u32 s3])).run Try.prog w = .ok true w := fun w => by rw [run_eq_four]; simp
  have hq : a6.tmod 9 = a6 % 9 := Int.tmod_eq_emod_of_nonneg b8
  go_enter Try.func3, Try.ntmps3
  go_wp2_with fail
  have HG := Lib.hid (Grown.alloc (Grown.alloc (Grown.refl w) #[.int .u32 k0, .int .u32 k1] 23) #[.int .u32 c0, .int .u32 c1, .int .u32 c2, .int .u32 c3] 24)
  have HT := Lib.hid (ptblocks_new (k0 := k0) (k1 := k1) (c0 := c0) (c1 := c1) (c2 := c2) (c3 := c3) (t := 23) (u := 24) (w := w))
  generalize ((w.alloc _).alloc _) = W4 at HG HT ⊢
  generalize w.heap.size + 1 = e2 at HT ⊢
  generalize w.heap.size = e1 at HT ⊢
  refine (known10_any _).mono ?_
  rintro e W5 ⟨rfl, hW⟩
  replace HG := Lib.hid (show Grown w W5 from grown_trans HG.out hW)
  replace HT := Lib.hid (HT.out.grown hW)
  clear hW
  go_wp2_with fail
  go_loopw [26] (fun i wr1 => PTRel w W5.heap.size e1 e2 k0 k1 c0 c1 c2 c3 i wr1) (fun i _ => (3 - intOf i).toNat)
  case atStart =>
    exact ⟨0, by decide, rfl, Grown.alloc HG.out _ _, Holds.new rfl (by
      intro v hv
      simp only [List.mem_cons, List.not_mem_nil, or_false] at hv
      rcases hv with rfl | rfl | rfl <;> first | exact ⟨_, rfl, by omega, by omega⟩ | exact ⟨_, rfl, (bounds_u64 (wf_bits .or .u64 _ _)).1, (bounds_u64 (wf_bits .or .u64 _ _)).2⟩), HT.out.grown (Grown.alloc (Grown.refl _) _ _)⟩
  case round =>
    rename World => wr1
    clear HG HT hq
    obtain ⟨K, hK, rfl, hG, hH, hT⟩ := hrel
    have HG := Lib.hid hG
    have H1 := Lib.hid hH
    have HT := Lib.hid hT
    clear hG hH hT
    by_cases c : (K : Int) < 3
    · obtain ⟨n, hn, n0, n1⟩ := H1.out.2 K (by omega)
      have HX := Lib.hid (Grown.refl wr1)
      go_wp2_with (first
        | (go_at_call 8; refine (pword_any _ _ _ _ b0 b1 b2 b3 n0 n1).mono ?_; rintro e W6 ⟨he, hW⟩; subst he; replace HX := Lib.hid (show Grown wr1 W6 from grown_trans HX.out hW); clear hW)
        | (go_at_call 9; refine (rword_any _ _ _ _ b0 b1 b2 b3 n0 n1).mono ?_; rintro e W6 ⟨he, hW⟩; subst he; replace HX := Lib.hid (show Grown wr1 W6 from grown_trans HX.out hW); clear hW)
        | (go_at_call 10; refine (pbelow_any _ _ _ _ _ b0 b1 b2 b3 n0 n1 b6 b7).mono ?_; rintro e W6 ⟨he, hW⟩; subst he; replace HX := Lib.hid (show Grown wr1 W6 from grown_trans HX.out hW); clear hW)
        | (go_at_call 11; refine (rbelow_any _ _ _ _ _ b0 b1 b2 b3 n0 n1 b6 b7).mono ?_; rintro e W6 ⟨he, hW⟩; subst he; replace HX := Lib.hid (show Grown wr1 W6 from grown_trans HX.out hW); clear hW))
      go_roundw
      case rel => exact ⟨K + 1, by omega, by go_num, grown_trans HG.out HX.out, H1.out.grown HX.out, HT.out.grown HX.out⟩
      case measure => simp [intOf]; omega
    · obtain ⟨l1, l2, x0, x1, y0, y1, y2, y3⟩ := HT.out
      go_wp2_with fail
      go_region_held3 (fun w' => w'.cell? ⟨e1, 0, none⟩ = some (.int .u32 k0) ∧ w'.cell? ⟨e1, 1, none⟩ = some (.int .u32 k1) ∧ w'.cell? ⟨e2, 0, none⟩ = some (.int .u32 c0) ∧ w'.cell? ⟨e2, 1, none⟩ = some (.int .u32 c1) ∧ w'.cell? ⟨e2, 2, none⟩ = some (.int .u32 c2) ∧ w'.cell? ⟨e2, 3, none⟩ = some (.int .u32 c3)) (go_keep) (first
        | (go_at_call 12; refine (HP.out _).mono ?_; rintro e W6 ⟨he, hW⟩; subst he; replace HG := Lib.hid (show Grown w W6 from grown_trans (by repeat (first | with_reducible exact HG.out | with_reducible refine Grown.setCell ?_ (by simp <;> omega) _ | with_reducible refine Grown.alloc ?_ _ _ | with_reducible refine grown_more ?_ _ | with_reducible refine Grown.drew ?_)) hW); replace HT := Lib.hid (HT.out.grown (grown_trans (by repeat (first | with_reducible exact Grown.refl _ | with_reducible refine Grown.setCell ?_ (by simp <;> omega) _ | with_reducible refine Grown.alloc ?_ _ _ | with_reducible refine grown_more ?_ _ | with_reducible refine Grown.drew ?_)) hW)); clear hW l1 l2 x0 x1 y0 y1 y2 y3; obtain ⟨l1, l2, x0, x1, y0, y1, y2, y3⟩ := HT.out)
        | (go_at_call 13; refine (HR.out _).mono ?_; rintro e W6 ⟨he, hW⟩; subst he; replace HG := Lib.hid (show Grown w W6 from grown_trans (by repeat (first | with_reducible exact HG.out | with_reducible refine Grown.setCell ?_ (by simp <;> omega) _ | with_reducible refine Grown.alloc ?_ _ _ | with_reducible refine grown_more ?_ _ | with_reducible refine Grown.drew ?_)) hW); replace HT := Lib.hid (HT.out.grown (grown_trans (by repeat (first | with_reducible exact Grown.refl _ | with_reducible refine Grown.setCell ?_ (by simp <;> omega) _ | with_reducible refine Grown.alloc ?_ _ _ | with_reducible refine grown_more ?_ _ | with_reducible refine Grown.drew ?_)) hW)); clear hW l1 l2 x0 x1 y0 y1 y2 y3; obtain ⟨l1, l2, x0, x1, y0, y1, y2, y3⟩ := HT.out)
        | (go_at_call 14; refine (puni_any _ _ b4 b5).mono ?_; rintro e W6 ⟨he, hW⟩; subst he; replace HG := Lib.hid (show Grown w W6 from grown_trans (by repeat (first | with_reducible exact HG.out | with_reducible refine Grown.setCell ?_ (by simp <;> omega) _ | with_reducible refine Grown.alloc ?_ _ _ | with_reducible refine grown_more ?_ _ | with_reducible refine Grown.drew ?_)) hW); replace HT := Lib.hid (HT.out.grown (grown_trans (by repeat (first | with_reducible exact Grown.refl _ | with_reducible refine Grown.setCell ?_ (by simp <;> omega) _ | with_reducible refine Grown.alloc ?_ _ _ | with_reducible refine grown_more ?_ _ | with_reducible refine Grown.drew ?_)) hW)); clear hW l1 l2 x0 x1 y0 y1 y2 y3; obtain ⟨l1, l2, x0, x1, y0, y1, y2, y3⟩ := HT.out)
        | (go_at_call 15; refine (runi_any _ _ b4 b5).mono ?_; rintro e W6 ⟨he, hW⟩; subst he; replace HG := Lib.hid (show Grown w W6 from grown_trans (by repeat (first | with_reducible exact HG.out | with_reducible refine Grown.setCell ?_ (by simp <;> omega) _ | with_reducible refine Grown.alloc ?_ _ _ | with_reducible refine grown_more ?_ _ | with_reducible refine Grown.drew ?_)) hW); replace HT := Lib.hid (HT.out.grown (grown_trans (by repeat (first | with_reducible exact Grown.refl _ | with_reducible refine Grown.setCell ?_ (by simp <;> omega) _ | with_reducible refine Grown.alloc ?_ _ _ | with_reducible refine grown_more ?_ _ | with_reducible refine Grown.drew ?_)) hW)); clear hW l1 l2 x0 x1 y0 y1 y2 y3; obtain ⟨l1, l2, x0, x1, y0, y1, y2, y3⟩ := HT.out))
      go_wp2
      go_ret
      exact ⟨by simp, by repeat (first | with_reducible exact HG.out | with_reducible refine Grown.setCell ?_ (by simp <;> omega) _ | with_reducible refine Grown.alloc ?_ _ _ | with_reducible refine grown_more ?_ _ | with_reducible refine Grown.drew ?_)⟩
end Go.Proofs.Ytjedegeajkpmaaa
