/- What the laws of layer 10 ask first. -/
import Derived.Test.YtjedegeajkpmaaaPhi
import Derived.Test.YtjedegeajkpmaaaArrEq
import Derived.Handy
import Derived.KernelRfl
import Derived.Deep.RegionHeld3
namespace Go.Proofs.Ytjedegeajkpmaaa
open Go.RowKit
set_option linter.unusedVariables false
set_option linter.unusedSimpArgs false

/-- A block of four words. -/
def FourI (b : Nat) (c0 c1 c2 c3 : Int) (W : World) : Prop :=
  b < W.heap.size ∧ W.cell? ⟨b, 0, none⟩ = some (.int .u32 c0) ∧ W.cell? ⟨b, 1, none⟩ = some (.int .u32 c1) ∧ W.cell? ⟨b, 2, none⟩ = some (.int .u32 c2) ∧ W.cell? ⟨b, 3, none⟩ = some (.int .u32 c3)

theorem FourI.grown {b : Nat} {c0 c1 c2 c3 : Int} {W W' : World} (h : FourI b c0 c1 c2 c3 W) (g : Grown W W') : FourI b c0 c1 c2 c3 W' := by
  obtain ⟨h0, h1, h2, h3, h4⟩ := h
  exact ⟨Nat.lt_of_lt_of_le h0 g.2.2, grown_cell g h1 h0, grown_cell g h2 h0, grown_cell g h3 h0, grown_cell g h4 h0⟩

theorem four_new {c0 c1 c2 c3 : Int} {t : TypeId} {w : World} : FourI w.heap.size c0 c1 c2 c3 (w.alloc (.cells #[.int .u32 c0, .int .u32 c1, .int .u32 c2, .int .u32 c3] t)) := by
  refine ⟨by show w.heap.size < (w.heap.push _).size; simp, ?_, ?_, ?_, ?_⟩ <;> rw [World.cell?_alloc_at (hn := rfl)] <;> rfl

theorem nil_word : PhW ⟨0, 0, 0, 0, 0, 0⟩ := ⟨by decide, by decide, by decide, by decide, by decide, by decide⟩

theorem nil_block : phV (phN ⟨0, 0, 0, 0, 0, 0⟩ 10) = .agg #[.int .u32 1713891541, .int .u32 3781805453, .int .u32 3159862348, .int .u32 2600524760] := by kernel_rfl

theorem nil_wd : phWord 0 0 1 = 3781805453 := by kernel_rfl

theorem half_uni : uniI (2147483648 / 256) = 1056964608 := by kernel_rfl

set_option maxHeartbeats 2000000 in
theorem known10_any (w : World) : Calls Try.prog 7 #[] w fun e w' => e = .returned (.bool true) ∧ Grown w w' := by
  have K1 := Lib.hid nil_block
  have K2 := Lib.hid nil_wd
  have K3 := Lib.hid half_uni
  go_enter Try.func7, Try.ntmps7
  go_wp2_with fail
  refine (pblock_any ⟨0, 0, 0, 0, 0, 0⟩ _ nil_word).mono ?_
  rintro e W1 ⟨he, hW⟩
  rw [K1.out] at he
  subst he
  have HG := Lib.hid hW
  clear hW
  go_wp2_with fail
  have HF := Lib.hid (four_new (c0 := 1713891541) (c1 := 3781805453) (c2 := 3159862348) (c3 := 2600524760) (t := 24) (w := W1))
  replace HG := Lib.hid (Grown.alloc HG.out #[.int .u32 1713891541, .int .u32 3781805453, .int .u32 3159862348, .int .u32 2600524760] 24)
  generalize W1.heap.size = b at HF ⊢
  generalize (W1.alloc _) = W2 at HF HG ⊢
  obtain ⟨y, y0, y1, y2, y3⟩ := HF.out
  have hE := run_eq_four
  go_region_held3 (fun w' => w'.cell? ⟨b, 0, none⟩ = some (.int .u32 1713891541) ∧ w'.cell? ⟨b, 1, none⟩ = some (.int .u32 3781805453) ∧ w'.cell? ⟨b, 2, none⟩ = some (.int .u32 3159862348) ∧ w'.cell? ⟨b, 3, none⟩ = some (.int .u32 2600524760)) (go_keep) (first
    | (go_at_call 14; refine (puni_any _ _ (by omega) (by omega)).mono ?_; rintro e W3 ⟨he, hW⟩; rw [K3.out] at he; subst he; replace HG := Lib.hid (show Grown w W3 from grown_trans (by repeat (first | with_reducible exact HG.out | with_reducible refine Grown.setCell ?_ (by simp <;> omega) _ | with_reducible refine Grown.alloc ?_ _ _ | with_reducible refine grown_more ?_ _ | with_reducible refine Grown.drew ?_)) hW); replace HF := Lib.hid (HF.out.grown (grown_trans (by repeat (first | with_reducible exact Grown.refl _ | with_reducible refine Grown.setCell ?_ (by simp <;> omega) _ | with_reducible refine Grown.alloc ?_ _ _ | with_reducible refine grown_more ?_ _ | with_reducible refine Grown.drew ?_)) hW)); clear hW y y0 y1 y2 y3; obtain ⟨y, y0, y1, y2, y3⟩ := HF.out)
    | (go_at_call 8; refine (pword_any _ _ _ _ (by omega) (by omega) (by omega) (by omega) (by omega) (by omega)).mono ?_; rintro e W3 ⟨he, hW⟩; rw [K2.out] at he; subst he; replace HG := Lib.hid (show Grown w W3 from grown_trans (by repeat (first | with_reducible exact HG.out | with_reducible refine Grown.setCell ?_ (by simp <;> omega) _ | with_reducible refine Grown.alloc ?_ _ _ | with_reducible refine grown_more ?_ _ | with_reducible refine Grown.drew ?_)) hW); replace HF := Lib.hid (HF.out.grown (grown_trans (by repeat (first | with_reducible exact Grown.refl _ | with_reducible refine Grown.setCell ?_ (by simp <;> omega) _ | with_reducible refine Grown.alloc ?_ _ _ | with_reducible refine grown_more ?_ _ | with_reducible refine Grown.drew ?_)) hW)); clear hW y y0 y1 y2 y3; obtain ⟨y, y0, y1, y2, y3⟩ := HF.out))
  go_wp2
  go_ret
  exact ⟨rfl, by repeat (first | with_reducible exact HG.out | with_reducible refine Grown.setCell ?_ (by simp <;> omega) _ | with_reducible refine Grown.alloc ?_ _ _ | with_reducible refine grown_more ?_ _ | with_reducible refine Grown.drew ?_)⟩
end Go.Proofs.Ytjedegeajkpmaaa
