/- Contracts of the reference's wide numbers: is it nought, which is below. -/
import Derived.Test.YtdaikgeellpolaaRows
import Derived.Test.YtdaikgeellpolaaRFmt
import Derived.Test.YtdaikgeellpolaaWorld
import Derived.Test.YtdaikgeellpolaaLimbs
import Derived.Test.YtdaikgeellpolaaWideO
import Derived.Lib.Hide
import Derived.Handy
import Derived.DeepKeys
import Derived.KernelRfl
namespace Go.Proofs.Ytdaikgeellpolaa
open Go.RowKit
set_option linter.unusedVariables false
set_option linter.unusedSimpArgs false

theorem lits10 (a0 a1 a2 a3 a4 a5 a6 a7 a8 a9 : Int) (h0 : (Lit.int .u64 a0).wf = true) (h1 : (Lit.int .u64 a1).wf = true) (h2 : (Lit.int .u64 a2).wf = true) (h3 : (Lit.int .u64 a3).wf = true) (h4 : (Lit.int .u64 a4).wf = true) (h5 : (Lit.int .u64 a5).wf = true) (h6 : (Lit.int .u64 a6).wf = true) (h7 : (Lit.int .u64 a7).wf = true) (h8 : (Lit.int .u64 a8).wf = true) (h9 : (Lit.int .u64 a9).wf = true) :
    (Try.prog).keyLits 100 57 [.int .u64 a0, .int .u64 a1, .int .u64 a2, .int .u64 a3, .int .u64 a4, .int .u64 a5, .int .u64 a6, .int .u64 a7, .int .u64 a8, .int .u64 a9] = some [.int .u64 a0, .int .u64 a1, .int .u64 a2, .int .u64 a3, .int .u64 a4, .int .u64 a5, .int .u64 a6, .int .u64 a7, .int .u64 a8, .int .u64 a9] := by
  have u1 : (Try.prog).underlying 57 = some (.array 10 48) := by kernel_rfl
  have u2 : (Try.prog).underlying 48 = some (.int .u64) := by kernel_rfl
  have c1 : (Try.prog).cellsOf 57 = 10 := by kernel_rfl
  have c2 : (Try.prog).cellsOf 48 = 1 := by kernel_rfl
  have one : ∀ x : Int, (Lit.int .u64 x).wf = true → (Try.prog).keyLits 99 48 [.int .u64 x] = some [.int .u64 x] := by
    intro x hx
    unfold Program.keyLits
    simp [u2, hx]
  have r10 : List.range 10 = [0, 1, 2, 3, 4, 5, 6, 7, 8, 9] := by decide
  unfold Program.keyLits
  simp [u1, c1, c2, r10, one a0 h0, one a1 h1, one a2 h2, one a3 h3, one a4 h4, one a5 h5, one a6 h6, one a7 h7, one a8 h8, one a9 h9]
theorem eq10 (w : World) (a0 a1 a2 a3 a4 a5 a6 a7 a8 a9 b0 b1 b2 b3 b4 b5 b6 b7 b8 b9 : Int) (h0 : (Lit.int .u64 a0).wf = true) (h1 : (Lit.int .u64 a1).wf = true) (h2 : (Lit.int .u64 a2).wf = true) (h3 : (Lit.int .u64 a3).wf = true) (h4 : (Lit.int .u64 a4).wf = true) (h5 : (Lit.int .u64 a5).wf = true) (h6 : (Lit.int .u64 a6).wf = true) (h7 : (Lit.int .u64 a7).wf = true) (h8 : (Lit.int .u64 a8).wf = true) (h9 : (Lit.int .u64 a9).wf = true) (g0 : (Lit.int .u64 b0).wf = true) (g1 : (Lit.int .u64 b1).wf = true) (g2 : (Lit.int .u64 b2).wf = true) (g3 : (Lit.int .u64 b3).wf = true) (g4 : (Lit.int .u64 b4).wf = true) (g5 : (Lit.int .u64 b5).wf = true) (g6 : (Lit.int .u64 b6).wf = true) (g7 : (Lit.int .u64 b7).wf = true) (g8 : (Lit.int .u64 b8).wf = true) (g9 : (Lit.int .u64 b9).wf = true) :
    (Op.equalIn 10000 57 (.agg #[.int .u64 a0, .int .u64 a1, .int .u64 a2, .int .u64 a3, .int .u64 a4, .int .u64 a5, .int .u64 a6, .int .u64 a7, .int .u64 a8, .int .u64 a9]) (.agg #[.int .u64 b0, .int .u64 b1, .int .u64 b2, .int .u64 b3, .int .u64 b4, .int .u64 b5, .int .u64 b6, .int .u64 b7, .int .u64 b8, .int .u64 b9])).run Try.prog w = .ok (decide (a0 = b0 ∧ a1 = b1 ∧ a2 = b2 ∧ a3 = b3 ∧ a4 = b4 ∧ a5 = b5 ∧ a6 = b6 ∧ a7 = b7 ∧ a8 = b8 ∧ a9 = b9)) w := by
  obtain ⟨r, h, e⟩ := run_equalIn_deep (P := Try.prog) 9998 2 57 (by kernel_rfl) w 100 100 (.agg #[.int .u64 a0, .int .u64 a1, .int .u64 a2, .int .u64 a3, .int .u64 a4, .int .u64 a5, .int .u64 a6, .int .u64 a7, .int .u64 a8, .int .u64 a9]) (.agg #[.int .u64 b0, .int .u64 b1, .int .u64 b2, .int .u64 b3, .int .u64 b4, .int .u64 b5, .int .u64 b6, .int .u64 b7, .int .u64 b8, .int .u64 b9]) _ _ (by kernel_rfl) (by kernel_rfl) (lits10 a0 a1 a2 a3 a4 a5 a6 a7 a8 a9 h0 h1 h2 h3 h4 h5 h6 h7 h8 h9) (lits10 b0 b1 b2 b3 b4 b5 b6 b7 b8 b9 g0 g1 g2 g3 g4 g5 g6 g7 g8 g9)
  rw [h]
  congr 1
  rw [Bool.eq_iff_iff, e, decide_eq_true_eq]
  simp

set_option maxHeartbeats 1000000 in
theorem nought_is (neg : Bool) (V : Nat) (w : World) (hV : V < 2 ^ (64 * 10)) :
    Calls Try.prog 52 #[wideV neg V] w fun e w' => e = .returned (.bool (decide (V = 0))) ∧ w.alloc (.cells (wideO neg V) 59) = w' := by
  have hw := limb_wf V
  have hz : (Lit.int .u64 0).wf = true := by decide
  have hE := fun W => eq10 W (limb V 0) (limb V 1) (limb V 2) (limb V 3) (limb V 4) (limb V 5) (limb V 6) (limb V 7) (limb V 8) (limb V 9) 0 0 0 0 0 0 0 0 0 0 (hw 0) (hw 1) (hw 2) (hw 3) (hw 4) (hw 5) (hw 6) (hw 7) (hw 8) (hw 9) hz hz hz hz hz hz hz hz hz hz
  have hD : Hid ((decide (limb V 0 = 0) && (decide (limb V 1 = 0) && (decide (limb V 2 = 0) && (decide (limb V 3 = 0) && (decide (limb V 4 = 0) && (decide (limb V 5 = 0) && (decide (limb V 6 = 0) && (decide (limb V 7 = 0) && (decide (limb V 8 = 0) && decide (limb V 9 = 0)))))))))) = decide (V = 0)) := by
    show _ = _
    rw [Bool.eq_iff_iff]
    simp only [Bool.and_eq_true, decide_eq_true_eq]
    constructor
    · intro ⟨h0, h1, h2, h3, h4, h5, h6, h7, h8, h9⟩
      refine limbs_zero 10 V hV (fun i hi => ?_)
      have : i = 0 ∨ i = 1 ∨ i = 2 ∨ i = 3 ∨ i = 4 ∨ i = 5 ∨ i = 6 ∨ i = 7 ∨ i = 8 ∨ i = 9 := by omega
      rcases this with e | e | e | e | e | e | e | e | e | e <;> rw [e]
      · exact h0
      · exact h1
      · exact h2
      · exact h3
      · exact h4
      · exact h5
      · exact h6
      · exact h7
      · exact h8
      · exact h9
    · intro e
      rw [e]
      exact ⟨limb_zero 0, limb_zero 1, limb_zero 2, limb_zero 3, limb_zero 4, limb_zero 5, limb_zero 6, limb_zero 7, limb_zero 8, limb_zero 9⟩
  clear hw hz hV
  unfold wideV
  go_enter Try.func52, Try.ntmps52
  go_wp2
  go_ret
  exact ⟨ret_bool hD.out, rfl⟩

end Go.Proofs.Ytdaikgeellpolaa
