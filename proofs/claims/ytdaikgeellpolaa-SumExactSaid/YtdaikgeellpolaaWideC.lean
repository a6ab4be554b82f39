/- Contracts of the reference's wide numbers: which is below. -/
import Derived.Test.YtdaikgeellpolaaRows
import Derived.Test.YtdaikgeellpolaaRFmt
import Derived.Test.YtdaikgeellpolaaWorld
import Derived.Test.YtdaikgeellpolaaLimbs
import Derived.Test.YtdaikgeellpolaaWideO
import Derived.Lib.Hide
import Derived.Handy
import Derived.Deep.QuietTactic
import Derived.BigQuiet
namespace Go.Proofs.Ytdaikgeellpolaa
open Go.RowKit
set_option linter.unusedVariables false
set_option linter.unusedSimpArgs false

/-- All limbs from k on. -/
def topN (V k : Nat) : Nat := V / 2 ^ (64 * k)
def BelowRel (V W : Nat) (W0 : World) (i : Value) (wr : World) : Prop :=
  ∃ k m : Nat, k ≤ 10 ∧ i = .int .i64 ((k : Int) - 1) ∧ wr = W0.drewN m ∧ topN V k = topN W k
theorem top_ten (n V W : Nat) (hV : V < 2 ^ (64 * n)) (hW : W < 2 ^ (64 * n)) : topN V n = topN W n := by
  unfold topN
  rw [Nat.div_eq_of_lt hV, Nat.div_eq_of_lt hW]

theorem topN_step (V W i : Nat) (h : topN V (i + 1) = topN W (i + 1)) (hl : limb V i = limb W i) : topN V i = topN W i := top_step V W i h hl
theorem topN_less (V W i : Nat) (h : topN V (i + 1) = topN W (i + 1)) (hl : limb V i ≠ limb W i) : (V < W ↔ limb V i < limb W i) := top_less V W i h hl
set_option maxRecDepth 100000 in
set_option maxHeartbeats 8000000 in
theorem below_is (nx ny : Bool) (V W : Nat) (w : World) (hV : V < 2 ^ (64 * 10)) (hW : W < 2 ^ (64 * 10)) :
    Calls Try.prog 73 #[wideV nx V, wideV ny W] w fun e w' => e = .returned (.bool (decide (V < W))) ∧ ∃ m, w' = ((w.alloc (.cells (wideO nx V) 59)).alloc (.cells (wideO ny W) 59)).drewN m := by
  have HT := Lib.hid (top_ten 10 V W hV hW)
  clear hV hW
  unfold wideV
  go_enter Try.func73, Try.ntmps73
  go_wp2
  go_loopw [5] (fun i wr => BelowRel V W ((w.alloc (.cells #[.bool nx, .int .u64 (limb V 0), .int .u64 (limb V 1), .int .u64 (limb V 2), .int .u64 (limb V 3), .int .u64 (limb V 4), .int .u64 (limb V 5), .int .u64 (limb V 6), .int .u64 (limb V 7), .int .u64 (limb V 8), .int .u64 (limb V 9)] 59)).alloc (.cells #[.bool ny, .int .u64 (limb W 0), .int .u64 (limb W 1), .int .u64 (limb W 2), .int .u64 (limb W 3), .int .u64 (limb W 4), .int .u64 (limb W 5), .int .u64 (limb W 6), .int .u64 (limb W 7), .int .u64 (limb W 8), .int .u64 (limb W 9)] 59)) i wr) (fun i _ => (intOf i + 1).toNat)
  case atStart => exact ⟨10, 0, by decide, rfl, rfl, HT.out⟩
  case round =>
    obtain ⟨k, m, hk, rfl, rfl, ht⟩ := hrel
    have hk' : k = 0 ∨ k = 1 ∨ k = 2 ∨ k = 3 ∨ k = 4 ∨ k = 5 ∨ k = 6 ∨ k = 7 ∨ k = 8 ∨ k = 9 ∨ k = 10 := by omega
    clear hk
    rcases hk' with rfl | rfl | rfl | rfl | rfl | rfl | rfl | rfl | rfl | rfl | rfl
    · have he : V = W := by simpa [topN] using ht
      have hd := Lib.hid (decide_eq_false (show ¬ V < W by omega))
      clear he ht
      go_wp2
      go_ret
      exact ⟨ret_bool hd.out.symm, _, rfl⟩
    · by_cases he : limb V 0 = limb W 0
      · have hb : (limb V 0 != limb W 0) = false := by rw [he]; simp
        have HR := Lib.hid (topN_step V W 0 ht he)
        clear he ht
        go_wp2
        go_quiet (fail)
        go_wp2
        go_roundw
        case rel => exact ⟨0, _, by decide, by go_num, rfl, HR.out⟩
        case measure => simp [intOf]
      · have hb : (limb V 0 != limb W 0) = true := by simpa using he
        have HL := Lib.hid (topN_less V W 0 ht he)
        clear he ht
        go_wp2
        go_quiet (fail)
        go_wp2
        go_quiet (fail)
        go_wp2
        go_ret
        exact ⟨ret_bool (by rw [Bool.eq_iff_iff, decide_eq_true_eq, decide_eq_true_eq]; exact HL.out.symm), _, by simp only [World.drewN_drewN]; rfl⟩
    · by_cases he : limb V 1 = limb W 1
      · have hb : (limb V 1 != limb W 1) = false := by rw [he]; simp
        have HR := Lib.hid (topN_step V W 1 ht he)
        clear he ht
        go_wp2
        go_quiet (fail)
        go_wp2
        go_roundw
        case rel => exact ⟨1, _, by decide, by go_num, rfl, HR.out⟩
        case measure => simp [intOf]
      · have hb : (limb V 1 != limb W 1) = true := by simpa using he
        have HL := Lib.hid (topN_less V W 1 ht he)
        clear he ht
        go_wp2
        go_quiet (fail)
        go_wp2
        go_quiet (fail)
        go_wp2
        go_ret
        exact ⟨ret_bool (by rw [Bool.eq_iff_iff, decide_eq_true_eq, decide_eq_true_eq]; exact HL.out.symm), _, by simp only [World.drewN_drewN]; rfl⟩
    · by_cases he : limb V 2 = limb W 2
      · have hb : (limb V 2 != limb W 2) = false := by rw [he]; simp
        have HR := Lib.hid (topN_step V W 2 ht he)
        clear he ht
        go_wp2
        go_quiet (fail)
        go_wp2
        go_roundw
        case rel => exact ⟨2, _, by decide, by go_num, rfl, HR.out⟩
        case measure => simp [intOf]
      · have hb : (limb V 2 != limb W 2) = true := by simpa using he
        have HL := Lib.hid (topN_less V W 2 ht he)
        clear he ht
        go_wp2
        go_quiet (fail)
        go_wp2
        go_quiet (fail)
        go_wp2
        go_ret
        exact ⟨ret_bool (by rw [Bool.eq_iff_iff, decide_eq_true_eq, decide_eq_true_eq]; exact HL.out.symm), _, by simp only [World.drewN_drewN]; rfl⟩
    · by_cases he : limb V 3 = limb W 3
      · have hb : (limb V 3 != limb W 3) = false := by rw [he]; simp
        have HR := Lib.hid (topN_step V W 3 ht he)
        clear he ht
        go_wp2
        go_quiet (fail)
        go_wp2
        go_roundw
        case rel => exact ⟨3, _, by decide, by go_num, rfl, HR.out⟩
        case measure => simp [intOf]
      · have hb : (limb V 3 != limb W 3) = true := by simpa using he
        have HL := Lib.hid (topN_less V W 3 ht he)
        clear he ht
        go_wp2
        go_quiet (fail)
        go_wp2
        go_quiet (fail)
        go_wp2
        go_ret
        exact ⟨ret_bool (by rw [Bool.eq_iff_iff, decide_eq_true_eq, decide_eq_true_eq]; exact HL.out.symm), _, by simp only [World.drewN_drewN]; rfl⟩
    · by_cases he : limb V 4 = limb W 4
      · have hb : (limb V 4 != limb W 4) = false := by rw [he]; simp
        have HR := Lib.hid (topN_step V W 4 ht he)
        clear he ht
        go_wp2
        go_quiet (fail)
        go_wp2
        go_roundw
        case rel => exact ⟨4, _, by decide, by go_num, rfl, HR.out⟩
        case measure => simp [intOf]
      · have hb : (limb V 4 != limb W 4) = true := by simpa using he
        have HL := Lib.hid (topN_less V W 4 ht he)
        clear he ht
        go_wp2
        go_quiet (fail)
        go_wp2
        go_quiet (fail)
        go_wp2
        go_ret
        exact ⟨ret_bool (by rw [Bool.eq_iff_iff, decide_eq_true_eq, decide_eq_true_eq]; exact HL.out.symm), _, by simp only [World.drewN_drewN]; rfl⟩
    · by_cases he : limb V 5 = limb W 5
      · have hb : (limb V 5 != limb W 5) = false := by rw [he]; simp
        have HR := Lib.hid (topN_step V W 5 ht he)
        clear he ht
        go_wp2
        go_quiet (fail)
        go_wp2
        go_roundw
        case rel => exact ⟨5, _, by decide, by go_num, rfl, HR.out⟩
        case measure => simp [intOf]
      · have hb : (limb V 5 != limb W 5) = true := by simpa using he
        have HL := Lib.hid (topN_less V W 5 ht he)
        clear he ht
        go_wp2
        go_quiet (fail)
        go_wp2
        go_quiet (fail)
        go_wp2
        go_ret
        exact ⟨ret_bool (by rw [Bool.eq_iff_iff, decide_eq_true_eq, decide_eq_true_eq]; exact HL.out.symm), _, by simp only [World.drewN_drewN]; rfl⟩
    · by_cases he : limb V 6 = limb W 6
      · have hb : (limb V 6 != limb W 6) = false := by rw [he]; simp
        have HR := Lib.hid (topN_step V W 6 ht he)
        clear he ht
        go_wp2
        go_quiet (fail)
        go_wp2
        go_roundw
        case rel => exact ⟨6, _, by decide, by go_num, rfl, HR.out⟩
        case measure => simp [intOf]
      · have hb : (limb V 6 != limb W 6) = true := by simpa using he
        have HL := Lib.hid (topN_less V W 6 ht he)
        clear he ht
        go_wp2
        go_quiet (fail)
        go_wp2
        go_quiet (fail)
        go_wp2
        go_ret
        exact ⟨ret_bool (by rw [Bool.eq_iff_iff, decide_eq_true_eq, decide_eq_true_eq]; exact HL.out.symm), _, by simp only [World.drewN_drewN]; rfl⟩
    · by_cases he : limb V 7 = limb W 7
      · have hb : (limb V 7 != limb W 7) = false := by rw [he]; simp
        have HR := Lib.hid (topN_step V W 7 ht he)
        clear he ht
        go_wp2
        go_quiet (fail)
        go_wp2
        go_roundw
        case rel => exact ⟨7, _, by decide, by go_num, rfl, HR.out⟩
        case measure => simp [intOf]
      · have hb : (limb V 7 != limb W 7) = true := by simpa using he
        have HL := Lib.hid (topN_less V W 7 ht he)
        clear he ht
        go_wp2
        go_quiet (fail)
        go_wp2
        go_quiet (fail)
        go_wp2
        go_ret
        exact ⟨ret_bool (by rw [Bool.eq_iff_iff, decide_eq_true_eq, decide_eq_true_eq]; exact HL.out.symm), _, by simp only [World.drewN_drewN]; rfl⟩
    · by_cases he : limb V 8 = limb W 8
      · have hb : (limb V 8 != limb W 8) = false := by rw [he]; simp
        have HR := Lib.hid (topN_step V W 8 ht he)
        clear he ht
        go_wp2
        go_quiet (fail)
        go_wp2
        go_roundw
        case rel => exact ⟨8, _, by decide, by go_num, rfl, HR.out⟩
        case measure => simp [intOf]
      · have hb : (limb V 8 != limb W 8) = true := by simpa using he
        have HL := Lib.hid (topN_less V W 8 ht he)
        clear he ht
        go_wp2
        go_quiet (fail)
        go_wp2
        go_quiet (fail)
        go_wp2
        go_ret
        exact ⟨ret_bool (by rw [Bool.eq_iff_iff, decide_eq_true_eq, decide_eq_true_eq]; exact HL.out.symm), _, by simp only [World.drewN_drewN]; rfl⟩
    · by_cases he : limb V 9 = limb W 9
      · have hb : (limb V 9 != limb W 9) = false := by rw [he]; simp
        have HR := Lib.hid (topN_step V W 9 ht he)
        clear he ht
        go_wp2
        go_quiet (fail)
        go_wp2
        go_roundw
        case rel => exact ⟨9, _, by decide, by go_num, rfl, HR.out⟩
        case measure => simp [intOf]
      · have hb : (limb V 9 != limb W 9) = true := by simpa using he
        have HL := Lib.hid (topN_less V W 9 ht he)
        clear he ht
        go_wp2
        go_quiet (fail)
        go_wp2
        go_quiet (fail)
        go_wp2
        go_ret
        exact ⟨ret_bool (by rw [Bool.eq_iff_iff, decide_eq_true_eq, decide_eq_true_eq]; exact HL.out.symm), _, by simp only [World.drewN_drewN]; rfl⟩
theorem below_any (nx ny : Bool) (V W : Nat) (w : World) (hV : V < 2 ^ (64 * 10)) (hW : W < 2 ^ (64 * 10)) :
    Calls Try.prog 73 #[wideV nx V, wideV ny W] w fun e w' => e = .returned (.bool (decide (V < W))) ∧ Grown w w' :=
  (below_is nx ny V W w hV hW).mono fun _ _ ⟨he, m, hw⟩ => ⟨he, by rw [hw]; exact grown_more (Grown.alloc (Grown.alloc (Grown.refl _) _ _) _ _) _⟩
end Go.Proofs.Ytdaikgeellpolaa
