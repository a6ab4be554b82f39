/- The contract of the reference's rounded total. -/
import Derived.Test.YtdaikgeellpolaaRows
import Derived.Test.YtdaikgeellpolaaWideH
namespace Go.Proofs.Ytdaikgeellpolaa
open Go.RowKit
set_option linter.unusedVariables false
set_option linter.unusedSimpArgs false

/-- A number, and whether it was invalid. -/
def excE (v : Int) (inv : Bool) : Ending := .returned (.tuple #[.int .u32 v, .agg #[.bool inv, .bool false, .bool false, .bool false, .bool false]])
theorem excE_is (v : Int) (inv : Bool) : .returned (.tuple #[.int .u32 v, .agg #[.bool inv, .bool false, .bool false, .bool false, .bool false]]) = excE v inv := rfl
/-- A total of two with signs, in units of 2 to -298, rounded. -/
def totE (f mode : Int) (n : Bool) (V : Nat) (m : Bool) (W : Nat) : Ending :=
  if amT n V m W = 0 then excE (zerI f (mode == 3)) false else PackE f mode (sgT n V m W) (upN (amT n V m W))

set_option maxRecDepth 100000 in
set_option maxHeartbeats 4000000 in
theorem total_any (f mode : Int) (n m : Bool) (V W : Nat) (w : World) (hV : FitN V 9) (hW : FitN W 9) :
    Calls Try.prog 33 #[.int .i64 f, .int .i64 mode, wideV n V, wideV m W] w fun e w' => e = totE f mode n V m W ∧ Grown w w' := by
  have HP := Lib.hid (fun w1 => plus_any n m V W w1 hV hW)
  have HF := amt_fit n V m W hV hW
  clear hV hW
  obtain ⟨S, hS⟩ : ∃ S, sgT n V m W = S := ⟨_, rfl⟩
  obtain ⟨T, hT⟩ : ∃ T, amT n V m W = T := ⟨_, rfl⟩
  rw [hS, hT] at HP
  rw [hT] at HF
  have HTot := Lib.hid (show totE f mode n V m W = if T = 0 then excE (zerI f (mode == 3)) false else PackE f mode S (upN T) by unfold totE; rw [hS, hT])
  clear hS hT
  have HN := fun w1 => nought_is S T w1 HF.out
  have HN' := Lib.hid HN
  clear HN
  have HE := Lib.hid (exc_new ((w.alloc (.cells (wideO n V) 59)).alloc (.cells (wideO m W) 59)) 29)
  have HG := Lib.hid (Grown.alloc (Grown.alloc (Grown.alloc (Grown.refl w) (wideO n V) 59) (wideO m W) 59) #[.bool false, .bool false, .bool false, .bool false, .bool false] 29)
  rw [show ((w.alloc (.cells (wideO n V) 59)).alloc (.cells (wideO m W) 59)).heap.size = w.heap.size + 1 + 1 by simp] at HE
  by_cases hz : T = 0
  · subst hz
    have HQ := Lib.hid (HTot.out.trans (if_pos rfl))
    unfold wideO at HE HG HN'
    unfold wideV at HP HN' ⊢
    go_enter Try.func33, Try.ntmps33
    go_wp2_with (first
      | (go_at_call 51; refine (HP.out _).mono ?_; rintro e W3 ⟨rfl, hW3⟩; have HW3 := Lib.hid hW3; clear hW3; obtain ⟨xb, x0, x1, x2, x3, x4, z0, z1, z2, z3, z4⟩ := HE.out.grown HW3.out; have HG3 := Lib.hid (grown_trans HG.out HW3.out))
      | (go_at_call 52; refine (HN'.out _).mono ?_; rintro e W4 ⟨rfl, hW4⟩; have HG4 := Lib.hid (show Grown W3 W4 by rw [← hW4]; exact Grown.alloc (Grown.alloc (Grown.refl W3) _ _) _ _); clear hW4; clear xb x0 x1 x2 x3 x4 z0 z1 z2 z3 z4; obtain ⟨xb, x0, x1, x2, x3, x4, z0, z1, z2, z3, z4⟩ := (HE.out.grown HW3.out).grown HG4.out)
      | (go_at_call 17; refine (rzero_any _ _ _).mono ?_; rintro e w' ⟨rfl, rfl⟩))
    (try simp only [Exit.inBlock, Exit.then])
    refine bodyPost_ret (v := .tuple #[.int .u32 (zerI f (mode == 3)), .agg #[.bool false, .bool false, .bool false, .bool false, .bool false]]) ?_ rfl ⟨(excE_is _ _).trans HQ.out.symm, ?_⟩
    · rw [results_tmp_cell rfl]
      go_simp
    · repeat refine Grown.setCell ?_ (by simp <;> omega) _
      exact grown_trans HG3.out HG4.out
  · have HQ := Lib.hid (HTot.out.trans (if_neg hz))
    have HZ := Lib.hid hz
    have HR := Lib.hid (fun w1 => rounded_any f mode S T w1 HF hz)
    have hz' : decide (T = 0) = false := decide_eq_false hz
    clear hz
    unfold wideO at HE HG HN'
    unfold wideV at HP HN' HR ⊢
    go_enter Try.func33, Try.ntmps33
    go_wp2_with (first
      | (go_at_call 51; refine (HP.out _).mono ?_; rintro e W3 ⟨rfl, hW3⟩; have HW3 := Lib.hid hW3; clear hW3; obtain ⟨xb, x0, x1, x2, x3, x4, z0, z1, z2, z3, z4⟩ := HE.out.grown HW3.out; have HG3 := Lib.hid (grown_trans HG.out HW3.out))
      | (go_at_call 52; refine (HN'.out _).mono ?_; rintro e w' ⟨rfl, rfl⟩)
      | (go_at_call 53; refine (HR.out _).mono ?_; rintro e W5 ⟨he, hW5⟩; rw [← packE_is] at he; subst he; have HW5 := Lib.hid hW5; clear hW5; have HG5 := Lib.hid (grown_trans (Grown.alloc (Grown.alloc (Grown.refl W3) _ _) _ _) HW5.out); clear xb x0 x1 x2 x3 x4 z0 z1 z2 z3 z4; obtain ⟨xb, x0, x1, x2, x3, x4, z0, z1, z2, z3, z4⟩ := (HE.out.grown HW3.out).grown HG5.out))
    (try simp only [Exit.inBlock, Exit.then])
    refine bodyPost_ret (v := .tuple #[.int .u32 (rdV f mode S (upN T)), .agg #[.bool false, .bool false, .bool (rdO f mode S (upN T)), .bool (rdU f (upN T)), .bool (rdX f mode S (upN T))]]) ?_ rfl ⟨(packE_is _ _ _ _).trans HQ.out.symm, ?_⟩
    · rw [results_tmp_cell rfl]
      go_simp
    · repeat refine Grown.setCell ?_ (by simp <;> omega) _
      exact grown_trans HG3.out HG5.out
end Go.Proofs.Ytdaikgeellpolaa
