/- Contracts of the reference's wide numbers: sums of any signs, rounded. -/
import Derived.Test.YtheaeclojljecaaGreatRows
import Derived.Test.YtheaeclojljecaaGreatWide
import Derived.Test.YtheaeclojljecaaGreatWideD
import Derived.Test.YtheaeclojljecaaGreatWideE
import Derived.Test.YtheaeclojljecaaGreatWideG
namespace Go.Proofs.YtheaeclojljecaaGreat
open Go.RowKit
set_option linter.unusedVariables false
set_option linter.unusedSimpArgs false

/-! Contracts of the reference's wide numbers: sums of any signs, rounded. -/
def sgT (n : Bool) (V : Nat) (m : Bool) (W : Nat) : Bool := if n = m then n else if V < W then m else n

def amT (n : Bool) (V : Nat) (m : Bool) (W : Nat) : Nat := if n = m then V + W else if V < W then W - V else V - W

theorem pow_twice (k : Nat) : 2 ^ (64 * k) + 2 ^ (64 * k) ≤ 2 ^ (64 * (k + 1)) := by
  have : 2 ^ (64 * k + 1) ≤ 2 ^ (64 * (k + 1)) := Nat.pow_le_pow_right (by decide) (by omega)
  rw [Nat.pow_succ] at this; omega

theorem amt_fit_k (n : Bool) (V : Nat) (m : Bool) (W k : Nat) (hV : FitN V k) (hW : FitN W k) : FitN (amT n V m W) (k + 1) := by
  have a := hV.out
  have b := hW.out
  have c := pow_twice k
  refine ⟨?_⟩
  unfold amT
  generalize 2 ^ (64 * k) = P at *
  generalize 2 ^ (64 * (k + 1)) = Q at *
  (repeat' split) <;> omega

theorem amt_fit (n : Bool) (V : Nat) (m : Bool) (W : Nat) (hV : FitN V 9) (hW : FitN W 9) : FitN (amT n V m W) 10 := amt_fit_k n V m W 9 hV hW

theorem fit_more (V k : Nat) (h : FitN V k) : FitN V (k + 1) :=
  ⟨Nat.lt_of_lt_of_le h.out (Nat.pow_le_pow_right (by decide) (by omega))⟩

theorem fit_ten (V : Nat) (h : FitN V 9) : FitN V 10 := fit_more V 9 h

theorem fit_up (V : Nat) (h : FitN V 9) : V < 2 ^ (64 * 10) := (fit_ten V h).out

set_option maxRecDepth 100000 in
set_option maxHeartbeats 4000000 in
theorem plus_unlike (n m : Bool) (V W : Nat) (w : World) (hnm : (n != m) = true) (s : Bool) (T : Nat)
    (hm : ∀ w1, Calls Tryz.prog 146 #[wideV n V, wideV m W] w1 fun e w' => e = .returned (wideV s T) ∧ Grown w1 w') :
    Calls Tryz.prog 125 #[wideV n V, wideV m W] w fun e w' => e = .returned (wideV s T) ∧ Grown w w' := by
  have HM := Lib.hid hm
  clear hm
  have hnm2 : (n == m) = false := by cases n <;> cases m <;> simp_all
  have HN := Lib.hid (nil_new ((w.alloc (.cells (wideO n V) 77)).alloc (.cells (wideO m W) 77)) 77)
  have HG := Lib.hid (Grown.alloc (Grown.alloc (Grown.alloc (Grown.refl w) (wideO n V) 77) (wideO m W) 77) nilO 77)
  rw [show ((w.alloc (.cells (wideO n V) 77)).alloc (.cells (wideO m W) 77)).heap.size = w.heap.size + 1 + 1 by simp] at HN
  unfold wideO at HN HG
  unfold nilO at HG
  unfold wideV at HM ⊢
  go_enter Tryz.func125, Tryz.ntmps125
  go_wp2_with (go_at_call 146; refine (HM.out _).mono ?_; rintro e W3 ⟨rfl, hW3⟩; have HW3 := Lib.hid hW3; clear hW3; obtain ⟨xb, x0, x1, x2, x3, x4, x5, x6, x7, x8, x9, x10, z0, z1, z2, z3, z4, z5, z6, z7, z8, z9, z10⟩ := HN.out.grown HW3.out; have HG3 := Lib.hid (grown_trans HG.out HW3.out))
  (try simp only [Exit.inBlock, Exit.then])
  refine bodyPost_ret (v := wideV s T) ?_ rfl ⟨rfl, ?_⟩
  · rw [results_one rfl]
    unfold wideV
    go_simp
  · repeat refine Grown.setCell ?_ (by simp <;> omega) _
    exact HG3.out

theorem plus_any (n m : Bool) (V W : Nat) (w : World) (hV : FitN V 9) (hW : FitN W 9) :
    Calls Tryz.prog 125 #[wideV n V, wideV m W] w fun e w' => e = .returned (wideV (sgT n V m W) (amT n V m W)) ∧ Grown w w' := by
  by_cases h : n = m
  · subst h
    unfold sgT amT
    rw [if_pos rfl, if_pos rfl]
    exact plus_like n V W w
  · have hb : (n != m) = true := by simpa using h
    have a := fit_up V hV
    have b := fit_up W hW
    by_cases c : V < W
    · unfold sgT amT
      rw [if_neg h, if_neg h, if_pos c, if_pos c]
      exact plus_unlike n m V W w hb _ _ (fun w1 => minus_up n m V W (W - V) w1 (by omega) c a b)
    · unfold sgT amT
      rw [if_neg h, if_neg h, if_neg c, if_neg c]
      exact plus_unlike n m V W w hb _ _ (fun w1 => minus_down n m V W (V - W) w1 (by omega) c a b)

/-! The contract of the reference's rounded total. -/
def excE (v : Int) (inv : Bool) : Ending := .returned (.tuple #[.int .u32 v, .agg #[.bool inv, .bool false, .bool false, .bool false, .bool false]])

theorem excE_is (v : Int) (inv : Bool) : .returned (.tuple #[.int .u32 v, .agg #[.bool inv, .bool false, .bool false, .bool false, .bool false]]) = excE v inv := rfl

def totE (f mode : Int) (n : Bool) (V : Nat) (m : Bool) (W : Nat) : Ending :=
  if amT n V m W = 0 then excE (zerI f (mode == 3)) false else PackE f mode (sgT n V m W) (upN (amT n V m W))

set_option maxRecDepth 100000 in
set_option maxHeartbeats 4000000 in
theorem total_any (f mode : Int) (n m : Bool) (V W : Nat) (w : World) (hV : FitN V 9) (hW : FitN W 9) :
    Calls Tryz.prog 103 #[.int .i64 f, .int .i64 mode, wideV n V, wideV m W] w fun e w' => e = totE f mode n V m W ∧ Grown w w' := by
  have HP := Lib.hid (fun w1 => plus_any n m V W w1 hV hW)
  have HF := amt_fit n V m W hV hW
  clear hV hW
  obtain ⟨S, hS⟩ : ∃ S, sgT n V m W = S := ⟨_, rfl⟩
  obtain ⟨T, hT⟩ : ∃ T, amT n V m W = T := ⟨_, rfl⟩
  rw [hS, hT] at HP
  rw [hT] at HF
  have HTot := Lib.hid (show totE f mode n V m W = if T = 0 then excE (zerI f (mode == 3)) false else PackE f mode S (upN T) by unfold totE; rw [hS, hT])
  clear hS hT
  have HN := fun w1 => nought_is S T w1 HF.out
  have HN' := Lib.hid HN
  clear HN
  have HE := Lib.hid (exc_new ((w.alloc (.cells (wideO n V) 77)).alloc (.cells (wideO m W) 77)) 41)
  have HG := Lib.hid (Grown.alloc (Grown.alloc (Grown.alloc (Grown.refl w) (wideO n V) 77) (wideO m W) 77) #[.bool false, .bool false, .bool false, .bool false, .bool false] 41)
  rw [show ((w.alloc (.cells (wideO n V) 77)).alloc (.cells (wideO m W) 77)).heap.size = w.heap.size + 1 + 1 by simp] at HE
  by_cases hz : T = 0
  · subst hz
    have HQ := Lib.hid (HTot.out.trans (if_pos rfl))
    unfold wideO at HE HG HN'
    unfold wideV at HP HN' ⊢
    go_enter Tryz.func103, Tryz.ntmps103
    go_wp2_with (first
      | (go_at_call 125; refine (HP.out _).mono ?_; rintro e W3 ⟨rfl, hW3⟩; have HW3 := Lib.hid hW3; clear hW3; obtain ⟨xb, x0, x1, x2, x3, x4, z0, z1, z2, z3, z4⟩ := HE.out.grown HW3.out; have HG3 := Lib.hid (grown_trans HG.out HW3.out))
      | (go_at_call 126; refine (HN'.out _).mono ?_; rintro e W4 ⟨rfl, hW4⟩; have HG4 := Lib.hid (show Grown W3 W4 by rw [← hW4]; exact Grown.alloc (Grown.alloc (Grown.refl W3) _ _) _ _); clear hW4; clear xb x0 x1 x2 x3 x4 z0 z1 z2 z3 z4; obtain ⟨xb, x0, x1, x2, x3, x4, z0, z1, z2, z3, z4⟩ := (HE.out.grown HW3.out).grown HG4.out)
      | (go_at_call 29; refine (rzero_any _ _ _).mono ?_; rintro e w' ⟨rfl, rfl⟩))
    (try simp only [Exit.inBlock, Exit.then])
    refine bodyPost_ret (v := .tuple #[.int .u32 (zerI f (mode == 3)), .agg #[.bool false, .bool false, .bool false, .bool false, .bool false]]) ?_ rfl ⟨(excE_is _ _).trans HQ.out.symm, ?_⟩
    · rw [results_tmp_cell rfl]
      go_simp
    · repeat refine Grown.setCell ?_ (by simp <;> omega) _
      exact grown_trans HG3.out HG4.out
  · have HQ := Lib.hid (HTot.out.trans (if_neg hz))
    have HZ := Lib.hid hz
    have HR := Lib.hid (fun w1 => rounded_any f mode S T w1 HF hz)
    have hz' : decide (T = 0) = false := decide_eq_false hz
    clear hz
    unfold wideO at HE HG HN'
    unfold wideV at HP HN' HR ⊢
    go_enter Tryz.func103, Tryz.ntmps103
    go_wp2_with (first
      | (go_at_call 125; refine (HP.out _).mono ?_; rintro e W3 ⟨rfl, hW3⟩; have HW3 := Lib.hid hW3; clear hW3; obtain ⟨xb, x0, x1, x2, x3, x4, z0, z1, z2, z3, z4⟩ := HE.out.grown HW3.out; have HG3 := Lib.hid (grown_trans HG.out HW3.out))
      | (go_at_call 126; refine (HN'.out _).mono ?_; rintro e w' ⟨rfl, rfl⟩)
      | (go_at_call 127; refine (HR.out _).mono ?_; rintro e W5 ⟨he, hW5⟩; rw [← packE_is] at he; subst he; have HW5 := Lib.hid hW5; clear hW5; have HG5 := Lib.hid (grown_trans (Grown.alloc (Grown.alloc (Grown.refl W3) _ _) _ _) HW5.out); clear xb x0 x1 x2 x3 x4 z0 z1 z2 z3 z4; obtain ⟨xb, x0, x1, x2, x3, x4, z0, z1, z2, z3, z4⟩ := (HE.out.grown HW3.out).grown HG5.out))
    (try simp only [Exit.inBlock, Exit.then])
    refine bodyPost_ret (v := .tuple #[.int .u32 (rdV f mode S (upN T)), .agg #[.bool false, .bool false, .bool (rdO f mode S (upN T)), .bool (rdU f (upN T)), .bool (rdX f mode S (upN T))]]) ?_ rfl ⟨(packE_is _ _ _ _).trans HQ.out.symm, ?_⟩
    · rw [results_tmp_cell rfl]
      go_simp
    · repeat refine Grown.setCell ?_ (by simp <;> omega) _
      exact grown_trans HG3.out HG5.out
end Go.Proofs.YtheaeclojljecaaGreat
