/- Contracts of the reference's wide numbers: sums of any signs, rounded. -/
import Derived.Test.YtdaikgeellpolaaRows
import Derived.Test.YtdaikgeellpolaaWideB
import Derived.Test.YtdaikgeellpolaaWideD
import Derived.Test.YtdaikgeellpolaaWideE
import Derived.Test.YtdaikgeellpolaaWideF
import Derived.Test.YtdaikgeellpolaaWideG
namespace Go.Proofs.Ytdaikgeellpolaa
open Go.RowKit
set_option linter.unusedVariables false
set_option linter.unusedSimpArgs false

/-- The sign and the amount of a sum. -/
def sgT (n : Bool) (V : Nat) (m : Bool) (W : Nat) : Bool := if n = m then n else if V < W then m else n
def amT (n : Bool) (V : Nat) (m : Bool) (W : Nat) : Nat := if n = m then V + W else if V < W then W - V else V - W
theorem pow_twice (k : Nat) : 2 ^ (64 * k) + 2 ^ (64 * k) ≤ 2 ^ (64 * (k + 1)) := by
  have : 2 ^ (64 * k + 1) ≤ 2 ^ (64 * (k + 1)) := Nat.pow_le_pow_right (by decide) (by omega)
  rw [Nat.pow_succ] at this; omega
theorem amt_fit_k (n : Bool) (V : Nat) (m : Bool) (W k : Nat) (hV : FitN V k) (hW : FitN W k) : FitN (amT n V m W) (k + 1) := by
  have a := hV.out
  have b := hW.out
  have c := pow_twice k
  refine ⟨?_⟩
  unfold amT
  generalize 2 ^ (64 * k) = P at *
  generalize 2 ^ (64 * (k + 1)) = Q at *
  (repeat' split) <;> omega
theorem amt_fit (n : Bool) (V : Nat) (m : Bool) (W : Nat) (hV : FitN V 9) (hW : FitN W 9) : FitN (amT n V m W) 10 := amt_fit_k n V m W 9 hV hW
theorem fit_more (V k : Nat) (h : FitN V k) : FitN V (k + 1) :=
  ⟨Nat.lt_of_lt_of_le h.out (Nat.pow_le_pow_right (by decide) (by omega))⟩
theorem fit_ten (V : Nat) (h : FitN V 9) : FitN V 10 := fit_more V 9 h
theorem fit_up (V : Nat) (h : FitN V 9) : V < 2 ^ (64 * 10) := (fit_ten V h).out

set_option maxRecDepth 100000 in
set_option maxHeartbeats 4000000 in
theorem plus_unlike (n m : Bool) (V W : Nat) (w : World) (hnm : (n != m) = true) (s : Bool) (T : Nat)
    (hm : ∀ w1, Calls Try.prog 70 #[wideV n V, wideV m W] w1 fun e w' => e = .returned (wideV s T) ∧ Grown w1 w') :
    Calls Try.prog 51 #[wideV n V, wideV m W] w fun e w' => e = .returned (wideV s T) ∧ Grown w w' := by
  have HM := Lib.hid hm
  clear hm
  have hnm2 : (n == m) = false := by cases n <;> cases m <;> simp_all
  have HN := Lib.hid (nil_new ((w.alloc (.cells (wideO n V) 59)).alloc (.cells (wideO m W) 59)) 59)
  have HG := Lib.hid (Grown.alloc (Grown.alloc (Grown.alloc (Grown.refl w) (wideO n V) 59) (wideO m W) 59) nilO 59)
  rw [show ((w.alloc (.cells (wideO n V) 59)).alloc (.cells (wideO m W) 59)).heap.size = w.heap.size + 1 + 1 by simp] at HN
  unfold wideO at HN HG
  unfold nilO at HG
  unfold wideV at HM ⊢
  go_enter Try.func51, Try.ntmps51
  go_wp2_with (go_at_call 70; refine (HM.out _).mono ?_; rintro e W3 ⟨rfl, hW3⟩; have HW3 := Lib.hid hW3; clear hW3; obtain ⟨xb, x0, x1, x2, x3, x4, x5, x6, x7, x8, x9, x10, z0, z1, z2, z3, z4, z5, z6, z7, z8, z9, z10⟩ := HN.out.grown HW3.out; have HG3 := Lib.hid (grown_trans HG.out HW3.out))
  (try simp only [Exit.inBlock, Exit.then])
  refine bodyPost_ret (v := wideV s T) ?_ rfl ⟨rfl, ?_⟩
  · rw [results_one rfl]
    unfold wideV
    go_simp
  · repeat refine Grown.setCell ?_ (by simp <;> omega) _
    exact HG3.out

theorem plus_any (n m : Bool) (V W : Nat) (w : World) (hV : FitN V 9) (hW : FitN W 9) :
    Calls Try.prog 51 #[wideV n V, wideV m W] w fun e w' => e = .returned (wideV (sgT n V m W) (amT n V m W)) ∧ Grown w w' := by
  by_cases h : n = m
  · subst h
    unfold sgT amT
    rw [if_pos rfl, if_pos rfl]
    exact plus_like n V W w
  · have hb : (n != m) = true := by simpa using h
    have a := fit_up V hV
    have b := fit_up W hW
    by_cases c : V < W
    · unfold sgT amT
      rw [if_neg h, if_neg h, if_pos c, if_pos c]
      exact plus_unlike n m V W w hb _ _ (fun w1 => minus_up n m V W (W - V) w1 (by omega) c a b)
    · unfold sgT amT
      rw [if_neg h, if_neg h, if_neg c, if_neg c]
      exact plus_unlike n m V W w hb _ _ (fun w1 => minus_down n m V W (V - W) w1 (by omega) c a b)
end Go.Proofs.Ytdaikgeellpolaa
