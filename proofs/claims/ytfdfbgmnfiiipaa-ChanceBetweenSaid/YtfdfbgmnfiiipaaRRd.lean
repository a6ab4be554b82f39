/- Contracts of the reference's Pack and of what it calls. -/
import Derived.Test.YtfdfbgmnfiiipaaRefs
import Derived.Test.YtfdfbgmnfiiipaaRFmt
import Derived.Test.YtfdfbgmnfiiipaaRdRef
import Derived.Test.YtfdfbgmnfiiipaaWorld
import Derived.Lib.Hide
import Derived.StillTailTactics
namespace Go.Proofs.Ytfdfbgmnfiiipaa
open Go.RowKit
set_option linter.unusedVariables false
set_option linter.unusedSimpArgs false

theorem ret_kbb {a b : Int} {p q p' q' : Bool} (h : a = b) (g : p = p') (i : q = q') : Ending.returned (.tuple #[.int .u64 a, .bool p, .bool q]) = .returned (.tuple #[.int .u64 b, .bool p', .bool q']) := by rw [h, g, i]

theorem still_same {P : Program} {f : FuncId} {args : Array Value} {w : World} {v : Value} (h : Calls P f args w fun e w' => e = .returned v ∧ w = w') :
    Calls P f args w fun e w' => e = .returned v ∧ w' = w := h.mono fun _ _ h => ⟨h.1, h.2.symm⟩

set_option maxHeartbeats 400000 in
theorem rdivide_any (v n : Int) (w : World) (h0 : 0 ≤ v) (h1 : v ≤ 18446744073709551615) (n0 : -63 ≤ n) (n1 : n ≤ 100000) :
    Calls Try.prog 55 #[.int .u64 v, .int .i64 n] w fun e w' => e = .returned (.tuple #[.int .u64 (dvK v n), .bool (dvH v n), .bool (dvR v n)]) ∧ w = w' := by
  by_cases c : n ≤ 0
  · go_enter Try.func55, Try.ntmps55
    go_wp2
    go_ret3
    exact ⟨ret_kbb (by simp only [dvK, if_pos c]) (by simp only [dvH, if_pos c]) (by simp only [dvR, if_pos c]), rfl⟩
  · by_cases c2 : 64 < n
    · have e1 := sh_far_v v n h0 h1 (.inr (by omega))
      have e2 := sh_far_v v (n - 1) h0 h1 (.inr (by omega))
      have e3 := sh_far_o v (n - 1) h0 h1 (.inr (by omega))
      have E : Hid (dvK v n = 0 ∧ dvH v n = false ∧ dvR v n = (v != 0)) := by
        refine ⟨?_, ?_, ?_⟩
        · simp only [dvK, if_neg c, ← e1]
        · simp only [dvH, if_neg c, ← e2]; rfl
        · simp only [dvR, if_neg c, e3]
      clear e1 e2 e3
      go_enter Try.func55, Try.ntmps55
      go_wp2
      go_ret3
      exact ⟨ret_kbb E.out.1.symm E.out.2.1.symm E.out.2.2.symm, rfl⟩
    · obtain ⟨b0, b1⟩ := shV_bd v (n - 1) h0 h1
      have ha := and_one _ b0 b1
      go_enter Try.func55, Try.ntmps55
      go_wp2_with (go_at_call 30; refine (rshift_any _ _ _ h0 h1 (by omega) (by omega)).mono ?_; rintro e w' ⟨rfl, rfl⟩)
      go_ret3
      exact ⟨ret_kbb (by unfold dvK; rw [if_neg (by omega)]) (by unfold dvH; rw [if_neg (by omega)]) (by unfold dvR; rw [if_neg (by omega)]), rfl⟩

set_option maxHeartbeats 400000 in
theorem rup_any (mode : Int) (neg odd half rest : Bool) (w : World) :
    Calls Try.prog 56 #[.int .i64 mode, .bool neg, .bool odd, .bool half, .bool rest] w fun e w' => e = .returned (.bool (upB mode neg odd half rest)) ∧ w = w' := by
  go_enter Try.func56, Try.ntmps56
  go_wp2
  all_goals
    go_ret
    exact ⟨ret_bool (by simp_all [upB]), rfl⟩

set_option maxHeartbeats 400000 in
theorem rover_any (f mode : Int) (neg : Bool) (w : World) :
    Calls Try.prog 57 #[.int .i64 f, .int .i64 mode, .bool neg] w fun e w' => e = .returned (.int .u32 (beyI f mode neg)) ∧ ∃ m, w' = w.drewN m := by
  cases neg
  all_goals
    go_enter Try.func57, Try.ntmps57
    go_wp2_with (first
      | (go_at_call 62; refine (rgreatest_any _ _ _).mono ?_; rintro e w' ⟨rfl, m, rfl⟩)
      | (go_at_call 29; refine (rinf_any _ _ _).mono ?_; rintro e w' ⟨rfl, m, rfl⟩))
    all_goals
      go_ret
      exact ⟨ret_int (by simp_all [beyI, inB]), _, rfl⟩

theorem half_of_beq {K H : Int} (h : (K + 1 == 2 * H) = true) : (K + 1) / 2 = H := by have := eq_of_beq h; omega

theorem two_of_beq {K H : Int} (h : (K + 1 == 2 * H) = true) : K + ((true.toNat : Nat) : Int) = 2 * H := by have := eq_of_beq h; simp only [Bool.toNat_true]; omega

theorem lt_of_bne {K H : Int} (h : (K + 1 == 2 * H) = false) (k : K < 2 * H) : K + 1 < 2 * H := by
  have : ¬ K + 1 = 2 * H := fun e => by rw [e] at h; simp at h
  omega

end Go.Proofs.Ytfdfbgmnfiiipaa
