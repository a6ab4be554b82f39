/- The walk of RoundTiny. -/
import Derived.Test.YtbkkiphoohlhkaaRKnown
import Derived.Test.YtbkkiphoohlhkaaRFmt
namespace Go.Proofs.Ytbkkiphoohlhkaa
open Go.RowKit
set_option linter.unusedVariables false
set_option linter.unusedSimpArgs false

theorem one_parts (f : Int) : dN f 1 = 0 ∧ keptN f 1 = 0 ∧ catN f 1 = 1 := by
  have hl := lst_bd f
  have hlu := lu_is f
  have hg : Nat.log2 1 = 0 := (Nat.log2_eq_iff (by decide)).2 (by decide)
  have hd : dN f 1 = 0 := by unfold dN; rw [hg]; omega
  have h4 : 2 ^ 2 ≤ 2 ^ (luN f) := Nat.pow_le_pow_right (by decide) (by omega)
  refine ⟨hd, ?_, ?_⟩
  · unfold keptN; rw [hd, Nat.add_zero, Nat.div_eq_of_lt (by omega)]
  · unfold catN catU; rw [hd, Nat.add_zero, Nat.mod_eq_of_lt (by omega), if_neg (by decide), if_pos (by omega)]
theorem tiny_one (f m : Int) (neg : Bool) :
    PackE f m neg 1 = .returned (.tuple #[.int .u32 (zerI f neg + ((growB m neg 0 1).toNat : Int)), .agg #[.bool false, .bool false, .bool false, .bool true, .bool true]]) := by
  obtain ⟨h1, h2, h3⟩ := one_parts f
  have hg := gre_le f
  have hb : (growB m neg 0 1).toNat ≤ 1 := Bool.toNat_le _
  have hf := fn_bd f
  have hlu := lu_is f
  have hl := lst_bd f
  have h5 : 2 ^ 2 ≤ 2 ^ (fn f + luN f) := Nat.pow_le_pow_right (by decide) (by omega)
  have h6 : 2 ^ 2 ≤ 2 ^ fn f := Nat.pow_le_pow_right (by decide) (by omega)
  have hp : plcN f m neg 1 = (growB m neg 0 1).toNat := by unfold plcN; rw [h1, h2, h3]; omega
  have e2 : rdO f m neg 1 = false := by unfold rdO; rw [hp, decide_eq_false_iff_not]; omega
  have e1 : rdV f m neg 1 = zerI f neg + ((growB m neg 0 1).toNat : Int) := by unfold rdV magN; rw [hp, if_pos (by omega)]
  have e3 : rdU f 1 = true := by unfold rdU; rw [h3, decide_eq_true (by omega)]; rfl
  have e4 : rdX f m neg 1 = true := by unfold rdX; rw [e2, h3]; rfl
  rw [← packE_is, e1, e2, e3, e4]
theorem tiny_zero (f m : Int) (neg : Bool) :
    PackE f m neg 0 = .returned (.tuple #[.int .u32 (zerI f neg), .agg #[.bool false, .bool false, .bool false, .bool false, .bool false]]) := by
  obtain ⟨e1, e2, e3, e4⟩ := rd_zero f m neg
  rw [← packE_is, e1, e2, e3, e4]
theorem val_one (e : Int) : valN e 0 true = 1 := by unfold valN; simp
theorem val_none (e : Int) : valN e 0 false = 0 := by unfold valN; simp
theorem zer_bd (f : Int) (neg : Bool) : 0 ≤ zerI f neg ∧ zerI f neg ≤ 2147483648 := by unfold zerI sgb; cases neg <;> (repeat' split) <;> decide

def TinyRel (w : World) (i : Value) (W : World) : Prop := ∃ k : Nat, k ≤ 5 ∧ i = .int .i64 k ∧ Grown w W

set_option maxRecDepth 100000 in
set_option maxHeartbeats 8000000 in
theorem rtiny_walk (a0 : Int) (a1 : Bool) (a2 : Int) (w0 : (Lit.int .u8 a0).wf = true) (w2 : (Lit.int .i64 a2).wf = true) (w : World) :
    Calls Try.prog 7 #[.int .u8 a0, .bool a1, .int .i64 a2] w fun e w' => e = .returned (.bool true) ∧ Grown w w' := by
  obtain ⟨b0, b1⟩ := bounds_u8 w0
  obtain ⟨b2, b3⟩ := bounds_i64 w2
  clear w0 w2
  obtain ⟨F, hF⟩ : ∃ F, a0 % 3 = F := ⟨_, rfl⟩
  have HF := Lib.hid hF
  clear hF
  obtain ⟨z0, z1⟩ := zer_bd F a1
  go_enter Try.func7, Try.ntmps7
  go_wp2_with (first
    | (go_at_call 8; refine (known3_any _).mono ?_; rintro e W1 ⟨rfl, hW1⟩; have HW1 := Lib.hid hW1; clear hW1)
    | (go_at_call 9; refine (form3_any _ _ b0 b1).mono ?_; rintro e W2 ⟨he, hW2⟩; rw [HF.out] at he; subst he; have HW2 := Lib.hid hW2; clear hW2)
    | (go_at_call 16; refine (rzero_any _ _ _).mono ?_; rintro e w' ⟨rfl, rfl⟩))
  have HG : Hid (Grown w W2) := grown_trans HW1.out HW2.out
  clear HW1 HW2
  go_loopw [9] (fun i wr => TinyRel w i wr) (fun i _ => (5 - intOf i).toNat)
  case atStart => exact ⟨0, by decide, rfl, HG.out⟩
  case round =>
    clear HG
    obtain ⟨K, hK, rfl, hG⟩ := hrel
    have HG := Lib.hid hG
    clear hG
    by_cases c : K < 5
    · have h5 : K = 0 ∨ K = 1 ∨ K = 2 ∨ K = 3 ∨ K = 4 := by omega
      rcases h5 with rfl | rfl | rfl | rfl | rfl <;> cases a1
      all_goals
        clear c hK
        go_wp2_with (first
          | (go_at_call 10; refine (pack_any _ _ _ _ _ _ _ (by omega) (by omega) (by omega) (by omega)).mono ?_; rintro e W3 ⟨he, hW3⟩; rw [val_one, tiny_one] at he; simp [growB] at he; subst he; have HW3 := Lib.hid hW3; clear hW3)
          | (go_at_call 10; refine (pack_any _ _ _ _ _ _ _ (by omega) (by omega) (by omega) (by omega)).mono ?_; rintro e W4 ⟨he, hW4⟩; rw [val_none, tiny_zero] at he; subst he; obtain ⟨z0, z1, z2, z3, z4, z5⟩ := grown_new5 hW4; have HW4 := Lib.hid hW4; clear hW4))
        go_roundw
        case rel =>
          (first | refine ⟨1, by decide, by go_num, ?_⟩ | refine ⟨2, by decide, by go_num, ?_⟩ | refine ⟨3, by decide, by go_num, ?_⟩ | refine ⟨4, by decide, by go_num, ?_⟩ | refine ⟨5, by decide, by go_num, ?_⟩)
          exact Grown.alloc (grown_trans (Grown.alloc (grown_trans HG.out HW3.out) _ _) HW4.out) _ _
        case measure => simp [intOf]
    · go_wp2
      go_ret
      exact ⟨rfl, HG.out⟩
end Go.Proofs.Ytbkkiphoohlhkaa
