/- The walk of RoundOrder. -/
import Derived.Test.YtbkkiphoohlhkaaRKnown
import Derived.Test.YtbkkiphoohlhkaaRKey
import Derived.Test.YtbkkiphoohlhkaaRMono
import Derived.Test.YtbkkiphoohlhkaaRTmod
namespace Go.Proofs.Ytbkkiphoohlhkaa
open Go.RowKit
set_option linter.unusedVariables false
set_option linter.unusedSimpArgs false

theorem key_pos (f mode : Int) (V : Nat) : keyI f (rdV f mode false V) = magN f mode false V := by
  have h := mag_le f mode false V
  have g := gre_sgb f
  have e : rdV f mode false V = magN f mode false V := by unfold rdV zerI; simp
  have hs : fS f (magN f mode false V) = false := by
    unfold fS
    rw [Int.ediv_eq_zero_of_lt (by omega) (by omega)]; rfl
  rw [e]
  unfold keyI
  rw [hs]
  simp only [Bool.false_eq_true, if_false]
  exact Int.emod_eq_of_lt (by omega) (by omega)
theorem key_mono (f mode : Int) {V W : Nat} (h : V ≤ W) : keyI f (rdV f mode false V) ≤ keyI f (rdV f mode false W) := by
  rw [key_pos, key_pos]; exact Int.ofNat_le.2 (mag_mono f mode false h)
theorem rdV_word (f mode : Int) (neg : Bool) (V : Nat) : 0 ≤ rdV f mode neg V ∧ rdV f mode neg V ≤ 4294967295 := by
  have h := rdV_bd f mode neg V
  have : msk f ≤ 4294967295 := by unfold msk; (repeat' split) <;> decide
  omega

set_option maxRecDepth 100000 in
set_option maxHeartbeats 8000000 in
theorem rorder_walk (a0 a1 a2 a3 a4 : Int) (a5 a6 : Bool) (w0 : (Lit.int .u8 a0).wf = true) (w1 : (Lit.int .u8 a1).wf = true) (w2 : (Lit.int .u64 a2).wf = true) (w3 : (Lit.int .u64 a3).wf = true) (w4 : (Lit.int .i16 a4).wf = true) (w : World) :
    Calls Try.prog 6 #[.int .u8 a0, .int .u8 a1, .int .u64 a2, .int .u64 a3, .int .i16 a4, .bool a5, .bool a6] w fun e w' => e = .returned (.bool true) ∧ Grown w w' := by
  obtain ⟨b0, b1⟩ := bounds_u8 w0
  obtain ⟨b2, b3⟩ := bounds_u8 w1
  obtain ⟨b4, b5⟩ := bounds_u64 w2
  obtain ⟨b6, b7⟩ := bounds_u64 w3
  obtain ⟨b8, b9⟩ := bounds_i16 w4
  clear w0 w1 w2 w3 w4
  obtain ⟨F, hF⟩ : ∃ F, a0 % 3 = F := ⟨_, rfl⟩
  have HF := Lib.hid hF
  clear hF
  have hb : ∀ e, -10000 ≤ clampE e := fun e => (clamp_bd e).1
  have HK : Hid (∀ (e x y : Int) (m n : Bool), 0 ≤ x → (x < y ∨ (x = y ∧ (m = true → n = true))) → keyI F (rdV F (a1 % 5) false (valN (clampE e) x m)) ≤ keyI F (rdV F (a1 % 5) false (valN (clampE e) y n))) :=
    fun e x y m n x0 h => key_mono F (a1 % 5) (val_mono (clampE e) x y m n x0 h (hb e))
  clear hb
  obtain ⟨t0, t1⟩ := tmod_bd a4 200 (by decide)
  obtain ⟨T, hT⟩ : ∃ T, a4.tmod 200 = T := ⟨_, rfl⟩
  rw [hT] at t0 t1
  have HG := Lib.hid (Grown.refl w)
  rcases (show a2 < a3 ∨ a3 < a2 ∨ a2 = a3 by omega) with c | c | c
  all_goals
    try subst c
    cases a5 <;> cases a6
    all_goals
      go_enter Try.func6, Try.ntmps6
      go_wp2_with (first
        | (go_at_call 8; refine (known3_any _).mono ?_; rintro e W1 ⟨rfl, hW1⟩; replace HG := Lib.hid (grown_trans HG.out hW1); clear hW1)
        | (go_at_call 9; refine (form3_any _ _ b0 b1).mono ?_; rintro e W2 ⟨he, hW2⟩; rw [HF.out] at he; subst he; replace HG := Lib.hid (grown_trans HG.out hW2); clear hW2)
        | (go_at_call 10; refine (pack_any _ _ _ _ _ _ _ (by omega) (by omega) (by omega) (by omega)).mono ?_; rintro e W3 ⟨he, hW3⟩; rw [← packE_is] at he; subst he; (first | replace HG := Lib.hid (grown_trans HG.out hW3) | replace HG := Lib.hid (grown_trans (Grown.alloc HG.out _ _) hW3)); clear hW3)
        | (go_at_call 15; refine (rkey_any _ _ _ (rdV_word _ _ _ _).1 (rdV_word _ _ _ _).2).mono ?_; rintro e w' ⟨rfl, mk, rfl⟩))
      go_ret
      refine ⟨?_, grown_more (Grown.alloc HG.out _ _) _⟩
      first
        | rfl
        | (refine ret_bool (decide_eq_true (HK.out _ _ _ _ _ ?_ ?_))
           · omega
           · first | exact .inl c | exact .inr ⟨rfl, fun h => by first | exact h | rfl | exact absurd h (by decide)⟩)
end Go.Proofs.Ytbkkiphoohlhkaa
