/- The walk of SumNoughts. -/
import Derived.Test.YtdaikgeellpolaaSKnown
import Derived.Test.YtdaikgeellpolaaMild
import Derived.Test.YtdaikgeellpolaaNought
namespace Go.Proofs.Ytdaikgeellpolaa
open Go.RowKit
set_option linter.unusedVariables false
set_option linter.unusedSimpArgs false

set_option maxRecDepth 100000 in
set_option maxHeartbeats 4000000 in
theorem snoughts_walk (a0 a1 a2 : Int) (a3 a4 : Bool) (w0 : (Lit.int .u8 a0).wf = true) (w1 : (Lit.int .u8 a1).wf = true) (w2 : (Lit.int .u32 a2).wf = true) (w : World) :
    Calls Try.prog 6 #[.int .u8 a0, .int .u8 a1, .int .u32 a2, .bool a3, .bool a4] w fun e w' => e = .returned (.bool true) ∧ Grown w w' := by
  obtain ⟨b0, b1⟩ := bounds_u8 w0
  obtain ⟨b2, b3⟩ := bounds_u8 w1
  obtain ⟨b4, b5⟩ := bounds_u32 w2
  clear w0 w1 w2
  have HG := Lib.hid (Grown.refl w)
  obtain ⟨F, hF⟩ : ∃ F, a0 % 3 = F := ⟨_, rfl⟩
  have HF := Lib.hid hF
  clear hF
  obtain ⟨x1, x2, x3, x4, x5⟩ := zer_parts F a3
  obtain ⟨y1, y2, y3, y4, y5⟩ := zer_parts F a4
  clear x1 x2 x3 y1 y2 y3
  have HS := Lib.hid (add_noughts F (a1 % 5) a3 a4)
  obtain ⟨n0, n1⟩ := mil_bd F a2 b4
  obtain ⟨N, hN⟩ : ∃ N, milI F a2 = N := ⟨_, rfl⟩
  have hm := mil_norm F a2 b4
  rw [hN] at n0 n1 hm
  have HN := Lib.hid hN
  have HM := Lib.hid hm
  clear hN hm
  obtain ⟨v, g1, g2, g3, g4, g5, hR⟩ : ∃ (v : Int) (g1 g2 g3 g4 g5 : Bool), addE F (a1 % 5) N (zerI F a3) = .returned (.tuple #[.int .u32 v, .agg #[.bool g1, .bool g2, .bool g3, .bool g4, .bool g5]]) ∧ (N ≠ 0 → v = N ∧ g1 = false ∧ g2 = false ∧ g3 = false ∧ g4 = false ∧ g5 = false) := by
    by_cases hz : N = 0
    · obtain ⟨v, g1, g2, g3, g4, g5, hR⟩ := add_shape F (a1 % 5) N (zerI F a3)
      exact ⟨v, g1, g2, g3, g4, g5, hR, fun g => absurd hz g⟩
    · obtain ⟨m1, m2, m3, m4, m5⟩ := HM.out hz
      exact ⟨N, false, false, false, false, false, add_nought F (a1 % 5) N a3 n0 m2 m1 m3, fun _ => ⟨rfl, rfl, rfl, rfl, rfl, rfl⟩⟩
  have HR := Lib.hid hR.1
  have HV := Lib.hid hR.2
  clear hR
  have e34 : a3 = a4 ∨ (a3 == a4) = false := by cases a3 <;> cases a4 <;> simp
  rcases e34 with rfl | e34
  · have HQ := Lib.hid (HS.out.trans (by rw [if_pos rfl]))
    clear HS
    have e34 : (a3 == a3) = true := by simp
    by_cases hz : N = 0
    · subst hz
      go_enter Try.func6, Try.ntmps6
      go_wp2_with (first
        | (go_at_call 7; refine (known4_any _).mono ?_; rintro e W1 ⟨rfl, hW1⟩; replace HG := Lib.hid (grown_trans HG.out hW1); clear hW1)
        | (go_at_call 8; refine (form4_any _ _ b0 b1).mono ?_; rintro e W2 ⟨he, hW2⟩; rw [HF.out] at he; subst he; replace HG := Lib.hid (grown_trans HG.out hW2); clear hW2)
        | (go_at_call 17; refine (rzero_any _ _ _).mono ?_; rintro e w' ⟨rfl, rfl⟩))
      refine (sadd_any F (a1 % 5) (zerI F _) (zerI F _) _ x4 x5 y4 y5).mono ?_
      rintro e W5 ⟨he, hW5⟩
      rw [HQ.out] at he
      unfold excE at he
      subst he
      have HW5 := Lib.hid hW5
      clear hW5
      go_wp2_with (go_at_call 10; refine (mild_is _ _ _ b4 b5).mono ?_; rintro e w' ⟨he, mm, rfl⟩; rw [HN.out] at he; subst he)
      refine (sadd_any F (a1 % 5) _ (zerI F _) _ n0 n1 x4 x5).mono ?_
      rintro e W6 ⟨he, hW6⟩
      rw [HR.out] at he
      subst he
      have HX6 := Lib.hid (grown_trans (Grown.alloc (Grown.refl W5) _ _) (grown_trans (grown_drewN _ _) hW6))
      obtain ⟨p, p0, p1, p2, p3, p4⟩ := grown_new5 (grown_trans (grown_drewN _ _) hW6)
      clear hW6
      go_wp2_with (go_at_call 17; refine (rzero_any _ _ _).mono ?_; rintro e w' ⟨rfl, rfl⟩)
      go_ret
      exact ⟨rfl, Grown.alloc (grown_trans HG.out (grown_trans HW5.out HX6.out)) _ _⟩
    · have hzb : (N == 0) = false := by simpa using hz
      obtain ⟨rfl, rfl, rfl, rfl, rfl, rfl⟩ := HV.out hz
      clear hz
      go_enter Try.func6, Try.ntmps6
      go_wp2_with (first
        | (go_at_call 7; refine (known4_any _).mono ?_; rintro e W1 ⟨rfl, hW1⟩; replace HG := Lib.hid (grown_trans HG.out hW1); clear hW1)
        | (go_at_call 8; refine (form4_any _ _ b0 b1).mono ?_; rintro e W2 ⟨he, hW2⟩; rw [HF.out] at he; subst he; replace HG := Lib.hid (grown_trans HG.out hW2); clear hW2)
        | (go_at_call 17; refine (rzero_any _ _ _).mono ?_; rintro e w' ⟨rfl, rfl⟩))
      refine (sadd_any F (a1 % 5) (zerI F _) (zerI F _) _ x4 x5 y4 y5).mono ?_
      rintro e W5 ⟨he, hW5⟩
      rw [HQ.out] at he
      unfold excE at he
      subst he
      have HW5 := Lib.hid hW5
      clear hW5
      go_wp2_with (go_at_call 10; refine (mild_is _ _ _ b4 b5).mono ?_; rintro e w' ⟨he, mm, rfl⟩; rw [HN.out] at he; subst he)
      refine (sadd_any F (a1 % 5) _ (zerI F _) _ n0 n1 x4 x5).mono ?_
      rintro e W6 ⟨he, hW6⟩
      rw [HR.out] at he
      subst he
      have HX6 := Lib.hid (grown_trans (Grown.alloc (Grown.refl W5) _ _) (grown_trans (grown_drewN _ _) hW6))
      obtain ⟨p, p0, p1, p2, p3, p4⟩ := grown_new5 (grown_trans (grown_drewN _ _) hW6)
      clear hW6
      go_wp2_with (go_at_call 17; refine (rzero_any _ _ _).mono ?_; rintro e w' ⟨rfl, rfl⟩)
      go_ret
      exact ⟨rfl, Grown.alloc (grown_trans HG.out (grown_trans HW5.out HX6.out)) _ _⟩
  · have HQ := Lib.hid (HS.out.trans (by rw [if_neg (by simpa using e34)]))
    clear HS
    by_cases hz : N = 0
    · subst hz
      go_enter Try.func6, Try.ntmps6
      go_wp2_with (first
        | (go_at_call 7; refine (known4_any _).mono ?_; rintro e W1 ⟨rfl, hW1⟩; replace HG := Lib.hid (grown_trans HG.out hW1); clear hW1)
        | (go_at_call 8; refine (form4_any _ _ b0 b1).mono ?_; rintro e W2 ⟨he, hW2⟩; rw [HF.out] at he; subst he; replace HG := Lib.hid (grown_trans HG.out hW2); clear hW2)
        | (go_at_call 17; refine (rzero_any _ _ _).mono ?_; rintro e w' ⟨rfl, rfl⟩))
      refine (sadd_any F (a1 % 5) (zerI F _) (zerI F _) _ x4 x5 y4 y5).mono ?_
      rintro e W5 ⟨he, hW5⟩
      rw [HQ.out] at he
      unfold excE at he
      subst he
      have HW5 := Lib.hid hW5
      clear hW5
      go_wp2_with (go_at_call 10; refine (mild_is _ _ _ b4 b5).mono ?_; rintro e w' ⟨he, mm, rfl⟩; rw [HN.out] at he; subst he)
      refine (sadd_any F (a1 % 5) _ (zerI F _) _ n0 n1 x4 x5).mono ?_
      rintro e W6 ⟨he, hW6⟩
      rw [HR.out] at he
      subst he
      have HX6 := Lib.hid (grown_trans (Grown.alloc (Grown.refl W5) _ _) (grown_trans (grown_drewN _ _) hW6))
      obtain ⟨p, p0, p1, p2, p3, p4⟩ := grown_new5 (grown_trans (grown_drewN _ _) hW6)
      clear hW6
      go_wp2_with (go_at_call 17; refine (rzero_any _ _ _).mono ?_; rintro e w' ⟨rfl, rfl⟩)
      go_ret
      exact ⟨rfl, Grown.alloc (grown_trans HG.out (grown_trans HW5.out HX6.out)) _ _⟩
    · have hzb : (N == 0) = false := by simpa using hz
      obtain ⟨rfl, rfl, rfl, rfl, rfl, rfl⟩ := HV.out hz
      clear hz
      go_enter Try.func6, Try.ntmps6
      go_wp2_with (first
        | (go_at_call 7; refine (known4_any _).mono ?_; rintro e W1 ⟨rfl, hW1⟩; replace HG := Lib.hid (grown_trans HG.out hW1); clear hW1)
        | (go_at_call 8; refine (form4_any _ _ b0 b1).mono ?_; rintro e W2 ⟨he, hW2⟩; rw [HF.out] at he; subst he; replace HG := Lib.hid (grown_trans HG.out hW2); clear hW2)
        | (go_at_call 17; refine (rzero_any _ _ _).mono ?_; rintro e w' ⟨rfl, rfl⟩))
      refine (sadd_any F (a1 % 5) (zerI F _) (zerI F _) _ x4 x5 y4 y5).mono ?_
      rintro e W5 ⟨he, hW5⟩
      rw [HQ.out] at he
      unfold excE at he
      subst he
      have HW5 := Lib.hid hW5
      clear hW5
      go_wp2_with (go_at_call 10; refine (mild_is _ _ _ b4 b5).mono ?_; rintro e w' ⟨he, mm, rfl⟩; rw [HN.out] at he; subst he)
      refine (sadd_any F (a1 % 5) _ (zerI F _) _ n0 n1 x4 x5).mono ?_
      rintro e W6 ⟨he, hW6⟩
      rw [HR.out] at he
      subst he
      have HX6 := Lib.hid (grown_trans (Grown.alloc (Grown.refl W5) _ _) (grown_trans (grown_drewN _ _) hW6))
      obtain ⟨p, p0, p1, p2, p3, p4⟩ := grown_new5 (grown_trans (grown_drewN _ _) hW6)
      clear hW6
      go_wp2_with (go_at_call 17; refine (rzero_any _ _ _).mono ?_; rintro e w' ⟨rfl, rfl⟩)
      go_ret
      exact ⟨rfl, Grown.alloc (grown_trans HG.out (grown_trans HW5.out HX6.out)) _ _⟩
end Go.Proofs.Ytdaikgeellpolaa
