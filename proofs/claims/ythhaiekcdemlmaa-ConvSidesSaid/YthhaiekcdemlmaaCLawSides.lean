/- The walk of ConvSides. -/
import Derived.Test.YthhaiekcdemlmaaCKnown
import Derived.Test.YthhaiekcdemlmaaNumM
import Derived.Test.YthhaiekcdemlmaaConSides
namespace Go.Proofs.Ythhaiekcdemlmaa
open Go.RowKit
set_option linter.unusedVariables false
set_option linter.unusedSimpArgs false

/-- What is asked of a finite number's three. -/
theorem three_asked (E : Bool) (L H N : Int) (h1 : N = L ∨ N = H) (h2 : E = true ∨ L = H) : (E = true ∧ N = L) ∨ (E = true ∧ (N == L) = false ∧ N = H) ∨ (E = false ∧ N = L ∧ H = L) := by
  cases E
  · have := h2.resolve_left (by decide)
    exact .inr (.inr ⟨rfl, by omega, this.symm⟩)
  · by_cases c : N = L
    · exact .inl ⟨rfl, c⟩
    · exact .inr (.inl ⟨rfl, by simp [c], h1.resolve_left c⟩)

set_option maxRecDepth 100000 in
set_option maxHeartbeats 8000000 in
theorem csides_walk (a0 : Bool) (a1 : Int) (w1 : (Lit.int .u32 a1).wf = true) (w : World) :
    Calls Try.prog 5 #[.bool a0, .int .u32 a1] w fun e w' => e = .returned (.bool true) ∧ Grown w w' := by
  obtain ⟨b0, b1⟩ := bounds_u32 w1
  clear w1
  have HG := Lib.hid (Grown.refl w)
  obtain ⟨F, hF⟩ : ∃ F : Int, (if a0 = true then 0 else 1) = F := ⟨_, rfl⟩
  have HSd := Lib.hid (sides_con F)
  have HNo := Lib.hid (con_nou 2 F)
  have HBd := Lib.hid (fun m x => con_bd 2 F m x)
  have HBw := Lib.hid (fun x => con_bd F 2 0 x)
  have HT := Lib.hid (msk_top F)
  have HT2 := Lib.hid (msk_top 2)
  cases a0
  all_goals
    have e0 : F = _ := hF.symm
    simp only [Bool.false_eq_true, if_false, if_true] at e0
    clear hF
    go_enter Try.func5, Try.ntmps5
    go_wp2_with (first
      | (go_at_call 6; refine (known9_any _).mono ?_; rintro e W1 ⟨rfl, hW⟩; replace HG := Lib.hid (show Grown w W1 from grown_trans HG.out hW); clear hW)
      | (go_at_call 8; refine (num_msk _ _ _ b0 b1).mono ?_; rintro e W2 ⟨⟨x, he, x0, x1⟩, hW⟩; subst he; replace HG := Lib.hid (show Grown w W2 from grown_trans HG.out hW); clear hW))
    have xt : x ≤ 4294967295 := Int.le_trans x1 HT2.out
    obtain ⟨V, hV⟩ : ∃ V, finI 2 x = V := ⟨_, rfl⟩
    have HV := Lib.hid hV
    cases V
    · clear hV HSd HNo
      go_wp2_with (go_at_call 20; refine (rfinite_any _ _ _ (by omega) (by omega)).mono ?_; rintro e w' ⟨he, dm, rfl⟩; rw [HV.out] at he; subst he)
      go_ret
      exact ⟨rfl, by repeat (first | with_reducible exact HG.out | with_reducible refine Grown.setCell ?_ (by simp <;> omega) _ | with_reducible refine Grown.alloc ?_ _ _ | with_reducible refine grown_more ?_ _ | with_reducible refine Grown.drew ?_)⟩
    · obtain ⟨s1, s2, s3, s4, s5⟩ := HSd.out x hV
      clear hV HSd
      obtain ⟨C, hC⟩ : ∃ C, clsI 2 x = C := ⟨_, rfl⟩
      have HC := Lib.hid hC
      have hz : C = 0 → conV 2 F 3 x = zerI F (fS 2 x) ∧ conV 2 F 2 x = zerI F (fS 2 x) ∧ conV 2 F 0 x = zerI F (fS 2 x) := by
        intro h
        have hn : nouB 2 x = true := by unfold nouB; rw [hC, h]; rfl
        exact ⟨HNo.out 3 x hn, HNo.out 2 x hn, HNo.out 0 x hn⟩
      obtain ⟨L, hL⟩ : ∃ L, conV 2 F 3 x = L := ⟨_, rfl⟩
      obtain ⟨H, hH⟩ : ∃ H, conV 2 F 2 x = H := ⟨_, rfl⟩
      obtain ⟨M, hM⟩ : ∃ M, conV 2 F 0 x = M := ⟨_, rfl⟩
      obtain ⟨E, hE⟩ : ∃ E, conX 2 F 3 x = E := ⟨_, rfl⟩
      obtain ⟨A, hA⟩ : ∃ A, conV F 2 0 L = A := ⟨_, rfl⟩
      obtain ⟨B, hB⟩ : ∃ B, conV F 2 0 H = B := ⟨_, rfl⟩
      obtain ⟨KA, hKA⟩ : ∃ K, keyI 2 A = K := ⟨_, rfl⟩
      obtain ⟨KB, hKB⟩ : ∃ K, keyI 2 B = K := ⟨_, rfl⟩
      obtain ⟨KX, hKX⟩ : ∃ K, keyI 2 x = K := ⟨_, rfl⟩
      have l0 : 0 ≤ L ∧ L ≤ 4294967295 := by rw [← hL]; exact ⟨(HBd.out 3 x).1, Int.le_trans (HBd.out 3 x).2 HT.out⟩
      have h0 : 0 ≤ H ∧ H ≤ 4294967295 := by rw [← hH]; exact ⟨(HBd.out 2 x).1, Int.le_trans (HBd.out 2 x).2 HT.out⟩
      have A0 : 0 ≤ A ∧ A ≤ 4294967295 := by rw [← hA]; exact ⟨(HBw.out L).1, Int.le_trans (HBw.out L).2 HT2.out⟩
      have B0 : 0 ≤ B ∧ B ≤ 4294967295 := by rw [← hB]; exact ⟨(HBw.out H).1, Int.le_trans (HBw.out H).2 HT2.out⟩
      obtain ⟨l0, l1⟩ := l0
      obtain ⟨h0, h1⟩ := h0
      obtain ⟨A0, A1⟩ := A0
      obtain ⟨B0, B1⟩ := B0
      rw [hL, hA, hKA, hKX] at s1
      rw [hH, hB, hKB, hKX] at s2
      rw [hE] at s3 s5
      rw [hL, hH, hM] at s4
      rw [hL, hH] at s5
      rw [hL, hH, hM] at hz
      replace hz : C = 0 → H = L ∧ M = L := fun h => ⟨(hz h).2.1.trans (hz h).1.symm, (hz h).2.2.trans (hz h).1.symm⟩
      have R3 := Lib.hid (show conE 2 F 3 x = .returned (.tuple #[.int .u32 L, .agg #[.bool (sigB 2 x), .bool false, .bool (conO 2 F 3 x), .bool (conU 2 F x), .bool E]]) by unfold conE; rw [hL, hE])
      have R2 := Lib.hid (show conE 2 F 2 x = .returned (.tuple #[.int .u32 H, .agg #[.bool (sigB 2 x), .bool false, .bool (conO 2 F 2 x), .bool (conU 2 F x), .bool E]]) by unfold conE; rw [hH, ← s3])
      have R0 := Lib.hid (show conE 2 F 0 x = .returned (.tuple #[.int .u32 M, .agg #[.bool (sigB 2 x), .bool false, .bool (conO 2 F 0 x), .bool (conU 2 F x), .bool (conX 2 F 0 x)]]) by unfold conE; rw [hM])
      generalize sigB 2 x = g1 at R3 R2 R0
      generalize conU 2 F x = g2 at R3 R2 R0
      generalize conO 2 F 3 x = g3 at R3
      generalize conO 2 F 2 x = g4 at R2
      generalize conO 2 F 0 x = g5 at R0
      generalize conX 2 F 0 x = g6 at R0
      have HA := Lib.hid hA
      have HB := Lib.hid hB
      have HKA := Lib.hid hKA
      have HKB := Lib.hid hKB
      have HKX := Lib.hid hKX
      clear hC hL hH hM hE hA hB hKA hKB hKX s3 HNo HBd HBw HT HT2 x1
      rcases three_asked E L H M s4 s5 with ⟨rfl, rfl⟩ | ⟨rfl, c1, rfl⟩ | ⟨rfl, rfl, rfl⟩
      all_goals
        clear s4 s5
        by_cases cz : C = 0
        all_goals
          subst e0
          first
            | (obtain ⟨z1, z2⟩ := hz cz; clear hz; (try subst z1); (try subst z2); subst cz)
            | (have czb : (C == 0) = false := (by simpa using cz); clear hz cz)
          clear b0 b1
          (try (have eAB := HA.out.symm.trans HB.out; subst eAB; have eK := HKA.out.symm.trans HKB.out; subst eK))
          go_wp2_with (go_at_call 20; refine (rfinite_any _ _ _ (by omega) (by omega)).mono ?_; rintro e w' ⟨he, dm, rfl⟩; rw [HV.out] at he; subst he)
          refine (cto_any 2 _ 3 x _ x0 xt).mono ?_
          rintro e V1 ⟨he, hW⟩
          rw [R3.out] at he
          subst he
          replace HG := Lib.hid (show Grown w V1 from grown_trans (by repeat (first | with_reducible exact HG.out | with_reducible refine Grown.setCell ?_ (by simp <;> omega) _ | with_reducible refine Grown.alloc ?_ _ _ | with_reducible refine grown_more ?_ _ | with_reducible refine Grown.drew ?_)) hW)
          clear hW
          go_wp2_with fail
          refine (cto_any 2 _ 2 x _ x0 xt).mono ?_
          rintro e V2 ⟨he, hW⟩
          rw [R2.out] at he
          subst he
          have HF1 := Lib.hid (grown_new5 hW)
          replace HG := Lib.hid (show Grown w V2 from grown_trans (by repeat (first | with_reducible exact HG.out | with_reducible refine Grown.setCell ?_ (by simp <;> omega) _ | with_reducible refine Grown.alloc ?_ _ _ | with_reducible refine grown_more ?_ _ | with_reducible refine Grown.drew ?_)) hW)
          clear hW
          go_wp2_with fail
          refine (cto_any 2 _ 0 x _ x0 xt).mono ?_
          rintro e V3 ⟨he, hW⟩
          rw [R0.out] at he
          subst he
          have HF2 := Lib.hid (grown_new5 hW)
          replace HF1 := Lib.hid (HF1.out.grown (grown_trans (by repeat (first | with_reducible exact Grown.refl _ | with_reducible refine Grown.setCell ?_ (by simp <;> omega) _ | with_reducible refine Grown.alloc ?_ _ _ | with_reducible refine grown_more ?_ _ | with_reducible refine Grown.drew ?_)) hW))
          replace HG := Lib.hid (show Grown w V3 from grown_trans (by repeat (first | with_reducible exact HG.out | with_reducible refine Grown.setCell ?_ (by simp <;> omega) _ | with_reducible refine Grown.alloc ?_ _ _ | with_reducible refine grown_more ?_ _ | with_reducible refine Grown.drew ?_)) hW)
          clear hW R3 R2 R0
          go_wp2_with (first
            | (go_at_call 21; refine (rkey_any _ _ _ (by omega) (by omega)).mono ?_; rintro e W5 ⟨he, dm, rfl⟩; (first | rw [HKX.out] at he | rw [HKA.out] at he | rw [HKB.out] at he); subst he)
            | (go_at_call 17; refine (rclass_any _ _ _ (by omega) (by omega)).mono ?_; rintro e W6 ⟨he, dm, rfl⟩; rw [HC.out] at he; subst he)
            | (go_at_call 12; refine (cwiden_any _ _ _ (by omega) (by omega)).mono ?_; rintro e W7 ⟨he, hW⟩; (first | rw [HA.out] at he | rw [HB.out] at he); subst he; replace HG := Lib.hid (show Grown w W7 from grown_trans (by repeat (first | with_reducible exact HG.out | with_reducible refine Grown.setCell ?_ (by simp <;> omega) _ | with_reducible refine Grown.alloc ?_ _ _ | with_reducible refine grown_more ?_ _ | with_reducible refine Grown.drew ?_)) hW); replace HF1 := Lib.hid (HF1.out.grown (grown_trans (by repeat (first | with_reducible exact Grown.refl _ | with_reducible refine Grown.setCell ?_ (by simp <;> omega) _ | with_reducible refine Grown.alloc ?_ _ _ | with_reducible refine grown_more ?_ _ | with_reducible refine Grown.drew ?_)) hW)); replace HF2 := Lib.hid (HF2.out.grown (grown_trans (by repeat (first | with_reducible exact Grown.refl _ | with_reducible refine Grown.setCell ?_ (by simp <;> omega) _ | with_reducible refine Grown.alloc ?_ _ _ | with_reducible refine grown_more ?_ _ | with_reducible refine Grown.drew ?_)) hW)); (try clear m1 m2 m3 m4 m5 m6 n1 n2 n3 n4 n5 n6); obtain ⟨m1, m2, m3, m4, m5, m6⟩ := HF1.out; obtain ⟨n1, n2, n3, n4, n5, n6⟩ := HF2.out; clear hW))
          all_goals
            go_ret
            exact ⟨rfl, by repeat (first | with_reducible exact HG.out | with_reducible refine Grown.setCell ?_ (by simp <;> omega) _ | with_reducible refine Grown.alloc ?_ _ _ | with_reducible refine grown_more ?_ _ | with_reducible refine Grown.drew ?_)⟩
end Go.Proofs.Ythhaiekcdemlmaa
