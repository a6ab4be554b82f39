/- The walk of PhiloxWords. -/
import Derived.Test.YtjedegeajkpmaaaPhKnown
namespace Go.Proofs.Ytjedegeajkpmaaa
open Go.RowKit
set_option linter.unusedVariables false
set_option linter.unusedSimpArgs false

theorem word_part (seed stream n : Int) (i : Nat) (n0 : 0 ≤ n) (hi : i < 4) : phWord seed stream (n / 4 * 4 + i) = phAt (phN (phA seed stream n) 10) i := by
  unfold phWord phA
  have h1 : (n / 4 * 4 + (i : Int)) / 4 = n / 4 := by omega
  have h2 : (n / 4 * 4 + (i : Int)) % 4 = i := by omega
  rw [h1, h2]

theorem below_none (seed stream n : Int) : phBelow seed stream n 0 = 0 := by unfold phBelow; simp

theorem below_one (seed stream n : Int) (h0 : 0 ≤ phWord seed stream n) (h1 : phWord seed stream n ≤ 4294967295) : phBelow seed stream n 1 = 0 := by unfold phBelow; omega

set_option maxRecDepth 100000 in
set_option maxHeartbeats 8000000 in
theorem pwords_walk (a0 a1 a2 : Int) (w0 : (Lit.int .u64 a0).wf = true) (w1 : (Lit.int .u32 a1).wf = true) (w2 : (Lit.int .u64 a2).wf = true) (w : World) :
    Calls Try.prog 5 #[.int .u64 a0, .int .u32 a1, .int .u64 a2] w fun e w' => e = .returned (.bool true) ∧ Grown w w' := by
  obtain ⟨b0, b1⟩ := bounds_u64 w0
  obtain ⟨b2, b3⟩ := bounds_u32 w1
  obtain ⟨b4, b5⟩ := bounds_u64 w2
  clear w0 w1 w2
  obtain ⟨v0, v1⟩ := phWord_bd a0 a1 a2 b0 b1 b2 b3 b4 b5
  have HL := Lib.hid (And.intro (below_none a0 a1 a2) (below_one a0 a1 a2 v0 v1))
  clear v0 v1
  have hA := phA_word a0 a1 a2 b0 b1 b2 b3 b4 b5
  have hp := fun (i : Nat) (hi : i < 4) => word_part a0 a1 a2 i b4 hi
  obtain ⟨D, hD⟩ : ∃ D, a2 / 4 = D := ⟨_, rfl⟩
  have d0 : 0 ≤ D ∧ D ≤ 4611686018427387903 := by omega
  obtain ⟨d0, d1⟩ := d0
  have HV : phA a0 a1 a2 = ⟨a0 % 4294967296, a0 / 4294967296, D % 4294967296, D / 4294967296, a1, 0⟩ := by unfold phA; rw [hD]
  obtain ⟨S, hS⟩ : ∃ S, phN (phA a0 a1 a2) 10 = S := ⟨_, rfl⟩
  rw [hD, hS] at hp
  have HB := Lib.hid (show ∀ w, Calls Try.prog 12 #[.agg #[.int .u32 (a0 % 4294967296), .int .u32 (a0 / 4294967296)], .agg #[.int .u32 (D % 4294967296), .int .u32 (D / 4294967296), .int .u32 a1, .int .u32 0]] w
      fun e w' => e = .returned (.agg #[.int .u32 S.c0, .int .u32 S.c1, .int .u32 S.c2, .int .u32 S.c3]) ∧ Grown w w' from fun w => by
    have hb := pblock_any (phA a0 a1 a2) w hA
    rw [hS, HV] at hb
    exact hb)
  obtain ⟨k0, k1, c0, c1, c2, c3⟩ := S
  dsimp only at HB
  have p0 := hp 0 (by omega)
  have p1 := hp 1 (by omega)
  have p2 := hp 2 (by omega)
  have p3 := hp 3 (by omega)
  have HP := Lib.hid (show phWord a0 a1 (D * 4) = c0 ∧ phWord a0 a1 (D * 4 + 1) = c1 ∧ phWord a0 a1 (D * 4 + 2) = c2 ∧ phWord a0 a1 (D * 4 + 3) = c3 from
    ⟨by rw [show D * 4 = D * 4 + ((0 : Nat) : Int) by omega]; exact p0, p1, p2, p3⟩)
  clear hA HV hS hp p0 p1 p2 p3
  have HG := Lib.hid (Grown.refl w)
  have q1 : IntKind.u64.wrap (D * 4) = D * 4 := by rw [IntKind.wrap_u64]; omega
  have q2 : IntKind.u64.wrap (D * 4 + 1) = D * 4 + 1 := by rw [IntKind.wrap_u64]; omega
  have q3 : IntKind.u64.wrap (D * 4 + 2) = D * 4 + 2 := by rw [IntKind.wrap_u64]; omega
  have q4 : IntKind.u64.wrap (D * 4 + 3) = D * 4 + 3 := by rw [IntKind.wrap_u64]; omega
  have r1 : IntKind.u32.wrap (a0 / 4294967296) = a0 / 4294967296 := by rw [IntKind.wrap_u32]; omega
  have r2 : IntKind.u32.wrap (D / 4294967296) = D / 4294967296 := by rw [IntKind.wrap_u32]; omega
  go_enter Try.func5, Try.ntmps5
  go_wp2_with (go_at_call 7; refine (known10_any _).mono ?_; rintro e W1 ⟨rfl, hW⟩; replace HG := Lib.hid (show Grown w W1 from grown_trans HG.out hW); clear hW)
  clear hD
  refine (HB.out _).mono ?_
  rintro e W2 ⟨he, hW⟩
  subst he
  replace HG := Lib.hid (show Grown w W2 from grown_trans HG.out hW)
  clear hW
  go_wp2
  have HF := Lib.hid (four_new (c0 := c0) (c1 := c1) (c2 := c2) (c3 := c3) (t := 24) (w := W2))
  replace HG := Lib.hid (Grown.alloc HG.out #[.int .u32 c0, .int .u32 c1, .int .u32 c2, .int .u32 c3] 24)
  generalize W2.heap.size = b at HF ⊢
  generalize (W2.alloc _) = W3 at HF HG ⊢
  obtain ⟨y, y0, y1, y2, y3⟩ := HF.out
  refine wp_loop_rounds 5 ?_
  iterate 4
    (rw [rounds_succ]
     go_wp2_with fail
     go_region_held3 (fun w' => w'.cell? ⟨b, 0, none⟩ = some (.int .u32 c0) ∧ w'.cell? ⟨b, 1, none⟩ = some (.int .u32 c1) ∧ w'.cell? ⟨b, 2, none⟩ = some (.int .u32 c2) ∧ w'.cell? ⟨b, 3, none⟩ = some (.int .u32 c3)) (go_keep) (first
       | (go_at_call 8; refine (pword_any _ _ _ _ b0 b1 b2 b3 (by omega) (by omega)).mono ?_; rintro e W4 ⟨he, hW⟩; (first | rw [HP.out.1] at he | rw [HP.out.2.1] at he | rw [HP.out.2.2.1] at he | rw [HP.out.2.2.2] at he); subst he; replace HG := Lib.hid (show Grown w W4 from grown_trans (by repeat (first | with_reducible exact HG.out | with_reducible refine Grown.setCell ?_ (by simp <;> omega) _ | with_reducible refine Grown.alloc ?_ _ _ | with_reducible refine grown_more ?_ _ | with_reducible refine Grown.drew ?_)) hW); replace HF := Lib.hid (HF.out.grown (grown_trans (by repeat (first | with_reducible exact Grown.refl _ | with_reducible refine Grown.setCell ?_ (by simp <;> omega) _ | with_reducible refine Grown.alloc ?_ _ _ | with_reducible refine grown_more ?_ _ | with_reducible refine Grown.drew ?_)) hW)); clear hW y y0 y1 y2 y3; obtain ⟨y, y0, y1, y2, y3⟩ := HF.out))
     go_wp2)
  rw [rounds_succ]
  go_wp2_with (go_at_call 10; refine (pbelow_any _ _ _ _ _ b0 b1 b2 b3 b4 b5 (by omega) (by omega)).mono ?_; rintro e W5 ⟨he, hW⟩; (first | rw [HL.out.1] at he | rw [HL.out.2] at he); subst he; replace HG := Lib.hid (show Grown w W5 from grown_trans (by repeat (first | with_reducible exact HG.out | with_reducible refine Grown.setCell ?_ (by simp <;> omega) _ | with_reducible refine Grown.alloc ?_ _ _ | with_reducible refine grown_more ?_ _ | with_reducible refine Grown.drew ?_)) hW); clear hW)
  go_ret
  exact ⟨rfl, by repeat (first | with_reducible exact HG.out | with_reducible refine Grown.setCell ?_ (by simp <;> omega) _ | with_reducible refine Grown.alloc ?_ _ _ | with_reducible refine grown_more ?_ _ | with_reducible refine Grown.drew ?_)⟩
end Go.Proofs.Ytjedegeajkpmaaa
