/- The walk of PhiloxTurned. -/
import Derived.Test.YtjedegeajkpmaaaPhKnown
namespace Go.Proofs.Ytjedegeajkpmaaa
open Go.RowKit
set_option linter.unusedVariables false
set_option linter.unusedSimpArgs false

theorem same_blocks (k0 k1 : Int) (s t : Ph) (hs : PhW s) (ht : PhW t) (e0 : s.k0 = t.k0) (e1 : s.k1 = t.k1) :
    ((phN s 10).c0 == (phN t 10).c0 && ((phN s 10).c1 == (phN t 10).c1 && ((phN s 10).c2 == (phN t 10).c2 && (phN s 10).c3 == (phN t 10).c3)))
      = (s.c0 == t.c0 && (s.c1 == t.c1 && (s.c2 == t.c2 && s.c3 == t.c3))) := by
  rw [Bool.eq_iff_iff]
  simp only [Bool.and_eq_true, beq_iff_eq]
  constructor
  · rintro ⟨a, b, c, d⟩
    exact phN_inj hs ht e0 e1 10 a b c d
  · rintro ⟨a, b, c, d⟩
    have : s = t := by
      obtain ⟨_, _, _, _, _, _⟩ := s
      obtain ⟨_, _, _, _, _, _⟩ := t
      simp_all
    subst this
    exact ⟨rfl, rfl, rfl, rfl⟩

/-- A block of two words. -/
def TwoI (b : Nat) (c0 c1 : Int) (W : World) : Prop :=
  b < W.heap.size ∧ W.cell? ⟨b, 0, none⟩ = some (.int .u32 c0) ∧ W.cell? ⟨b, 1, none⟩ = some (.int .u32 c1)

theorem TwoI.grown {b : Nat} {c0 c1 : Int} {W W' : World} (h : TwoI b c0 c1 W) (g : Grown W W') : TwoI b c0 c1 W' := by
  obtain ⟨h0, h1, h2⟩ := h
  exact ⟨Nat.lt_of_lt_of_le h0 g.2.2, grown_cell g h1 h0, grown_cell g h2 h0⟩

theorem two_newI {c0 c1 : Int} {t : TypeId} {w : World} : TwoI w.heap.size c0 c1 (w.alloc (.cells #[.int .u32 c0, .int .u32 c1] t)) := by
  refine ⟨by show w.heap.size < (w.heap.push _).size; simp, ?_, ?_⟩ <;> rw [World.cell?_alloc_at (hn := rfl)] <;> rfl

theorem four_newI {c0 c1 c2 c3 : Int} {t : TypeId} {w : World} {b : Nat} (hb : b = w.heap.size) : FourI b c0 c1 c2 c3 (w.alloc (.cells #[.int .u32 c0, .int .u32 c1, .int .u32 c2, .int .u32 c3] t)) := by
  subst hb; exact four_new

theorem size_one {w : World} {A : Obj} : w.heap.size + 1 = (w.alloc A).heap.size := by show _ = (w.heap.push _).size; simp

theorem size_two {w : World} {A B : Obj} : w.heap.size + 1 + 1 = ((w.alloc A).alloc B).heap.size := by show _ = ((w.heap.push _).push _).size; simp

set_option maxRecDepth 100000 in
set_option maxHeartbeats 8000000 in
theorem pturned_walk (k0 k1 a0 a1 a2 a3 c0 c1 c2 c3 : Int) (hA : PhW ⟨k0, k1, a0, a1, a2, a3⟩) (hC : PhW ⟨k0, k1, c0, c1, c2, c3⟩) (w : World) :
    Calls Try.prog 6 #[.agg #[.int .u32 k0, .int .u32 k1], .agg #[.int .u32 a0, .int .u32 a1, .int .u32 a2, .int .u32 a3], .agg #[.int .u32 c0, .int .u32 c1, .int .u32 c2, .int .u32 c3]] w fun e w' => e = .returned (.bool true) ∧ Grown w w' := by
  have hsame := same_blocks k0 k1 ⟨k0, k1, a0, a1, a2, a3⟩ ⟨k0, k1, c0, c1, c2, c3⟩ hA hC rfl rfl
  have HP := Lib.hid (fun w => pblock_any ⟨k0, k1, a0, a1, a2, a3⟩ w hA)
  have HQ := Lib.hid (fun w => pblock_any ⟨k0, k1, c0, c1, c2, c3⟩ w hC)
  generalize phN ⟨k0, k1, a0, a1, a2, a3⟩ 10 = S at HP hsame
  generalize phN ⟨k0, k1, c0, c1, c2, c3⟩ 10 = T at HQ hsame
  obtain ⟨s4, s5, s0, s1, s2, s3⟩ := S
  obtain ⟨t4, t5, t0, t1, t2, t3⟩ := T
  dsimp only [phV] at HP HQ hsame
  clear hA hC
  obtain ⟨X, hX⟩ : ∃ X, (a0 == c0 && (a1 == c1 && (a2 == c2 && a3 == c3))) = X := ⟨_, rfl⟩
  rw [hX] at hsame
  have hE1 : ∀ w, (Op.equalIn 10000 24 (.agg #[.int .u32 s0, .int .u32 s1, .int .u32 s2, .int .u32 s3]) (.agg #[.int .u32 t0, .int .u32 t1, .int .u32 t2, .int .u32 t3])).run Try.prog w = .ok X w := fun w => by rw [run_eq_four, hsame]
  have hE2 : ∀ w, (Op.equalIn 10000 24 (.agg #[.int .u32 a0, .int .u32 a1, .int .u32 a2, .int .u32 a3]) (.agg #[.int .u32 c0, .int .u32 c1, .int .u32 c2, .int .u32 c3])).run Try.prog w = .ok X w := fun w => by rw [run_eq_four, hX]
  clear hX hsame
  go_enter Try.func6, Try.ntmps6
  go_wp2_with fail
  have HG := Lib.hid (Grown.alloc (Grown.alloc (Grown.alloc (Grown.refl w) #[.int .u32 k0, .int .u32 k1] 23) #[.int .u32 a0, .int .u32 a1, .int .u32 a2, .int .u32 a3] 24) #[.int .u32 c0, .int .u32 c1, .int .u32 c2, .int .u32 c3] 24)
  have H1 := Lib.hid (((two_newI (c0 := k0) (c1 := k1) (t := 23) (w := w)).grown (Grown.alloc (Grown.refl _) #[.int .u32 a0, .int .u32 a1, .int .u32 a2, .int .u32 a3] 24)).grown (Grown.alloc (Grown.refl _) #[.int .u32 c0, .int .u32 c1, .int .u32 c2, .int .u32 c3] 24))
  have H2 := Lib.hid ((four_newI (c0 := a0) (c1 := a1) (c2 := a2) (c3 := a3) (t := 24) (size_one (w := w) (A := .cells #[.int .u32 k0, .int .u32 k1] 23))).grown (Grown.alloc (Grown.refl _) #[.int .u32 c0, .int .u32 c1, .int .u32 c2, .int .u32 c3] 24))
  have H3 := Lib.hid (four_newI (c0 := c0) (c1 := c1) (c2 := c2) (c3 := c3) (t := 24) (size_two (w := w) (A := .cells #[.int .u32 k0, .int .u32 k1] 23) (B := .cells #[.int .u32 a0, .int .u32 a1, .int .u32 a2, .int .u32 a3] 24)))
  generalize (((w.alloc _).alloc _).alloc _) = W4 at HG H1 H2 H3 ⊢
  generalize w.heap.size + 1 + 1 = e3 at H3 ⊢
  generalize w.heap.size + 1 = e2 at H2 ⊢
  generalize w.heap.size = e1 at H1 ⊢
  refine (known10_any _).mono ?_
  rintro e W5 ⟨rfl, hW⟩
  replace HG := Lib.hid (show Grown w W5 from grown_trans HG.out hW)
  replace H1 := Lib.hid (H1.out.grown hW)
  replace H2 := Lib.hid (H2.out.grown hW)
  replace H3 := Lib.hid (H3.out.grown hW)
  clear hW
  obtain ⟨x, x0, x1⟩ := H1.out
  obtain ⟨y, y0, y1, y2, y3⟩ := H2.out
  obtain ⟨z, z0, z1, z2, z3⟩ := H3.out
  go_wp2_with fail
  go_region_held3 (fun w' => w'.cell? ⟨e1, 0, none⟩ = some (.int .u32 k0) ∧ w'.cell? ⟨e1, 1, none⟩ = some (.int .u32 k1) ∧ w'.cell? ⟨e2, 0, none⟩ = some (.int .u32 a0) ∧ w'.cell? ⟨e2, 1, none⟩ = some (.int .u32 a1) ∧ w'.cell? ⟨e2, 2, none⟩ = some (.int .u32 a2) ∧ w'.cell? ⟨e2, 3, none⟩ = some (.int .u32 a3) ∧ w'.cell? ⟨e3, 0, none⟩ = some (.int .u32 c0) ∧ w'.cell? ⟨e3, 1, none⟩ = some (.int .u32 c1) ∧ w'.cell? ⟨e3, 2, none⟩ = some (.int .u32 c2) ∧ w'.cell? ⟨e3, 3, none⟩ = some (.int .u32 c3)) (go_keep) (first | (go_at_call 12; (first | with_reducible refine (HP.out _).mono ?_ | with_reducible refine (HQ.out _).mono ?_); rintro e W6 ⟨he, hW⟩; subst he; replace HG := Lib.hid (show Grown w W6 from grown_trans (by repeat (first | with_reducible exact HG.out | with_reducible refine Grown.setCell ?_ (by simp <;> omega) _ | with_reducible refine Grown.alloc ?_ _ _ | with_reducible refine grown_more ?_ _ | with_reducible refine Grown.drew ?_)) hW); replace H1 := Lib.hid (H1.out.grown (grown_trans (by repeat (first | with_reducible exact Grown.refl _ | with_reducible refine Grown.setCell ?_ (by simp <;> omega) _ | with_reducible refine Grown.alloc ?_ _ _ | with_reducible refine grown_more ?_ _ | with_reducible refine Grown.drew ?_)) hW)); replace H2 := Lib.hid (H2.out.grown (grown_trans (by repeat (first | with_reducible exact Grown.refl _ | with_reducible refine Grown.setCell ?_ (by simp <;> omega) _ | with_reducible refine Grown.alloc ?_ _ _ | with_reducible refine grown_more ?_ _ | with_reducible refine Grown.drew ?_)) hW)); replace H3 := Lib.hid (H3.out.grown (grown_trans (by repeat (first | with_reducible exact Grown.refl _ | with_reducible refine Grown.setCell ?_ (by simp <;> omega) _ | with_reducible refine Grown.alloc ?_ _ _ | with_reducible refine grown_more ?_ _ | with_reducible refine Grown.drew ?_)) hW)); clear hW x x0 x1 y y0 y1 y2 y3 z z0 z1 z2 z3; obtain ⟨x, x0, x1⟩ := H1.out; obtain ⟨y, y0, y1, y2, y3⟩ := H2.out; obtain ⟨z, z0, z1, z2, z3⟩ := H3.out))
  go_wp2
  all_goals
    go_ret
    exact ⟨by simp, by repeat (first | with_reducible exact HG.out | with_reducible refine Grown.setCell ?_ (by simp <;> omega) _ | with_reducible refine Grown.alloc ?_ _ _ | with_reducible refine grown_more ?_ _ | with_reducible refine Grown.drew ?_)⟩
end Go.Proofs.Ytjedegeajkpmaaa
