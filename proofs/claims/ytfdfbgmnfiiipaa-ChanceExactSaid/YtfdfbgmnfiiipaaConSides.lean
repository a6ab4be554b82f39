/- On which side a narrowed number stands (no program here). -/
import Derived.Test.YtfdfbgmnfiiipaaConMath
namespace Go.Proofs.Ytfdfbgmnfiiipaa
open Go.RowKit
set_option linter.unusedVariables false
set_option linter.unusedSimpArgs false

/-- Bits of a place. -/
theorem mag_parts (f : Int) (s : Bool) (M : Nat) (h : M ≤ greN f) :
    fS f (zerI f s + M) = s ∧ finI f (zerI f s + M) = true ∧ aN f (zerI f s + M) = M ∧ 0 ≤ zerI f s + M ∧ zerI f s + M ≤ msk f := by
  have hg := gre_is f
  have hH := hid_pos f
  have e := Int.mul_ediv_add_emod (M : Int) (hid f)
  have m0 := Int.emod_nonneg (M : Int) (b := hid f) (by omega)
  have m1 := Int.emod_lt_of_pos (M : Int) hH
  have d0 : 0 ≤ (M : Int) / hid f := Int.ediv_nonneg (by omega) (by omega)
  have d1 : (M : Int) / hid f < topx f := Int.ediv_lt_of_lt_mul hH (by omega)
  obtain ⟨p1, p2, p3, p4, p5, p6, p7⟩ := parts_make f s ((M : Int) / hid f) ((M : Int) % hid f) (zerI f s + M) d0 d1 m0 m1 (by rw [Int.mul_comm] at e; omega)
  exact ⟨p3, p7, by unfold aN; rw [p1, p2, Int.mul_comm]; exact e, p4, p5⟩

theorem mag_inf (f : Int) (s : Bool) : zerI f s + ((greN f + 1 : Nat) : Int) = infI f s := by
  have := gre_is f
  unfold infI; omega

theorem fin_kind (f x : Int) (h : finI f x = true) : nanB f x = false ∧ infB f x = false := by
  rcases three_kinds f x with ⟨a, b, c⟩ | ⟨a, b, c, _⟩ | ⟨a, b, c, _⟩
  · rw [h] at c; exact absurd c (by decide)
  · rw [h] at c; exact absurd c (by decide)
  · exact ⟨a, b⟩

theorem con_of_fin (f g mode x : Int) (h : finI f x = true) : conV f g mode x = rdV g mode (fS f x) (numN f x) ∧ conX f g mode x = inexB g (numN f x) := by
  obtain ⟨a, b⟩ := fin_kind f x h
  unfold conV conX; simp [a, b, rdX_is]

/-- Cut, and widened again: not further from nought. -/
theorem side_in (f x : Int) (hx : finI 2 x = true) :
    fS 2 (conV f 2 0 (zerI f (fS 2 x) + zeroN f (numN 2 x))) = fS 2 x ∧ aN 2 (conV f 2 0 (zerI f (fS 2 x) + zeroN f (numN 2 x))) ≤ aN 2 x := by
  have hz : zeroN f (numN 2 x) ≤ greN f := by unfold zeroN; split <;> omega
  have hb : zeroN f (numN 2 x) ≤ baseN f (numN 2 x) := by unfold zeroN; split <;> omega
  obtain ⟨r1, r2, r3, r4, r5⟩ := mag_parts f (fS 2 x) _ hz
  obtain ⟨z, hz, z0, z1, z2, z3, z4⟩ := wide_is f 0 _ r4 r5 r2
  rw [hz, z3, r1]
  refine ⟨rfl, (num_line 2 z x z2 hx).1 ?_⟩
  rw [z4]
  exact (num_le f _ _ r2).2 (by omega)

/-- Rounded away, and widened again: not nearer to nought. -/
theorem side_out (f x : Int) (M : Nat) (hx : finI 2 x = true) (hM : (inexB f (numN 2 x) = false ∧ M = zeroN f (numN 2 x)) ∨ (inexB f (numN 2 x) = true ∧ M = zeroN f (numN 2 x) + 1)) :
    fS 2 (conV f 2 0 (zerI f (fS 2 x) + M)) = fS 2 x ∧ aN 2 x ≤ aN 2 (conV f 2 0 (zerI f (fS 2 x) + M)) := by
  have hx1 := (a_bd 2 x).2 (fin_lt 2 x hx)
  have hz : zeroN f (numN 2 x) ≤ greN f := by unfold zeroN; split <;> omega
  have hi : inexB f (numN 2 x) = true ↔ greN f < baseN f (numN 2 x) ∨ catN f (numN 2 x) ≠ 0 := by unfold inexB; rw [Bool.or_eq_true, decide_eq_true_eq, bne_iff_ne]
  have ht : (catN f (numN 2 x) != 0).toNat ≤ 1 := Bool.toNat_le _
  by_cases c : M ≤ greN f
  · obtain ⟨r1, r2, r3, r4, r5⟩ := mag_parts f (fS 2 x) M c
    obtain ⟨z, hz, z0, z1, z2, z3, z4⟩ := wide_is f 0 _ r4 r5 r2
    rw [hz, z3, r1]
    refine ⟨rfl, (num_line 2 x z hx z2).1 ?_⟩
    rw [z4]
    refine (num_ge f _ _ r2).2 ?_
    rw [r3]
    rcases hM with ⟨h, e⟩ | ⟨h, e⟩
    · have hn : ¬ (greN f < baseN f (numN 2 x) ∨ catN f (numN 2 x) ≠ 0) := by rw [← hi, h]; decide
      have hc : catN f (numN 2 x) = 0 := by omega
      rw [hc]
      have : zeroN f (numN 2 x) = baseN f (numN 2 x) := by unfold zeroN; rw [if_pos (by omega)]
      simp; omega
    · have : zeroN f (numN 2 x) = baseN f (numN 2 x) := by
        unfold zeroN
        unfold zeroN at e
        split
        · rfl
        · rename_i hn; rw [if_neg hn] at e; omega
      omega
  · have e : M = greN f + 1 := by omega
    rw [e, mag_inf]
    obtain ⟨i1, i2, i3⟩ := inf_is f (fS 2 x)
    have hs := (sgb_low f (fS 2 x)).2.2.1
    rw [show conV f 2 0 (infI f (fS 2 x)) = infI 2 (fS 2 x) by unfold conV; simp [i1, i2, hs]]
    rw [a_inf]
    exact ⟨(sgb_low 2 (fS 2 x)).2.2.1, by omega⟩

/-- Down isn't above, up isn't below; the nearest is one of both; what is exact is one. -/
theorem sides_con (f x : Int) (hx : finI 2 x = true) :
    keyI 2 (conV f 2 0 (conV 2 f 3 x)) ≤ keyI 2 x ∧ keyI 2 x ≤ keyI 2 (conV f 2 0 (conV 2 f 2 x)) ∧ conX 2 f 3 x = conX 2 f 2 x
      ∧ (conV 2 f 0 x = conV 2 f 3 x ∨ conV 2 f 0 x = conV 2 f 2 x) ∧ (conX 2 f 3 x = true ∨ conV 2 f 3 x = conV 2 f 2 x) := by
  obtain ⟨v3, x3⟩ := con_of_fin 2 f 3 x hx
  obtain ⟨v2, x2⟩ := con_of_fin 2 f 2 x hx
  obtain ⟨v0, x0⟩ := con_of_fin 2 f 0 x hx
  rw [x3, x2]
  have hin := side_in f x hx
  have hout := side_out f x
  obtain ⟨s, hs⟩ : ∃ s, fS 2 x = s := ⟨_, rfl⟩
  rw [hs] at v3 v2 v0 hin hout
  have near := mag_other f 0 s (numN 2 x) (by cases s <;> rfl)
  unfold rdV at v3 v2 v0
  cases s
  · have e3 := mag_zero f 3 false (numN 2 x) rfl (by simp [growB])
    have e2 := mag_away f 2 false (numN 2 x) rfl (by simp [growB])
    have ho := hout (magN f 2 false (numN 2 x)) hx e2
    rw [e3] at v3
    rw [v3, v2, v0]
    rw [key_a, key_a, key_a, hin.1, ho.1, hs]
    simp only [Bool.false_eq_true, if_false, true_and]
    refine ⟨hin.2, ho.2, ?_, ?_⟩
    · rcases near with h | ⟨h, g⟩
      · left; rw [h]
      · right; rw [g]
        rcases e2 with ⟨k, _⟩ | ⟨_, k⟩
        · rw [h] at k; exact absurd k (by decide)
        · rw [k]
    · rcases e2 with ⟨_, k⟩ | ⟨k, _⟩
      · right; rw [k]
      · left; exact k
  · have e3 := mag_zero f 2 true (numN 2 x) rfl (by simp [growB])
    have e2 := mag_away f 3 true (numN 2 x) rfl (by simp [growB])
    have ho := hout (magN f 3 true (numN 2 x)) hx e2
    rw [e3] at v2
    rw [v3, v2, v0]
    rw [key_a, key_a, key_a, hin.1, ho.1, hs]
    simp only [if_true, true_and]
    refine ⟨by have := ho.2; omega, by have := hin.2; omega, ?_, ?_⟩
    · rcases near with h | ⟨h, g⟩
      · right; rw [h]
      · left; rw [g]
        rcases e2 with ⟨k, _⟩ | ⟨_, k⟩
        · rw [h] at k; exact absurd k (by decide)
        · rw [k]
    · rcases e2 with ⟨_, k⟩ | ⟨k, _⟩
      · right; rw [k]
      · left; exact k

/-- A nought is a nought in each mode. -/
theorem con_nou (f g mode x : Int) (h : nouB f x = true) : conV f g mode x = zerI g (fS f x) := by
  have c := cls_cases f x
  have ht := topx_pos f
  unfold nouB at h
  rw [beq_iff_eq] at h
  have hx : fX f x = 0 := by omega
  have hF : fF f x = 0 := by omega
  have hf : finI f x = true := by unfold finI; rw [hx]; exact decide_eq_true (by omega)
  have hm : unM f x = 0 := by unfold unM; rw [hx, hF, if_neg (by omega), if_pos rfl]
  have hn : numN f x = 0 := by unfold numN; rw [hm]; simp
  rw [(con_of_fin f g mode x hf).1, hn, (rd_zero g mode (fS f x)).1]
end Go.Proofs.Ytfdfbgmnfiiipaa
