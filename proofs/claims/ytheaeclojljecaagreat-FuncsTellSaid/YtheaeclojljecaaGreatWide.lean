/- Contracts of the reference's wide numbers: spread, nought, below. -/
import Derived.Test.YtheaeclojljecaaGreatRows
import Derived.Test.YtheaeclojljecaaGreatRFmt
import Derived.Test.YtheaeclojljecaaGreatWorld
import Derived.Test.YtheaeclojljecaaGreatLimbs
import Derived.Lib.Hide
import Derived.Handy
import Derived.DeepKeys
import Derived.KernelRfl
import Derived.Deep.QuietTactic
import Derived.BigQuiet
namespace Go.Proofs.YtheaeclojljecaaGreat
open Go.RowKit
set_option linter.unusedVariables false
set_option linter.unusedSimpArgs false

/-! Contracts of the reference's wide numbers. -/
theorem results_cell1 {fn : Func} {p : Tmp} {ty : TypeId} (h : fn.results = #[.cell p ty]) (tmps : Array Value) (P : Program) (w : World) :
    (results fn tmps).run P w = ((asAddr (tmps.getD p undef)).run P w).andThen fun a w₁ => (loadVar ty a).run P w₁ := by
  simp only [results, h]
  simp [Sem.run_bind, Result.andThen]

set_option maxRecDepth 100000 in
set_option maxHeartbeats 8000000 in
theorem spread_any (neg : Bool) (exp sig : Int) (w : World) (A B : Nat) (hA : A < 10) (hB : B < 64) (he : exp + 298 = 64 * A + B) (s0 : 0 ≤ sig) (s1 : sig ≤ 18446744073709551615) :
    Calls Tryz.prog 104 #[.bool neg, .int .i64 exp, .int .u64 sig] w fun e w' => e = .returned (wideV neg (sprN sig.toNat A B)) ∧ Grown w w' := by
  have hq : (exp + 298) / 64 = A := by omega
  have hr : (exp + 298) % 64 = B := by omega
  have hx0 : -298 ≤ exp := by omega
  have hx1 : exp ≤ 400 := by omega
  have L : Hid (∀ i, limb (sprN sig.toNat A B) i = if i = A then (if B = 0 then sig else IntKind.u64.wrap (sig * 2 ^ B)) else if i = A + 1 then (if B = 0 then 0 else sig / 2 ^ (64 - B)) else 0) := by
    intro i
    obtain ⟨S, rfl⟩ := Int.eq_ofNat_of_zero_le s0
    rw [Int.toNat_natCast]
    split
    · subst i
      rw [spr_at]
      split
      · subst B; simp; omega
      · rw [IntKind.wrap_u64, pow2_cast, ← Int.natCast_mul]; omega
    · split
      · subst i
        rw [spr_next S A B (by omega) hB]
        split
        · subst B; simp; omega
        · rw [spr_div S B (by omega) hB, pow2_cast, ← Int.natCast_ediv]
      · rcases Nat.lt_trichotomy i A with h | h | h
        · exact spr_low S A B i h
        · exact absurd h (by assumption)
        · exact spr_high S A B i (by omega) hB (by omega)
  clear he
  have hA' : A = 0 ∨ A = 1 ∨ A = 2 ∨ A = 3 ∨ A = 4 ∨ A = 5 ∨ A = 6 ∨ A = 7 ∨ A = 8 ∨ A = 9 := by omega
  clear hA
  rcases hA' with rfl | rfl | rfl | rfl | rfl | rfl | rfl | rfl | rfl | rfl
  all_goals
    rcases Nat.eq_zero_or_pos B with hB0 | hB0
    all_goals
      try subst hB0
      go_enter Tryz.func104, Tryz.ntmps104
      go_wp2
      (try simp only [Exit.inBlock, Exit.then])
      refine bodyPost_ret (v := wideV neg (sprN sig.toNat _ _)) ?_ rfl ⟨rfl, Grown.alloc (Grown.alloc (Grown.refl _) _ _) _ _⟩
      rw [results_cell1 rfl]
      unfold wideV
      go_simp
    all_goals
      have l := L.out
      simp [l]
      try omega

/-! Contracts of the reference's wide numbers: is it nought, which is below. -/
theorem lits10 (a0 a1 a2 a3 a4 a5 a6 a7 a8 a9 : Int) (h0 : (Lit.int .u64 a0).wf = true) (h1 : (Lit.int .u64 a1).wf = true) (h2 : (Lit.int .u64 a2).wf = true) (h3 : (Lit.int .u64 a3).wf = true) (h4 : (Lit.int .u64 a4).wf = true) (h5 : (Lit.int .u64 a5).wf = true) (h6 : (Lit.int .u64 a6).wf = true) (h7 : (Lit.int .u64 a7).wf = true) (h8 : (Lit.int .u64 a8).wf = true) (h9 : (Lit.int .u64 a9).wf = true) :
    (Tryz.prog).keyLits 100 75 [.int .u64 a0, .int .u64 a1, .int .u64 a2, .int .u64 a3, .int .u64 a4, .int .u64 a5, .int .u64 a6, .int .u64 a7, .int .u64 a8, .int .u64 a9] = some [.int .u64 a0, .int .u64 a1, .int .u64 a2, .int .u64 a3, .int .u64 a4, .int .u64 a5, .int .u64 a6, .int .u64 a7, .int .u64 a8, .int .u64 a9] := by
  have u1 : (Tryz.prog).underlying 75 = some (.array 10 47) := by kernel_rfl
  have u2 : (Tryz.prog).underlying 47 = some (.int .u64) := by kernel_rfl
  have c1 : (Tryz.prog).cellsOf 75 = 10 := by kernel_rfl
  have c2 : (Tryz.prog).cellsOf 47 = 1 := by kernel_rfl
  have one : ∀ x : Int, (Lit.int .u64 x).wf = true → (Tryz.prog).keyLits 99 47 [.int .u64 x] = some [.int .u64 x] := by
    intro x hx
    unfold Program.keyLits
    simp [u2, hx]
  have r10 : List.range 10 = [0, 1, 2, 3, 4, 5, 6, 7, 8, 9] := by decide
  unfold Program.keyLits
  simp [u1, c1, c2, r10, one a0 h0, one a1 h1, one a2 h2, one a3 h3, one a4 h4, one a5 h5, one a6 h6, one a7 h7, one a8 h8, one a9 h9]

set_option maxRecDepth 100000 in
theorem eq10 (w : World) (a0 a1 a2 a3 a4 a5 a6 a7 a8 a9 b0 b1 b2 b3 b4 b5 b6 b7 b8 b9 : Int) (h0 : (Lit.int .u64 a0).wf = true) (h1 : (Lit.int .u64 a1).wf = true) (h2 : (Lit.int .u64 a2).wf = true) (h3 : (Lit.int .u64 a3).wf = true) (h4 : (Lit.int .u64 a4).wf = true) (h5 : (Lit.int .u64 a5).wf = true) (h6 : (Lit.int .u64 a6).wf = true) (h7 : (Lit.int .u64 a7).wf = true) (h8 : (Lit.int .u64 a8).wf = true) (h9 : (Lit.int .u64 a9).wf = true) (g0 : (Lit.int .u64 b0).wf = true) (g1 : (Lit.int .u64 b1).wf = true) (g2 : (Lit.int .u64 b2).wf = true) (g3 : (Lit.int .u64 b3).wf = true) (g4 : (Lit.int .u64 b4).wf = true) (g5 : (Lit.int .u64 b5).wf = true) (g6 : (Lit.int .u64 b6).wf = true) (g7 : (Lit.int .u64 b7).wf = true) (g8 : (Lit.int .u64 b8).wf = true) (g9 : (Lit.int .u64 b9).wf = true) :
    (Op.equalIn 10000 75 (.agg #[.int .u64 a0, .int .u64 a1, .int .u64 a2, .int .u64 a3, .int .u64 a4, .int .u64 a5, .int .u64 a6, .int .u64 a7, .int .u64 a8, .int .u64 a9]) (.agg #[.int .u64 b0, .int .u64 b1, .int .u64 b2, .int .u64 b3, .int .u64 b4, .int .u64 b5, .int .u64 b6, .int .u64 b7, .int .u64 b8, .int .u64 b9])).run Tryz.prog w = .ok (decide (a0 = b0 ∧ a1 = b1 ∧ a2 = b2 ∧ a3 = b3 ∧ a4 = b4 ∧ a5 = b5 ∧ a6 = b6 ∧ a7 = b7 ∧ a8 = b8 ∧ a9 = b9)) w := by
  obtain ⟨r, h, e⟩ := run_equalIn_deep (P := Tryz.prog) 9998 2 75 (by kernel_rfl) w 100 100 (.agg #[.int .u64 a0, .int .u64 a1, .int .u64 a2, .int .u64 a3, .int .u64 a4, .int .u64 a5, .int .u64 a6, .int .u64 a7, .int .u64 a8, .int .u64 a9]) (.agg #[.int .u64 b0, .int .u64 b1, .int .u64 b2, .int .u64 b3, .int .u64 b4, .int .u64 b5, .int .u64 b6, .int .u64 b7, .int .u64 b8, .int .u64 b9]) _ _ (by kernel_rfl) (by kernel_rfl) (lits10 a0 a1 a2 a3 a4 a5 a6 a7 a8 a9 h0 h1 h2 h3 h4 h5 h6 h7 h8 h9) (lits10 b0 b1 b2 b3 b4 b5 b6 b7 b8 b9 g0 g1 g2 g3 g4 g5 g6 g7 g8 g9)
  rw [h]
  congr 1
  rw [Bool.eq_iff_iff, e, decide_eq_true_eq]
  simp

set_option maxHeartbeats 1000000 in
theorem nought_is (neg : Bool) (V : Nat) (w : World) (hV : V < 2 ^ (64 * 10)) :
    Calls Tryz.prog 126 #[wideV neg V] w fun e w' => e = .returned (.bool (decide (V = 0))) ∧ w.alloc (.cells (wideO neg V) 77) = w' := by
  have hw := limb_wf V
  have hz : (Lit.int .u64 0).wf = true := by decide
  have hE := fun W => eq10 W (limb V 0) (limb V 1) (limb V 2) (limb V 3) (limb V 4) (limb V 5) (limb V 6) (limb V 7) (limb V 8) (limb V 9) 0 0 0 0 0 0 0 0 0 0 (hw 0) (hw 1) (hw 2) (hw 3) (hw 4) (hw 5) (hw 6) (hw 7) (hw 8) (hw 9) hz hz hz hz hz hz hz hz hz hz
  have hD : Hid ((decide (limb V 0 = 0) && (decide (limb V 1 = 0) && (decide (limb V 2 = 0) && (decide (limb V 3 = 0) && (decide (limb V 4 = 0) && (decide (limb V 5 = 0) && (decide (limb V 6 = 0) && (decide (limb V 7 = 0) && (decide (limb V 8 = 0) && decide (limb V 9 = 0)))))))))) = decide (V = 0)) := by
    show _ = _
    rw [Bool.eq_iff_iff]
    simp only [Bool.and_eq_true, decide_eq_true_eq]
    constructor
    · intro ⟨h0, h1, h2, h3, h4, h5, h6, h7, h8, h9⟩
      refine limbs_zero 10 V hV (fun i hi => ?_)
      have : i = 0 ∨ i = 1 ∨ i = 2 ∨ i = 3 ∨ i = 4 ∨ i = 5 ∨ i = 6 ∨ i = 7 ∨ i = 8 ∨ i = 9 := by omega
      rcases this with e | e | e | e | e | e | e | e | e | e <;> rw [e]
      · exact h0
      · exact h1
      · exact h2
      · exact h3
      · exact h4
      · exact h5
      · exact h6
      · exact h7
      · exact h8
      · exact h9
    · intro e
      rw [e]
      exact ⟨limb_zero 0, limb_zero 1, limb_zero 2, limb_zero 3, limb_zero 4, limb_zero 5, limb_zero 6, limb_zero 7, limb_zero 8, limb_zero 9⟩
  clear hw hz hV
  unfold wideV
  go_enter Tryz.func126, Tryz.ntmps126
  go_wp2
  go_ret
  exact ⟨ret_bool hD.out, rfl⟩

/-! Contracts of the reference's wide numbers: which is below. -/
def topN (V k : Nat) : Nat := V / 2 ^ (64 * k)

def BelowRel (V W : Nat) (W0 : World) (i : Value) (wr : World) : Prop :=
  ∃ k m : Nat, k ≤ 10 ∧ i = .int .i64 ((k : Int) - 1) ∧ wr = W0.drewN m ∧ topN V k = topN W k

theorem top_ten (n V W : Nat) (hV : V < 2 ^ (64 * n)) (hW : W < 2 ^ (64 * n)) : topN V n = topN W n := by
  unfold topN
  rw [Nat.div_eq_of_lt hV, Nat.div_eq_of_lt hW]

theorem topN_step (V W i : Nat) (h : topN V (i + 1) = topN W (i + 1)) (hl : limb V i = limb W i) : topN V i = topN W i := top_step V W i h hl

theorem topN_less (V W i : Nat) (h : topN V (i + 1) = topN W (i + 1)) (hl : limb V i ≠ limb W i) : (V < W ↔ limb V i < limb W i) := top_less V W i h hl

set_option maxRecDepth 100000 in
set_option maxHeartbeats 8000000 in
theorem below_is (nx ny : Bool) (V W : Nat) (w : World) (hV : V < 2 ^ (64 * 10)) (hW : W < 2 ^ (64 * 10)) :
    Calls Tryz.prog 149 #[wideV nx V, wideV ny W] w fun e w' => e = .returned (.bool (decide (V < W))) ∧ ∃ m, w' = ((w.alloc (.cells (wideO nx V) 77)).alloc (.cells (wideO ny W) 77)).drewN m := by
  have HT := Lib.hid (top_ten 10 V W hV hW)
  clear hV hW
  unfold wideV
  go_enter Tryz.func149, Tryz.ntmps149
  go_wp2
  go_loopw [5] (fun i wr => BelowRel V W ((w.alloc (.cells #[.bool nx, .int .u64 (limb V 0), .int .u64 (limb V 1), .int .u64 (limb V 2), .int .u64 (limb V 3), .int .u64 (limb V 4), .int .u64 (limb V 5), .int .u64 (limb V 6), .int .u64 (limb V 7), .int .u64 (limb V 8), .int .u64 (limb V 9)] 77)).alloc (.cells #[.bool ny, .int .u64 (limb W 0), .int .u64 (limb W 1), .int .u64 (limb W 2), .int .u64 (limb W 3), .int .u64 (limb W 4), .int .u64 (limb W 5), .int .u64 (limb W 6), .int .u64 (limb W 7), .int .u64 (limb W 8), .int .u64 (limb W 9)] 77)) i wr) (fun i _ => (intOf i + 1).toNat)
  case atStart => exact ⟨10, 0, by decide, rfl, rfl, HT.out⟩
  case round =>
    obtain ⟨k, m, hk, rfl, rfl, ht⟩ := hrel
    have hk' : k = 0 ∨ k = 1 ∨ k = 2 ∨ k = 3 ∨ k = 4 ∨ k = 5 ∨ k = 6 ∨ k = 7 ∨ k = 8 ∨ k = 9 ∨ k = 10 := by omega
    clear hk
    rcases hk' with rfl | rfl | rfl | rfl | rfl | rfl | rfl | rfl | rfl | rfl | rfl
    · have he : V = W := by simpa [topN] using ht
      have hd := Lib.hid (decide_eq_false (show ¬ V < W by omega))
      clear he ht
      go_wp2
      go_ret
      exact ⟨ret_bool hd.out.symm, _, rfl⟩
    · by_cases he : limb V 0 = limb W 0
      · have hb : (limb V 0 != limb W 0) = false := by rw [he]; simp
        have HR := Lib.hid (topN_step V W 0 ht he)
        clear he ht
        go_wp2
        go_quiet (fail)
        go_wp2
        go_roundw
        case rel => exact ⟨0, _, by decide, by go_num, rfl, HR.out⟩
        case measure => simp [intOf]
      · have hb : (limb V 0 != limb W 0) = true := by simpa using he
        have HL := Lib.hid (topN_less V W 0 ht he)
        clear he ht
        go_wp2
        go_quiet (fail)
        go_wp2
        go_quiet (fail)
        go_wp2
        go_ret
        exact ⟨ret_bool (by rw [Bool.eq_iff_iff, decide_eq_true_eq, decide_eq_true_eq]; exact HL.out.symm), _, by simp only [World.drewN_drewN]; rfl⟩
    · by_cases he : limb V 1 = limb W 1
      · have hb : (limb V 1 != limb W 1) = false := by rw [he]; simp
        have HR := Lib.hid (topN_step V W 1 ht he)
        clear he ht
        go_wp2
        go_quiet (fail)
        go_wp2
        go_roundw
        case rel => exact ⟨1, _, by decide, by go_num, rfl, HR.out⟩
        case measure => simp [intOf]
      · have hb : (limb V 1 != limb W 1) = true := by simpa using he
        have HL := Lib.hid (topN_less V W 1 ht he)
        clear he ht
        go_wp2
        go_quiet (fail)
        go_wp2
        go_quiet (fail)
        go_wp2
        go_ret
        exact ⟨ret_bool (by rw [Bool.eq_iff_iff, decide_eq_true_eq, decide_eq_true_eq]; exact HL.out.symm), _, by simp only [World.drewN_drewN]; rfl⟩
    · by_cases he : limb V 2 = limb W 2
      · have hb : (limb V 2 != limb W 2) = false := by rw [he]; simp
        have HR := Lib.hid (topN_step V W 2 ht he)
        clear he ht
        go_wp2
        go_quiet (fail)
        go_wp2
        go_roundw
        case rel => exact ⟨2, _, by decide, by go_num, rfl, HR.out⟩
        case measure => simp [intOf]
      · have hb : (limb V 2 != limb W 2) = true := by simpa using he
        have HL := Lib.hid (topN_less V W 2 ht he)
        clear he ht
        go_wp2
        go_quiet (fail)
        go_wp2
        go_quiet (fail)
        go_wp2
        go_ret
        exact ⟨ret_bool (by rw [Bool.eq_iff_iff, decide_eq_true_eq, decide_eq_true_eq]; exact HL.out.symm), _, by simp only [World.drewN_drewN]; rfl⟩
    · by_cases he : limb V 3 = limb W 3
      · have hb : (limb V 3 != limb W 3) = false := by rw [he]; simp
        have HR := Lib.hid (topN_step V W 3 ht he)
        clear he ht
        go_wp2
        go_quiet (fail)
        go_wp2
        go_roundw
        case rel => exact ⟨3, _, by decide, by go_num, rfl, HR.out⟩
        case measure => simp [intOf]
      · have hb : (limb V 3 != limb W 3) = true := by simpa using he
        have HL := Lib.hid (topN_less V W 3 ht he)
        clear he ht
        go_wp2
        go_quiet (fail)
        go_wp2
        go_quiet (fail)
        go_wp2
        go_ret
        exact ⟨ret_bool (by rw [Bool.eq_iff_iff, decide_eq_true_eq, decide_eq_true_eq]; exact HL.out.symm), _, by simp only [World.drewN_drewN]; rfl⟩
    · by_cases he : limb V 4 = limb W 4
      · have hb : (limb V 4 != limb W 4) = false := by rw [he]; simp
        have HR := Lib.hid (topN_step V W 4 ht he)
        clear he ht
        go_wp2
        go_quiet (fail)
        go_wp2
        go_roundw
        case rel => exact ⟨4, _, by decide, by go_num, rfl, HR.out⟩
        case measure => simp [intOf]
      · have hb : (limb V 4 != limb W 4) = true := by simpa using he
        have HL := Lib.hid (topN_less V W 4 ht he)
        clear he ht
        go_wp2
        go_quiet (fail)
        go_wp2
        go_quiet (fail)
        go_wp2
        go_ret
        exact ⟨ret_bool (by rw [Bool.eq_iff_iff, decide_eq_true_eq, decide_eq_true_eq]; exact HL.out.symm), _, by simp only [World.drewN_drewN]; rfl⟩
    · by_cases he : limb V 5 = limb W 5
      · have hb : (limb V 5 != limb W 5) = false := by rw [he]; simp
        have HR := Lib.hid (topN_step V W 5 ht he)
        clear he ht
        go_wp2
        go_quiet (fail)
        go_wp2
        go_roundw
        case rel => exact ⟨5, _, by decide, by go_num, rfl, HR.out⟩
        case measure => simp [intOf]
      · have hb : (limb V 5 != limb W 5) = true := by simpa using he
        have HL := Lib.hid (topN_less V W 5 ht he)
        clear he ht
        go_wp2
        go_quiet (fail)
        go_wp2
        go_quiet (fail)
        go_wp2
        go_ret
        exact ⟨ret_bool (by rw [Bool.eq_iff_iff, decide_eq_true_eq, decide_eq_true_eq]; exact HL.out.symm), _, by simp only [World.drewN_drewN]; rfl⟩
    · by_cases he : limb V 6 = limb W 6
      · have hb : (limb V 6 != limb W 6) = false := by rw [he]; simp
        have HR := Lib.hid (topN_step V W 6 ht he)
        clear he ht
        go_wp2
        go_quiet (fail)
        go_wp2
        go_roundw
        case rel => exact ⟨6, _, by decide, by go_num, rfl, HR.out⟩
        case measure => simp [intOf]
      · have hb : (limb V 6 != limb W 6) = true := by simpa using he
        have HL := Lib.hid (topN_less V W 6 ht he)
        clear he ht
        go_wp2
        go_quiet (fail)
        go_wp2
        go_quiet (fail)
        go_wp2
        go_ret
        exact ⟨ret_bool (by rw [Bool.eq_iff_iff, decide_eq_true_eq, decide_eq_true_eq]; exact HL.out.symm), _, by simp only [World.drewN_drewN]; rfl⟩
    · by_cases he : limb V 7 = limb W 7
      · have hb : (limb V 7 != limb W 7) = false := by rw [he]; simp
        have HR := Lib.hid (topN_step V W 7 ht he)
        clear he ht
        go_wp2
        go_quiet (fail)
        go_wp2
        go_roundw
        case rel => exact ⟨7, _, by decide, by go_num, rfl, HR.out⟩
        case measure => simp [intOf]
      · have hb : (limb V 7 != limb W 7) = true := by simpa using he
        have HL := Lib.hid (topN_less V W 7 ht he)
        clear he ht
        go_wp2
        go_quiet (fail)
        go_wp2
        go_quiet (fail)
        go_wp2
        go_ret
        exact ⟨ret_bool (by rw [Bool.eq_iff_iff, decide_eq_true_eq, decide_eq_true_eq]; exact HL.out.symm), _, by simp only [World.drewN_drewN]; rfl⟩
    · by_cases he : limb V 8 = limb W 8
      · have hb : (limb V 8 != limb W 8) = false := by rw [he]; simp
        have HR := Lib.hid (topN_step V W 8 ht he)
        clear he ht
        go_wp2
        go_quiet (fail)
        go_wp2
        go_roundw
        case rel => exact ⟨8, _, by decide, by go_num, rfl, HR.out⟩
        case measure => simp [intOf]
      · have hb : (limb V 8 != limb W 8) = true := by simpa using he
        have HL := Lib.hid (topN_less V W 8 ht he)
        clear he ht
        go_wp2
        go_quiet (fail)
        go_wp2
        go_quiet (fail)
        go_wp2
        go_ret
        exact ⟨ret_bool (by rw [Bool.eq_iff_iff, decide_eq_true_eq, decide_eq_true_eq]; exact HL.out.symm), _, by simp only [World.drewN_drewN]; rfl⟩
    · by_cases he : limb V 9 = limb W 9
      · have hb : (limb V 9 != limb W 9) = false := by rw [he]; simp
        have HR := Lib.hid (topN_step V W 9 ht he)
        clear he ht
        go_wp2
        go_quiet (fail)
        go_wp2
        go_roundw
        case rel => exact ⟨9, _, by decide, by go_num, rfl, HR.out⟩
        case measure => simp [intOf]
      · have hb : (limb V 9 != limb W 9) = true := by simpa using he
        have HL := Lib.hid (topN_less V W 9 ht he)
        clear he ht
        go_wp2
        go_quiet (fail)
        go_wp2
        go_quiet (fail)
        go_wp2
        go_ret
        exact ⟨ret_bool (by rw [Bool.eq_iff_iff, decide_eq_true_eq, decide_eq_true_eq]; exact HL.out.symm), _, by simp only [World.drewN_drewN]; rfl⟩
end Go.Proofs.YtheaeclojljecaaGreat
