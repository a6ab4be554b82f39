/- What holds of the memory of calls of one tensor. The contract of annealref13's Bias. The contract of annealref13's Each. The contract of annealref13's Each. The contract of annealref13's By. The contract of annealref13's Sums. The contracts of annealref13's at, Turn. (Written by gen46.py.) -/
import Derived.Test.YtmipefapjehkaaaGreatRProd
import Derived.Test.YtmipefapjehkaaaGreatWorld
namespace Go.Proofs.YtmipefapjehkaaaGreat
open Go.RowKit
set_option linter.unusedVariables false
set_option linter.unusedSimpArgs false

/-- What holds of the memory of a call of one tensor: its block, its result's, its own tensor's, its row with k numbers reckoned. -/
structure P1 (w : World) (B nb ob M : Nat) (a0 a1 a2 a3 m n fv : Value) (G : Nat → Int) (k : Nat) (W : World) : Prop where
  g : Grown w W
  t1 : TenAt B a0 a1 a2 a3 W
  t3 : TenAt (B + 1) (.int .i64 0) (.int .i64 0) (.int .i64 0) (.slice none 0 0) W
  t4 : TenAt ob m n fv (.slice (some ⟨nb, 0, none⟩) M M) W
  f : Filled nb M G k W
  o : B + 1 < nb
  o2 : B + 1 < ob
  ne : nb ≠ ob
  s : w.heap.size ≤ B

section
variable {w : World} {B nb ob M : Nat} {a0 a1 a2 a3 m n fv : Value} {G : Nat → Int} {k : Nat} {W : World}

theorem P1.grown {W' : World} (h : P1 w B nb ob M a0 a1 a2 a3 m n fv G k W) (g : Grown W W') : P1 w B nb ob M a0 a1 a2 a3 m n fv G k W' :=
  ⟨grown_trans h.g g, h.t1.grown g, h.t3.grown g, h.t4.grown g, h.f.grown g, h.o, h.o2, h.ne, h.s⟩

theorem P1.set (h : P1 w B nb ob M a0 a1 a2 a3 m n fv G k W) (hk : k < M) : P1 w B nb ob M a0 a1 a2 a3 m n fv G (k + 1) (W.setCell ⟨nb, k, none⟩ (.int .u32 (G k))) :=
  ⟨Grown.setCell h.g (by have := h.o; have := h.s; show w.heap.size ≤ nb; omega) _, h.t1.set (by have := h.o; show B ≠ nb; omega) _, h.t3.set (by have := h.o; show B + 1 ≠ nb; omega) _,
    h.t4.set (by have := h.ne; show ob ≠ nb; omega) _, h.f.set hk, h.o, h.o2, h.ne, h.s⟩

theorem P1.upd {G' : Nat → Int} (h : P1 w B nb ob M a0 a1 a2 a3 m n fv G M W) {j : Nat} (hj : j < M) {v : Int} (e1 : G' j = v) (e2 : ∀ t, t ≠ j → G' t = G t) : P1 w B nb ob M a0 a1 a2 a3 m n fv G' M (W.setCell ⟨nb, j, none⟩ (.int .u32 v)) :=
  ⟨Grown.setCell h.g (by have := h.o; have := h.s; show w.heap.size ≤ nb; omega) _, h.t1.set (by have := h.o; show B ≠ nb; omega) _, h.t3.set (by have := h.o; show B + 1 ≠ nb; omega) _,
    h.t4.set (by have := h.ne; show ob ≠ nb; omega) _, h.f.upd hj e1 e2, h.o, h.o2, h.ne, h.s⟩
end

/-- A column's sum behind I numbers. -/
def colS (F : Int) (g : Nat → Int) (C : Nat) : Nat → Nat → Int
  | 0 => fun _ => 0
  | I + 1 => fun t => if t = I % C then addV (colS F g C I t) (widV F g I) else colS F g C I t

theorem colS_bd (F : Int) (g : Nat → Int) (C I t : Nat) : 0 ≤ colS F g C I t ∧ colS F g C I t ≤ 4294967295 := by
  induction I with
  | zero => exact ⟨Int.le_refl _, by show (0 : Int) ≤ 4294967295; decide⟩
  | succ I ih =>
    unfold colS
    split
    · exact addV_bd _ _
    · exact ih

set_option maxHeartbeats 1000000 in
theorem rbrow_bad1 (aR aC aF bR bC bF : Int) (ad bd : Option Addr) (an bn ca cb : Nat) (g h : Nat → Int) (w : World) (hn : an ≤ 9223372036854775807) (hn' : bn ≤ 9223372036854775807) (h1 : Reads ad an g w) (h2 : Reads bd bn h w) (hr : rightB aR aC aF an g = false) :
    Calls Tryz.prog 8 #[.agg #[.int .i64 aR, .int .i64 aC, .int .i64 aF, .slice ad an ca], .agg #[.int .i64 bR, .int .i64 bC, .int .i64 bF, .slice bd bn cb]] w (TenE PT.bad 21 w) := by
  have H1 := Lib.hid h1
  have K1 := Lib.hid (show Ending.returned (.bool (rightB aR aC aF an g)) = .returned (.bool false) by rw [hr])
  clear h1 h2 hr
  have HT1 := Lib.hid ((ten_new w (.int .i64 aR) (.int .i64 aC) (.int .i64 aF) (.slice ad an ca) 24).grown (Grown.alloc (Grown.alloc (Grown.refl _) #[.int .i64 bR, .int .i64 bC, .int .i64 bF, .slice bd bn cb] 24) #[.int .i64 0, .int .i64 0, .int .i64 0, .slice none 0 0] 24))
  have HT2 := Lib.hid ((ten_new (w.alloc (.cells #[.int .i64 aR, .int .i64 aC, .int .i64 aF, .slice ad an ca] 24)) (.int .i64 bR) (.int .i64 bC) (.int .i64 bF) (.slice bd bn cb) 24).grown (Grown.alloc (Grown.refl _) #[.int .i64 0, .int .i64 0, .int .i64 0, .slice none 0 0] 24))
  have HT3 := Lib.hid (ten_new ((w.alloc (.cells #[.int .i64 aR, .int .i64 aC, .int .i64 aF, .slice ad an ca] 24)).alloc (.cells #[.int .i64 bR, .int .i64 bC, .int .i64 bF, .slice bd bn cb] 24)) (.int .i64 0) (.int .i64 0) (.int .i64 0) (.slice none 0 0) 24)
  have HG := Lib.hid (Grown.alloc (Grown.alloc (Grown.alloc (Grown.refl w) #[.int .i64 aR, .int .i64 aC, .int .i64 aF, .slice ad an ca] 24) #[.int .i64 bR, .int .i64 bC, .int .i64 bF, .slice bd bn cb] 24) #[.int .i64 0, .int .i64 0, .int .i64 0, .slice none 0 0] 24)
  go_enter Tryz.func8, Tryz.ntmps8
  go_wp2_with fail
  simp only [World.size_alloc] at HT2 HT3
  generalize ((w.alloc _).alloc _).alloc _ = W0 at HT1 HT2 HT3 HG ⊢
  refine (rright_any _ _ _ _ _ _ _ _ (by assumption) (H1.out.grown HG.out)).mono ?_
  rintro e W1 ⟨he, hW⟩
  rw [K1.out] at he
  subst he
  replace HT1 := Lib.hid (HT1.out.grown hW)
  replace HT2 := Lib.hid (HT2.out.grown hW)
  replace HT3 := Lib.hid (HT3.out.grown hW)
  replace HG := Lib.hid (grown_trans HG.out hW)
  clear hW
  obtain ⟨p0, p1, p2, p3, p4, _, _, _, _⟩ := HT1.out
  obtain ⟨q0, q1, q2, q3, q4, _, _, _, _⟩ := HT2.out
  obtain ⟨r0, r1, r2, r3, r4, r5, r6, r7, r8⟩ := HT3.out
  go_wp2
  (try simp only [Exit.inBlock, Exit.then])
  refine bodyPost_ret (v := .tuple #[.agg #[.int .i64 0, .int .i64 0, .int .i64 0, .slice none 0 0], .int .i64 21]) ?_ rfl ⟨none, 0, rfl, Reads.nil _ _ _, by decide, fresh_none _, gr⟩
  rw [results_cell_tmp rfl]
  go_simp

set_option maxHeartbeats 1000000 in
theorem rbrow_bad2 (aR aC aF bR bC bF : Int) (ad bd : Option Addr) (an bn ca cb : Nat) (g h : Nat → Int) (w : World) (hn : an ≤ 9223372036854775807) (hn' : bn ≤ 9223372036854775807) (h1 : Reads ad an g w) (h2 : Reads bd bn h w) (hr : rightB aR aC aF an g = true) (hr2 : rightB bR bC bF bn h = false) :
    Calls Tryz.prog 8 #[.agg #[.int .i64 aR, .int .i64 aC, .int .i64 aF, .slice ad an ca], .agg #[.int .i64 bR, .int .i64 bC, .int .i64 bF, .slice bd bn cb]] w (TenE PT.bad 21 w) := by
  have H1 := Lib.hid h1
  have H2 := Lib.hid h2
  have K1 := Lib.hid (show Ending.returned (.bool (rightB aR aC aF an g)) = .returned (.bool true) by rw [hr])
  have K2 := Lib.hid (show Ending.returned (.bool (rightB bR bC bF bn h)) = .returned (.bool false) by rw [hr2])
  clear h1 h2 hr hr2
  have HT1 := Lib.hid ((ten_new w (.int .i64 aR) (.int .i64 aC) (.int .i64 aF) (.slice ad an ca) 24).grown (Grown.alloc (Grown.alloc (Grown.refl _) #[.int .i64 bR, .int .i64 bC, .int .i64 bF, .slice bd bn cb] 24) #[.int .i64 0, .int .i64 0, .int .i64 0, .slice none 0 0] 24))
  have HT2 := Lib.hid ((ten_new (w.alloc (.cells #[.int .i64 aR, .int .i64 aC, .int .i64 aF, .slice ad an ca] 24)) (.int .i64 bR) (.int .i64 bC) (.int .i64 bF) (.slice bd bn cb) 24).grown (Grown.alloc (Grown.refl _) #[.int .i64 0, .int .i64 0, .int .i64 0, .slice none 0 0] 24))
  have HT3 := Lib.hid (ten_new ((w.alloc (.cells #[.int .i64 aR, .int .i64 aC, .int .i64 aF, .slice ad an ca] 24)).alloc (.cells #[.int .i64 bR, .int .i64 bC, .int .i64 bF, .slice bd bn cb] 24)) (.int .i64 0) (.int .i64 0) (.int .i64 0) (.slice none 0 0) 24)
  have HG := Lib.hid (Grown.alloc (Grown.alloc (Grown.alloc (Grown.refl w) #[.int .i64 aR, .int .i64 aC, .int .i64 aF, .slice ad an ca] 24) #[.int .i64 bR, .int .i64 bC, .int .i64 bF, .slice bd bn cb] 24) #[.int .i64 0, .int .i64 0, .int .i64 0, .slice none 0 0] 24)
  go_enter Tryz.func8, Tryz.ntmps8
  go_wp2_with fail
  simp only [World.size_alloc] at HT2 HT3
  generalize ((w.alloc _).alloc _).alloc _ = W0 at HT1 HT2 HT3 HG ⊢
  refine (rright_any _ _ _ _ _ _ _ _ (by assumption) (H1.out.grown HG.out)).mono ?_
  rintro e W1 ⟨he, hW⟩
  rw [K1.out] at he
  subst he
  replace HT1 := Lib.hid (HT1.out.grown hW)
  replace HT2 := Lib.hid (HT2.out.grown hW)
  replace HT3 := Lib.hid (HT3.out.grown hW)
  replace HG := Lib.hid (grown_trans HG.out hW)
  clear hW
  obtain ⟨p0, p1, p2, p3, p4, _, _, _, _⟩ := HT1.out
  obtain ⟨q0, q1, q2, q3, q4, _, _, _, _⟩ := HT2.out
  obtain ⟨r0, r1, r2, r3, r4, r5, r6, r7, r8⟩ := HT3.out
  go_wp2_with fail
  refine (rright_any _ _ _ _ _ _ _ _ (by assumption) (H2.out.grown HG.out)).mono ?_
  rintro e W2 ⟨he, hW⟩
  rw [K2.out] at he
  subst he
  replace HT1 := Lib.hid (HT1.out.grown hW)
  replace HT2 := Lib.hid (HT2.out.grown hW)
  replace HT3 := Lib.hid (HT3.out.grown hW)
  replace HG := Lib.hid (grown_trans HG.out hW)
  clear hW
  clear p0 p1 p2 p3 p4 q0 q1 q2 q3 q4 r0 r1 r2 r3 r4 r5 r6 r7 r8
  obtain ⟨p0, p1, p2, p3, p4, _, _, _, _⟩ := HT1.out
  obtain ⟨q0, q1, q2, q3, q4, _, _, _, _⟩ := HT2.out
  obtain ⟨r0, r1, r2, r3, r4, r5, r6, r7, r8⟩ := HT3.out
  go_wp2
  (try simp only [Exit.inBlock, Exit.then])
  refine bodyPost_ret (v := .tuple #[.agg #[.int .i64 0, .int .i64 0, .int .i64 0, .slice none 0 0], .int .i64 21]) ?_ rfl ⟨none, 0, rfl, Reads.nil _ _ _, by decide, fresh_none _, gr⟩
  rw [results_cell_tmp rfl]
  go_simp

set_option maxHeartbeats 1000000 in
theorem rbrow_bad3 (aR aC aF bR bC bF : Int) (ad bd : Option Addr) (an bn ca cb : Nat) (g h : Nat → Int) (w : World) (hn : an ≤ 9223372036854775807) (hn' : bn ≤ 9223372036854775807) (h1 : Reads ad an g w) (h2 : Reads bd bn h w) (hr : rightB aR aC aF an g = true) (hr2 : rightB bR bC bF bn h = true) (hk : ¬ (bR = 1 ∧ bC = aC)) :
    Calls Tryz.prog 8 #[.agg #[.int .i64 aR, .int .i64 aC, .int .i64 aF, .slice ad an ca], .agg #[.int .i64 bR, .int .i64 bC, .int .i64 bF, .slice bd bn cb]] w (TenE PT.bad 21 w) := by
  have H1 := Lib.hid h1
  have H2 := Lib.hid h2
  have K1 := Lib.hid (show Ending.returned (.bool (rightB aR aC aF an g)) = .returned (.bool true) by rw [hr])
  have K2 := Lib.hid (show Ending.returned (.bool (rightB bR bC bF bn h)) = .returned (.bool true) by rw [hr2])
  clear h1 h2 hr hr2
  have HT1 := Lib.hid ((ten_new w (.int .i64 aR) (.int .i64 aC) (.int .i64 aF) (.slice ad an ca) 24).grown (Grown.alloc (Grown.alloc (Grown.refl _) #[.int .i64 bR, .int .i64 bC, .int .i64 bF, .slice bd bn cb] 24) #[.int .i64 0, .int .i64 0, .int .i64 0, .slice none 0 0] 24))
  have HT2 := Lib.hid ((ten_new (w.alloc (.cells #[.int .i64 aR, .int .i64 aC, .int .i64 aF, .slice ad an ca] 24)) (.int .i64 bR) (.int .i64 bC) (.int .i64 bF) (.slice bd bn cb) 24).grown (Grown.alloc (Grown.refl _) #[.int .i64 0, .int .i64 0, .int .i64 0, .slice none 0 0] 24))
  have HT3 := Lib.hid (ten_new ((w.alloc (.cells #[.int .i64 aR, .int .i64 aC, .int .i64 aF, .slice ad an ca] 24)).alloc (.cells #[.int .i64 bR, .int .i64 bC, .int .i64 bF, .slice bd bn cb] 24)) (.int .i64 0) (.int .i64 0) (.int .i64 0) (.slice none 0 0) 24)
  have HG := Lib.hid (Grown.alloc (Grown.alloc (Grown.alloc (Grown.refl w) #[.int .i64 aR, .int .i64 aC, .int .i64 aF, .slice ad an ca] 24) #[.int .i64 bR, .int .i64 bC, .int .i64 bF, .slice bd bn cb] 24) #[.int .i64 0, .int .i64 0, .int .i64 0, .slice none 0 0] 24)
  by_cases k1 : bR = 1
  · have k2 : ¬ bC = aC := fun e => hk ⟨k1, e⟩
    have f1 : (bR = 1 : Prop) = True := by simp [k1]
    have f2 : ((bC : Int) == aC) = false := by simpa using k2
    have f3 : ((bC : Int) != aC) = true := by rw [bne, f2]; rfl
    have f4 : ((bR : Int) != 1) = false := by rw [bne, beq_iff_eq.2 k1]; rfl
    have f5 : ((bR : Int) == 1) = true := beq_iff_eq.2 k1
    clear hk k1 k2 f1
    go_enter Tryz.func8, Tryz.ntmps8
    go_wp2_with fail
    simp only [World.size_alloc] at HT2 HT3
    generalize ((w.alloc _).alloc _).alloc _ = W0 at HT1 HT2 HT3 HG ⊢
    refine (rright_any _ _ _ _ _ _ _ _ (by assumption) (H1.out.grown HG.out)).mono ?_
    rintro e W1 ⟨he, hW⟩
    rw [K1.out] at he
    subst he
    replace HT1 := Lib.hid (HT1.out.grown hW)
    replace HT2 := Lib.hid (HT2.out.grown hW)
    replace HT3 := Lib.hid (HT3.out.grown hW)
    replace HG := Lib.hid (grown_trans HG.out hW)
    clear hW
    obtain ⟨p0, p1, p2, p3, p4, _, _, _, _⟩ := HT1.out
    obtain ⟨q0, q1, q2, q3, q4, _, _, _, _⟩ := HT2.out
    obtain ⟨r0, r1, r2, r3, r4, r5, r6, r7, r8⟩ := HT3.out
    go_wp2_with fail
    refine (rright_any _ _ _ _ _ _ _ _ (by assumption) (H2.out.grown HG.out)).mono ?_
    rintro e W2 ⟨he, hW⟩
    rw [K2.out] at he
    subst he
    replace HT1 := Lib.hid (HT1.out.grown hW)
    replace HT2 := Lib.hid (HT2.out.grown hW)
    replace HT3 := Lib.hid (HT3.out.grown hW)
    replace HG := Lib.hid (grown_trans HG.out hW)
    clear hW
    clear p0 p1 p2 p3 p4 q0 q1 q2 q3 q4 r0 r1 r2 r3 r4 r5 r6 r7 r8
    obtain ⟨p0, p1, p2, p3, p4, _, _, _, _⟩ := HT1.out
    obtain ⟨q0, q1, q2, q3, q4, _, _, _, _⟩ := HT2.out
    obtain ⟨r0, r1, r2, r3, r4, r5, r6, r7, r8⟩ := HT3.out
    go_wp2
    (try simp only [Exit.inBlock, Exit.then])
    refine bodyPost_ret (v := .tuple #[.agg #[.int .i64 0, .int .i64 0, .int .i64 0, .slice none 0 0], .int .i64 21]) ?_ rfl ⟨none, 0, rfl, Reads.nil _ _ _, by decide, fresh_none _, gr⟩
    rw [results_cell_tmp rfl]
    go_simp
  · have f2 : ((bR : Int) == 1) = false := by simpa using k1
    have f3 : ((bR : Int) != 1) = true := by rw [bne, f2]; rfl
    clear hk k1
    go_enter Tryz.func8, Tryz.ntmps8
    go_wp2_with fail
    simp only [World.size_alloc] at HT2 HT3
    generalize ((w.alloc _).alloc _).alloc _ = W0 at HT1 HT2 HT3 HG ⊢
    refine (rright_any _ _ _ _ _ _ _ _ (by assumption) (H1.out.grown HG.out)).mono ?_
    rintro e W1 ⟨he, hW⟩
    rw [K1.out] at he
    subst he
    replace HT1 := Lib.hid (HT1.out.grown hW)
    replace HT2 := Lib.hid (HT2.out.grown hW)
    replace HT3 := Lib.hid (HT3.out.grown hW)
    replace HG := Lib.hid (grown_trans HG.out hW)
    clear hW
    obtain ⟨p0, p1, p2, p3, p4, _, _, _, _⟩ := HT1.out
    obtain ⟨q0, q1, q2, q3, q4, _, _, _, _⟩ := HT2.out
    obtain ⟨r0, r1, r2, r3, r4, r5, r6, r7, r8⟩ := HT3.out
    go_wp2_with fail
    refine (rright_any _ _ _ _ _ _ _ _ (by assumption) (H2.out.grown HG.out)).mono ?_
    rintro e W2 ⟨he, hW⟩
    rw [K2.out] at he
    subst he
    replace HT1 := Lib.hid (HT1.out.grown hW)
    replace HT2 := Lib.hid (HT2.out.grown hW)
    replace HT3 := Lib.hid (HT3.out.grown hW)
    replace HG := Lib.hid (grown_trans HG.out hW)
    clear hW
    clear p0 p1 p2 p3 p4 q0 q1 q2 q3 q4 r0 r1 r2 r3 r4 r5 r6 r7 r8
    obtain ⟨p0, p1, p2, p3, p4, _, _, _, _⟩ := HT1.out
    obtain ⟨q0, q1, q2, q3, q4, _, _, _, _⟩ := HT2.out
    obtain ⟨r0, r1, r2, r3, r4, r5, r6, r7, r8⟩ := HT3.out
    go_wp2
    (try simp only [Exit.inBlock, Exit.then])
    refine bodyPost_ret (v := .tuple #[.agg #[.int .i64 0, .int .i64 0, .int .i64 0, .slice none 0 0], .int .i64 21]) ?_ rfl ⟨none, 0, rfl, Reads.nil _ _ _, by decide, fresh_none _, gr⟩
    rw [results_cell_tmp rfl]
    go_simp

set_option maxRecDepth 100000 in
set_option maxHeartbeats 4000000 in
theorem rbrow_good (aF bF : Int) (aR aC bR bC : Nat) (ad bd : Option Addr) (an bn ca cb : Nat) (g h : Nat → Int) (w : World) (hn2 : an ≤ 16777216) (hn2' : bn ≤ 16777216) (h1 : Reads ad an g w) (h2 : Reads bd bn h w)
    (ha1 : aR ≤ 4096) (ha2 : aC ≤ 4096) (hb1 : bR ≤ 4096) (hb2 : bC ≤ 4096) (hr : rightB aR aC aF an g = true) (hr2 : rightB bR bC bF bn h = true) (k1 : bR = 1) (k2 : bC = aC) (hix : ∀ i, i < an → i % aC < bn) (han : an = aR * aC) :
    Calls Tryz.prog 8 #[.agg #[.int .i64 aR, .int .i64 aC, .int .i64 aF, .slice ad an ca], .agg #[.int .i64 bR, .int .i64 bC, .int .i64 bF, .slice bd bn cb]] w (TenE ⟨aR, aC, 2, an, fun t => addV (widV aF g t) (widV bF h (t % aC))⟩ 0 w) := by
  have H1 := Lib.hid h1
  have H2 := Lib.hid h2
  have K1 := Lib.hid (show Ending.returned (.bool (rightB aR aC aF an g)) = .returned (.bool true) by rw [hr])
  have K2 := Lib.hid (show Ending.returned (.bool (rightB bR bC bF bn h)) = .returned (.bool true) by rw [hr2])
  have hn : an ≤ 9223372036854775807 := by omega
  have hn' : bn ≤ 9223372036854775807 := by omega
  have HIX := Lib.hid hix
  have HAN := Lib.hid han
  clear h1 h2 hr hr2 hix han
  obtain ⟨G, hG⟩ : ∃ G : Nat → Int, G = fun t => addV (widV aF g t) (widV bF h (t % aC)) := ⟨_, rfl⟩
  rw [← hG]
  have HGB := Lib.hid (show ∀ t, 0 ≤ G t ∧ G t ≤ 4294967295 from fun t => by rw [hG]; exact addV_bd _ _)
  have HGG := Lib.hid hG
  clear hG
  have HT1 := Lib.hid ((ten_new w (.int .i64 (aR : Int)) (.int .i64 (aC : Int)) (.int .i64 aF) (.slice ad an ca) 24).grown (Grown.alloc (Grown.alloc (Grown.refl _) #[.int .i64 (bR : Int), .int .i64 (bC : Int), .int .i64 bF, .slice bd bn cb] 24) #[.int .i64 0, .int .i64 0, .int .i64 0, .slice none 0 0] 24))
  have HT2 := Lib.hid ((ten_new (w.alloc (.cells #[.int .i64 (aR : Int), .int .i64 (aC : Int), .int .i64 aF, .slice ad an ca] 24)) (.int .i64 (bR : Int)) (.int .i64 (bC : Int)) (.int .i64 bF) (.slice bd bn cb) 24).grown (Grown.alloc (Grown.refl _) #[.int .i64 0, .int .i64 0, .int .i64 0, .slice none 0 0] 24))
  have HT3 := Lib.hid (ten_new ((w.alloc (.cells #[.int .i64 (aR : Int), .int .i64 (aC : Int), .int .i64 aF, .slice ad an ca] 24)).alloc (.cells #[.int .i64 (bR : Int), .int .i64 (bC : Int), .int .i64 bF, .slice bd bn cb] 24)) (.int .i64 0) (.int .i64 0) (.int .i64 0) (.slice none 0 0) 24)
  have HG := Lib.hid (Grown.alloc (Grown.alloc (Grown.alloc (Grown.refl w) #[.int .i64 (aR : Int), .int .i64 (aC : Int), .int .i64 aF, .slice ad an ca] 24) #[.int .i64 (bR : Int), .int .i64 (bC : Int), .int .i64 bF, .slice bd bn cb] 24) #[.int .i64 0, .int .i64 0, .int .i64 0, .slice none 0 0] 24)
  have g1 : ((bR : Int) == 1) = true := by rw [k1]; simp
  have g2 : ((bR : Int) != 1) = false := by rw [bne, g1]; rfl
  have g3 : ((bC : Int) == aC) = true := by rw [k2]; simp
  have g4 : ((bC : Int) != aC) = false := by rw [bne, g3]; rfl
  have KK := Lib.hid (show bR = 1 ∧ bC = aC from ⟨k1, k2⟩)
  clear k1 k2
  go_enter Tryz.func8, Tryz.ntmps8
  go_wp2_with fail
  simp only [World.size_alloc] at HT2 HT3
  generalize ((w.alloc _).alloc _).alloc _ = W0 at HT1 HT2 HT3 HG ⊢
  refine (rright_any _ _ _ _ _ _ _ _ (by assumption) (H1.out.grown HG.out)).mono ?_
  rintro e W1 ⟨he, hW⟩
  rw [K1.out] at he
  subst he
  replace HT1 := Lib.hid (HT1.out.grown hW)
  replace HT2 := Lib.hid (HT2.out.grown hW)
  replace HT3 := Lib.hid (HT3.out.grown hW)
  replace HG := Lib.hid (grown_trans HG.out hW)
  clear hW
  obtain ⟨p0, p1, p2, p3, p4, _, _, _, _⟩ := HT1.out
  obtain ⟨q0, q1, q2, q3, q4, _, _, _, _⟩ := HT2.out
  obtain ⟨r0, r1, r2, r3, r4, r5, r6, r7, r8⟩ := HT3.out
  go_wp2_with fail
  refine (rright_any _ _ _ _ _ _ _ _ (by assumption) (H2.out.grown HG.out)).mono ?_
  rintro e W2 ⟨he, hW⟩
  rw [K2.out] at he
  subst he
  replace HT1 := Lib.hid (HT1.out.grown hW)
  replace HT2 := Lib.hid (HT2.out.grown hW)
  replace HT3 := Lib.hid (HT3.out.grown hW)
  replace HG := Lib.hid (grown_trans HG.out hW)
  clear hW
  clear p0 p1 p2 p3 p4 q0 q1 q2 q3 q4 r0 r1 r2 r3 r4 r5 r6 r7 r8
  obtain ⟨p0, p1, p2, p3, p4, _, _, _, _⟩ := HT1.out
  obtain ⟨q0, q1, q2, q3, q4, _, _, _, _⟩ := HT2.out
  obtain ⟨r0, r1, r2, r3, r4, r5, r6, r7, r8⟩ := HT3.out
  have hmk := run_make_row' (P := Tryz.prog) 22 25 (.int .u32 0) 4 Tryz.underlying22 (by kernel_rfl) rfl .i64 .i64 an (by omega) (by omega)
  have HA := Lib.hid (show PS w w.heap.size W2.heap.size (W2.heap.size + 1) an (.int .i64 aR) (.int .i64 aC) (.int .i64 aF) (.slice ad an ca) (.int .i64 bR) (.int .i64 bC) (.int .i64 bF) (.slice bd bn cb) (.int .i64 aR) (.int .i64 aC) (.int .i64 2) G 0 (((W2.alloc (.cells (madeCells #[.int .u32 0] an) 25)).alloc (.cells #[.int .i64 (aR : Int), .int .i64 (aC : Int), .int .i64 2, .slice (some ⟨W2.heap.size, 0, none⟩) an an] 24)).drew) from
    ⟨gr, HT1.out.grown gr, HT2.out.grown gr, HT3.out.grown gr, by simpa only [World.size_alloc] using (ten_new (W2.alloc (.cells (madeCells #[.int .u32 0] an) 25)) (.int .i64 (aR : Int)) (.int .i64 (aC : Int)) (.int .i64 2) (.slice (some ⟨W2.heap.size, 0, none⟩) an an) 24).grown (Grown.drew (Grown.refl _)), (Filled.new W2 an G 25).grown (Grown.drew (Grown.alloc (Grown.refl _) _ _)), r0, Nat.lt_succ_of_lt r0, by omega, Nat.le_refl _⟩)
  have HB := Lib.hid (show PS w w.heap.size (W2.heap.size + 1) W2.heap.size an (.int .i64 aR) (.int .i64 aC) (.int .i64 aF) (.slice ad an ca) (.int .i64 bR) (.int .i64 bC) (.int .i64 bF) (.slice bd bn cb) (.int .i64 aR) (.int .i64 aC) (.int .i64 2) G 0 (((W2.alloc (.cells #[.int .i64 (aR : Int), .int .i64 (aC : Int), .int .i64 2, .slice (some ⟨W2.heap.size + 1, 0, none⟩) an an] 24)).alloc (.cells (madeCells #[.int .u32 0] an) 25)).drew) from
    ⟨gr, HT1.out.grown gr, HT2.out.grown gr, HT3.out.grown gr, (ten_new W2 (.int .i64 (aR : Int)) (.int .i64 (aC : Int)) (.int .i64 2) (.slice (some ⟨W2.heap.size + 1, 0, none⟩) an an) 24).grown (Grown.drew (Grown.alloc (Grown.refl _) _ _)), by simpa only [World.size_alloc] using (Filled.new (W2.alloc (.cells #[.int .i64 (aR : Int), .int .i64 (aC : Int), .int .i64 2, .slice (some ⟨W2.heap.size + 1, 0, none⟩) an an] 24)) an G 25).grown (Grown.drew (Grown.refl _)), Nat.lt_succ_of_lt r0, r0, by omega, Nat.le_refl _⟩)
  go_wp2_with fail
  go_region
  all_goals
    go_wp2_with fail
    clear hmk g1 g2 g3 g4 p0 p1 p2 p3 p4 q0 q1 q2 q3 q4 r0 r1 r2 r3 r4 r5 r6 r7 r8
    generalize hW3 : ((W2.alloc _).alloc _).drew = W3
    first
      | (have HP := hW3 ▸ HA.out
         clear hW3 HA HB
         generalize W2.heap.size + 1 = ob at HP ⊢
         generalize W2.heap.size = nb at HP ⊢)
      | (have HP := hW3 ▸ HB.out
         clear hW3 HA HB
         generalize W2.heap.size + 1 = nb at HP ⊢
         generalize W2.heap.size = ob at HP ⊢)
    replace HP := Lib.hid HP
    clear HT1 HT2 HT3 HG
    go_loopw [7] (fun i wr => ProdOut (fun I => PS w w.heap.size nb ob an (.int .i64 aR) (.int .i64 aC) (.int .i64 aF) (.slice ad an ca) (.int .i64 bR) (.int .i64 bC) (.int .i64 bF) (.slice bd bn cb) (.int .i64 aR) (.int .i64 aC) (.int .i64 2) G I) an 1 i wr) (fun i _ => an - (intOf i).toNat)
    case atStart => exact ⟨0, Nat.zero_le _, rfl, HP.out⟩
    case round =>
      rename World => wr
      clear HP
      obtain ⟨I, hI, rfl, hP⟩ := hrel
      rw [Nat.mul_one] at hP
      have HP := Lib.hid hP
      clear hP
      by_cases hI2 : I < an
      · have hJ := HIX.out I hI2
        have hGI := Lib.hid (show G I = (fun t => addV (widV aF g t) (widV bF h (t % aC))) I by rw [HGG.out])
        obtain ⟨J, hJe⟩ : ∃ J, I % aC = J := ⟨_, rfl⟩
        have hc0 : 0 < aC := by
          rcases Nat.eq_zero_or_pos aC with e | e
          · exfalso
            have := HAN.out
            rw [e, Nat.mul_zero] at this
            omega
          · exact e
        rw [hJe] at hJ
        have hrem : Int.tmod (I : Int) (aC : Int) = (J : Int) := by rw [← hJe]; exact (Int.ofNat_tmod I aC).symm
        have hnz : ¬ (aC : Int) = 0 := by omega
        have hnz2 : ¬ aC = 0 := by omega
        have HJE := Lib.hid hJe
        have B1 := wid_bd aF g I
        have B2 := wid_bd bF h (J)
        obtain ⟨u, hu⟩ : ∃ u, widV aF g I = u := ⟨_, rfl⟩
        obtain ⟨v, hv⟩ : ∃ v, widV bF h (J) = v := ⟨_, rfl⟩
        have HGI := Lib.hid (show G I = addV u v by rw [hGI.out]; show addV (widV aF g I) (widV bF h (I % aC)) = _; rw [HJE.out, hu, hv])
        rw [hu] at B1
        rw [hv] at B2
        have HU := Lib.hid hu
        have HV := Lib.hid hv
        have HG := Lib.hid HP.out.g
        clear hu hv
        obtain ⟨p0, p1, p2, p3, p4, _, _, _, _⟩ := HP.out.t1
        obtain ⟨q0, q1, q2, q3, q4, _, _, _, _⟩ := HP.out.t2
        obtain ⟨o0, o1, o2, o3, o4, _, _, _, _⟩ := HP.out.t4
        have y := HP.out.f.cell I hI2
        have z := HP.out.f.free I
        have n1 : ¬ nb = w.heap.size := by have := HP.out.o; omega
        have n2 : ¬ nb = w.heap.size + 1 := by have := HP.out.o; omega
        have n3 : ¬ nb = ob := HP.out.ne
        go_wp2_with fail
        go_region_held3 (fun w' => w'.cell? ⟨w.heap.size, 0, none⟩ = some (.int .i64 aR) ∧ w'.cell? ⟨w.heap.size, 1, none⟩ = some (.int .i64 aC) ∧ w'.cell? ⟨w.heap.size, 2, none⟩ = some (.int .i64 aF) ∧ w'.cell? ⟨w.heap.size, 3, none⟩ = some (.slice ad an ca) ∧ w'.cell? ⟨w.heap.size + 1, 0, none⟩ = some (.int .i64 bR) ∧ w'.cell? ⟨w.heap.size + 1, 1, none⟩ = some (.int .i64 bC) ∧ w'.cell? ⟨w.heap.size + 1, 2, none⟩ = some (.int .i64 bF) ∧ w'.cell? ⟨w.heap.size + 1, 3, none⟩ = some (.slice bd bn cb) ∧ w'.cell? ⟨ob, 3, none⟩ = some (.slice (some ⟨nb, 0, none⟩) an an)) (go_keep) (first
          | (go_at_call 27; ((with_reducible refine (twide_any aR aC aF ad an ca I g _ hn hI2 (H1.out.grown gr)).mono ?_); rintro e W4 ⟨he, hW⟩; rw [HU.out] at he; subst he; replace HG := Lib.hid (show Grown w W4 from grown_trans gr hW); replace HP := Lib.hid (HP.out.grown hW); clear hW p0 p1 p2 p3 p4 q0 q1 q2 q3 q4 o0 o1 o2 o3 o4 y z; obtain ⟨p0, p1, p2, p3, p4, _, _, _, _⟩ := HP.out.t1; obtain ⟨q0, q1, q2, q3, q4, _, _, _, _⟩ := HP.out.t2; obtain ⟨o0, o1, o2, o3, o4, _, _, _, _⟩ := HP.out.t4; have y := HP.out.f.cell I hI2; have z := HP.out.f.free I))
          | (go_at_call 27; ((with_reducible refine (twide_any bR bC bF bd bn cb (J) h _ hn' hJ (H2.out.grown gr)).mono ?_); rintro e W5 ⟨he, hW⟩; rw [HV.out] at he; subst he; replace HG := Lib.hid (show Grown w W5 from grown_trans gr hW); replace HP := Lib.hid (HP.out.grown hW); clear hW p0 p1 p2 p3 p4 q0 q1 q2 q3 q4 o0 o1 o2 o3 o4 y z; obtain ⟨p0, p1, p2, p3, p4, _, _, _, _⟩ := HP.out.t1; obtain ⟨q0, q1, q2, q3, q4, _, _, _, _⟩ := HP.out.t2; obtain ⟨o0, o1, o2, o3, o4, _, _, _, _⟩ := HP.out.t4; have y := HP.out.f.cell I hI2; have z := HP.out.f.free I))
          | (go_at_call 26; refine (nadd_any u v _ B1.1 B1.2 B2.1 B2.2).mono ?_; rintro e W6 ⟨rfl, h0, h1, hW⟩; replace HG := Lib.hid (show Grown w W6 from grown_trans gr hW); replace HP := Lib.hid (HP.out.grown hW); clear hW p0 p1 p2 p3 p4 q0 q1 q2 q3 q4 o0 o1 o2 o3 o4 y z; obtain ⟨p0, p1, p2, p3, p4, _, _, _, _⟩ := HP.out.t1; obtain ⟨q0, q1, q2, q3, q4, _, _, _, _⟩ := HP.out.t2; obtain ⟨o0, o1, o2, o3, o4, _, _, _, _⟩ := HP.out.t4; have y := HP.out.f.cell I hI2; have z := HP.out.f.free I))
        go_wp2
        go_roundw
        case rel => exact ⟨I + 1, by omega, by go_num, by
          have := HP.out.set hI2
          rw [HGI.out] at this
          rw [Nat.mul_one]
          exact this.grown gr⟩
        case measure => simp [intOf]; omega
      · have hI3 : an = I := by omega
        subst hI3
        obtain ⟨p0, p1, p2, p3, p4, _, _, _, _⟩ := HP.out.t4
        obtain ⟨q0, q1, q2, q3, q4, q5, q6, q7, q8⟩ := HP.out.t3
        obtain ⟨r0, r1, r2, r3, r4, _, _, _, _⟩ := HP.out.t1
        have HF := Lib.hid HP.out.f
        have ho : w.heap.size + 1 + 1 < nb := HP.out.o
        have ho2 : w.heap.size + 1 + 1 < ob := HP.out.o2
        have HG := Lib.hid HP.out.g
        go_wp2
        (try simp only [Exit.inBlock, Exit.then])
        refine bodyPost_ret (v := .tuple #[.agg #[.int .i64 (aR : Int), .int .i64 (aC : Int), .int .i64 2, .slice (some ⟨nb, 0, none⟩) an an], .int .i64 0]) ?_ rfl ⟨_, _, rfl, ?_, hn, fun x hx => by cases hx; show w.heap.size ≤ nb; omega, ?_⟩
        · rw [results_cell_tmp rfl]
          go_simp
        · have hne : nb ≠ w.heap.size + 1 + 1 := by omega
          exact ((((HF.out.other (a := ⟨w.heap.size + 1 + 1, 0, none⟩) hne _).other (a := ⟨w.heap.size + 1 + 1, 1, none⟩) hne _).other (a := ⟨w.heap.size + 1 + 1, 2, none⟩) hne _).other (a := ⟨w.heap.size + 1 + 1, 3, none⟩) hne _).reads fun t _ => HGB.out t
        · exact gr

def browT (a b : PT) : PT :=
  if a.right && b.right && (b.R == 1 && b.C == a.C) then ⟨a.R, a.C, 2, a.n, fun t => addV (widV a.F a.g t) (widV b.F b.g (t % a.C.toNat))⟩ else PT.bad

def browX (a b : PT) : Int := if a.right && b.right && (b.R == 1 && b.C == a.C) then 0 else 21

theorem rbrow_any (aR aC aF bR bC bF : Int) (ad bd : Option Addr) (an bn ca cb : Nat) (g h : Nat → Int) (w : World) (hn : an ≤ 9223372036854775807) (hn' : bn ≤ 9223372036854775807) (h1 : Reads ad an g w) (h2 : Reads bd bn h w) :
    Calls Tryz.prog 8 #[.agg #[.int .i64 aR, .int .i64 aC, .int .i64 aF, .slice ad an ca], .agg #[.int .i64 bR, .int .i64 bC, .int .i64 bF, .slice bd bn cb]] w (TenE (browT ⟨aR, aC, aF, an, g⟩ ⟨bR, bC, bF, bn, h⟩) (browX ⟨aR, aC, aF, an, g⟩ ⟨bR, bC, bF, bn, h⟩) w) := by
  unfold browT browX PT.right
  dsimp only
  cases hr : rightB aR aC aF an g
  · exact rbrow_bad1 aR aC aF bR bC bF ad bd an bn ca cb g h w hn hn' h1 h2 hr
  · cases hr2 : rightB bR bC bF bn h
    · exact rbrow_bad2 aR aC aF bR bC bF ad bd an bn ca cb g h w hn hn' h1 h2 hr hr2
    · by_cases hk : bR = 1 ∧ bC = aC
      · obtain ⟨r, c, e1, e2, l1, l2, e3⟩ := right_nat (t := ⟨aR, aC, aF, an, g⟩) hr
        obtain ⟨r', c', f1, f2, l3, l4, f3⟩ := right_nat (t := ⟨bR, bC, bF, bn, h⟩) hr2
        simp only at e1 e2 e3 f1 f2 f3
        subst e1 e2 f1 f2
        obtain ⟨_, m1⟩ := wrap_mul r c an l1 l2 e3.symm
        obtain ⟨_, m2⟩ := wrap_mul r' c' bn l3 l4 f3.symm
        obtain ⟨hk1, hk2⟩ := hk
        have j1 : r' = 1 := by omega
        have j2 : c' = c := by omega
        have hx : ∀ i, i < an → i % c < bn := by
          intro i hi
          rw [f3, j1, j2, Nat.one_mul]
          exact Nat.mod_lt _ (by
            rcases Nat.eq_zero_or_pos c with e | e
            · rw [e, Nat.mul_zero] at e3; omega
            · exact e)
        rw [if_pos (by simp [hk1, hk2]), if_pos (by simp [hk1, hk2])]
        exact rbrow_good aF bF r c r' c' ad bd an bn ca cb g h w m1 m2 h1 h2 l1 l2 l3 l4 hr hr2 j1 j2 hx e3
      · rw [if_neg (by simpa using hk), if_neg (by simpa using hk)]
        exact rbrow_bad3 aR aC aF bR bC bF ad bd an bn ca cb g h w hn hn' h1 h2 hr hr2 hk

set_option maxHeartbeats 1000000 in
theorem reach0_bad1 (aR aC aF bR bC bF : Int) (ad bd : Option Addr) (an bn ca cb : Nat) (g h : Nat → Int) (w : World) (hn : an ≤ 9223372036854775807) (hn' : bn ≤ 9223372036854775807) (h1 : Reads ad an g w) (h2 : Reads bd bn h w) (hr : rightB aR aC aF an g = false) :
    Calls Tryz.prog 12 #[.agg #[.int .i64 aR, .int .i64 aC, .int .i64 aF, .slice ad an ca], .agg #[.int .i64 bR, .int .i64 bC, .int .i64 bF, .slice bd bn cb], .bool false] w (TenE PT.bad 21 w) := by
  have H1 := Lib.hid h1
  have K1 := Lib.hid (show Ending.returned (.bool (rightB aR aC aF an g)) = .returned (.bool false) by rw [hr])
  clear h1 h2 hr
  have HT1 := Lib.hid ((ten_new w (.int .i64 aR) (.int .i64 aC) (.int .i64 aF) (.slice ad an ca) 24).grown (Grown.alloc (Grown.alloc (Grown.refl _) #[.int .i64 bR, .int .i64 bC, .int .i64 bF, .slice bd bn cb] 24) #[.int .i64 0, .int .i64 0, .int .i64 0, .slice none 0 0] 24))
  have HT2 := Lib.hid ((ten_new (w.alloc (.cells #[.int .i64 aR, .int .i64 aC, .int .i64 aF, .slice ad an ca] 24)) (.int .i64 bR) (.int .i64 bC) (.int .i64 bF) (.slice bd bn cb) 24).grown (Grown.alloc (Grown.refl _) #[.int .i64 0, .int .i64 0, .int .i64 0, .slice none 0 0] 24))
  have HT3 := Lib.hid (ten_new ((w.alloc (.cells #[.int .i64 aR, .int .i64 aC, .int .i64 aF, .slice ad an ca] 24)).alloc (.cells #[.int .i64 bR, .int .i64 bC, .int .i64 bF, .slice bd bn cb] 24)) (.int .i64 0) (.int .i64 0) (.int .i64 0) (.slice none 0 0) 24)
  have HG := Lib.hid (Grown.alloc (Grown.alloc (Grown.alloc (Grown.refl w) #[.int .i64 aR, .int .i64 aC, .int .i64 aF, .slice ad an ca] 24) #[.int .i64 bR, .int .i64 bC, .int .i64 bF, .slice bd bn cb] 24) #[.int .i64 0, .int .i64 0, .int .i64 0, .slice none 0 0] 24)
  go_enter Tryz.func12, Tryz.ntmps12
  go_wp2_with fail
  simp only [World.size_alloc] at HT2 HT3
  generalize ((w.alloc _).alloc _).alloc _ = W0 at HT1 HT2 HT3 HG ⊢
  refine (rright_any _ _ _ _ _ _ _ _ (by assumption) (H1.out.grown HG.out)).mono ?_
  rintro e W1 ⟨he, hW⟩
  rw [K1.out] at he
  subst he
  replace HT1 := Lib.hid (HT1.out.grown hW)
  replace HT2 := Lib.hid (HT2.out.grown hW)
  replace HT3 := Lib.hid (HT3.out.grown hW)
  replace HG := Lib.hid (grown_trans HG.out hW)
  clear hW
  obtain ⟨p0, p1, p2, p3, p4, _, _, _, _⟩ := HT1.out
  obtain ⟨q0, q1, q2, q3, q4, _, _, _, _⟩ := HT2.out
  obtain ⟨r0, r1, r2, r3, r4, r5, r6, r7, r8⟩ := HT3.out
  go_wp2
  (try simp only [Exit.inBlock, Exit.then])
  refine bodyPost_ret (v := .tuple #[.agg #[.int .i64 0, .int .i64 0, .int .i64 0, .slice none 0 0], .int .i64 21]) ?_ rfl ⟨none, 0, rfl, Reads.nil _ _ _, by decide, fresh_none _, gr⟩
  rw [results_cell_tmp rfl]
  go_simp

set_option maxHeartbeats 1000000 in
theorem reach0_bad2 (aR aC aF bR bC bF : Int) (ad bd : Option Addr) (an bn ca cb : Nat) (g h : Nat → Int) (w : World) (hn : an ≤ 9223372036854775807) (hn' : bn ≤ 9223372036854775807) (h1 : Reads ad an g w) (h2 : Reads bd bn h w) (hr : rightB aR aC aF an g = true) (hr2 : rightB bR bC bF bn h = false) :
    Calls Tryz.prog 12 #[.agg #[.int .i64 aR, .int .i64 aC, .int .i64 aF, .slice ad an ca], .agg #[.int .i64 bR, .int .i64 bC, .int .i64 bF, .slice bd bn cb], .bool false] w (TenE PT.bad 21 w) := by
  have H1 := Lib.hid h1
  have H2 := Lib.hid h2
  have K1 := Lib.hid (show Ending.returned (.bool (rightB aR aC aF an g)) = .returned (.bool true) by rw [hr])
  have K2 := Lib.hid (show Ending.returned (.bool (rightB bR bC bF bn h)) = .returned (.bool false) by rw [hr2])
  clear h1 h2 hr hr2
  have HT1 := Lib.hid ((ten_new w (.int .i64 aR) (.int .i64 aC) (.int .i64 aF) (.slice ad an ca) 24).grown (Grown.alloc (Grown.alloc (Grown.refl _) #[.int .i64 bR, .int .i64 bC, .int .i64 bF, .slice bd bn cb] 24) #[.int .i64 0, .int .i64 0, .int .i64 0, .slice none 0 0] 24))
  have HT2 := Lib.hid ((ten_new (w.alloc (.cells #[.int .i64 aR, .int .i64 aC, .int .i64 aF, .slice ad an ca] 24)) (.int .i64 bR) (.int .i64 bC) (.int .i64 bF) (.slice bd bn cb) 24).grown (Grown.alloc (Grown.refl _) #[.int .i64 0, .int .i64 0, .int .i64 0, .slice none 0 0] 24))
  have HT3 := Lib.hid (ten_new ((w.alloc (.cells #[.int .i64 aR, .int .i64 aC, .int .i64 aF, .slice ad an ca] 24)).alloc (.cells #[.int .i64 bR, .int .i64 bC, .int .i64 bF, .slice bd bn cb] 24)) (.int .i64 0) (.int .i64 0) (.int .i64 0) (.slice none 0 0) 24)
  have HG := Lib.hid (Grown.alloc (Grown.alloc (Grown.alloc (Grown.refl w) #[.int .i64 aR, .int .i64 aC, .int .i64 aF, .slice ad an ca] 24) #[.int .i64 bR, .int .i64 bC, .int .i64 bF, .slice bd bn cb] 24) #[.int .i64 0, .int .i64 0, .int .i64 0, .slice none 0 0] 24)
  go_enter Tryz.func12, Tryz.ntmps12
  go_wp2_with fail
  simp only [World.size_alloc] at HT2 HT3
  generalize ((w.alloc _).alloc _).alloc _ = W0 at HT1 HT2 HT3 HG ⊢
  refine (rright_any _ _ _ _ _ _ _ _ (by assumption) (H1.out.grown HG.out)).mono ?_
  rintro e W1 ⟨he, hW⟩
  rw [K1.out] at he
  subst he
  replace HT1 := Lib.hid (HT1.out.grown hW)
  replace HT2 := Lib.hid (HT2.out.grown hW)
  replace HT3 := Lib.hid (HT3.out.grown hW)
  replace HG := Lib.hid (grown_trans HG.out hW)
  clear hW
  obtain ⟨p0, p1, p2, p3, p4, _, _, _, _⟩ := HT1.out
  obtain ⟨q0, q1, q2, q3, q4, _, _, _, _⟩ := HT2.out
  obtain ⟨r0, r1, r2, r3, r4, r5, r6, r7, r8⟩ := HT3.out
  go_wp2_with fail
  refine (rright_any _ _ _ _ _ _ _ _ (by assumption) (H2.out.grown HG.out)).mono ?_
  rintro e W2 ⟨he, hW⟩
  rw [K2.out] at he
  subst he
  replace HT1 := Lib.hid (HT1.out.grown hW)
  replace HT2 := Lib.hid (HT2.out.grown hW)
  replace HT3 := Lib.hid (HT3.out.grown hW)
  replace HG := Lib.hid (grown_trans HG.out hW)
  clear hW
  clear p0 p1 p2 p3 p4 q0 q1 q2 q3 q4 r0 r1 r2 r3 r4 r5 r6 r7 r8
  obtain ⟨p0, p1, p2, p3, p4, _, _, _, _⟩ := HT1.out
  obtain ⟨q0, q1, q2, q3, q4, _, _, _, _⟩ := HT2.out
  obtain ⟨r0, r1, r2, r3, r4, r5, r6, r7, r8⟩ := HT3.out
  go_wp2
  (try simp only [Exit.inBlock, Exit.then])
  refine bodyPost_ret (v := .tuple #[.agg #[.int .i64 0, .int .i64 0, .int .i64 0, .slice none 0 0], .int .i64 21]) ?_ rfl ⟨none, 0, rfl, Reads.nil _ _ _, by decide, fresh_none _, gr⟩
  rw [results_cell_tmp rfl]
  go_simp

set_option maxHeartbeats 1000000 in
theorem reach0_bad3 (aR aC aF bR bC bF : Int) (ad bd : Option Addr) (an bn ca cb : Nat) (g h : Nat → Int) (w : World) (hn : an ≤ 9223372036854775807) (hn' : bn ≤ 9223372036854775807) (h1 : Reads ad an g w) (h2 : Reads bd bn h w) (hr : rightB aR aC aF an g = true) (hr2 : rightB bR bC bF bn h = true) (hk : ¬ (aR = bR ∧ aC = bC)) :
    Calls Tryz.prog 12 #[.agg #[.int .i64 aR, .int .i64 aC, .int .i64 aF, .slice ad an ca], .agg #[.int .i64 bR, .int .i64 bC, .int .i64 bF, .slice bd bn cb], .bool false] w (TenE PT.bad 21 w) := by
  have H1 := Lib.hid h1
  have H2 := Lib.hid h2
  have K1 := Lib.hid (show Ending.returned (.bool (rightB aR aC aF an g)) = .returned (.bool true) by rw [hr])
  have K2 := Lib.hid (show Ending.returned (.bool (rightB bR bC bF bn h)) = .returned (.bool true) by rw [hr2])
  clear h1 h2 hr hr2
  have HT1 := Lib.hid ((ten_new w (.int .i64 aR) (.int .i64 aC) (.int .i64 aF) (.slice ad an ca) 24).grown (Grown.alloc (Grown.alloc (Grown.refl _) #[.int .i64 bR, .int .i64 bC, .int .i64 bF, .slice bd bn cb] 24) #[.int .i64 0, .int .i64 0, .int .i64 0, .slice none 0 0] 24))
  have HT2 := Lib.hid ((ten_new (w.alloc (.cells #[.int .i64 aR, .int .i64 aC, .int .i64 aF, .slice ad an ca] 24)) (.int .i64 bR) (.int .i64 bC) (.int .i64 bF) (.slice bd bn cb) 24).grown (Grown.alloc (Grown.refl _) #[.int .i64 0, .int .i64 0, .int .i64 0, .slice none 0 0] 24))
  have HT3 := Lib.hid (ten_new ((w.alloc (.cells #[.int .i64 aR, .int .i64 aC, .int .i64 aF, .slice ad an ca] 24)).alloc (.cells #[.int .i64 bR, .int .i64 bC, .int .i64 bF, .slice bd bn cb] 24)) (.int .i64 0) (.int .i64 0) (.int .i64 0) (.slice none 0 0) 24)
  have HG := Lib.hid (Grown.alloc (Grown.alloc (Grown.alloc (Grown.refl w) #[.int .i64 aR, .int .i64 aC, .int .i64 aF, .slice ad an ca] 24) #[.int .i64 bR, .int .i64 bC, .int .i64 bF, .slice bd bn cb] 24) #[.int .i64 0, .int .i64 0, .int .i64 0, .slice none 0 0] 24)
  by_cases k1 : aR = bR
  · have k2 : ¬ aC = bC := fun e => hk ⟨k1, e⟩
    have f1 : (aR = bR : Prop) = True := by simp [k1]
    have f2 : ((aC : Int) == bC) = false := by simpa using k2
    have f3 : ((aC : Int) != bC) = true := by rw [bne, f2]; rfl
    have f4 : ((aR : Int) != bR) = false := by rw [bne, beq_iff_eq.2 k1]; rfl
    have f5 : ((aR : Int) == bR) = true := beq_iff_eq.2 k1
    clear hk k1 k2 f1
    go_enter Tryz.func12, Tryz.ntmps12
    go_wp2_with fail
    simp only [World.size_alloc] at HT2 HT3
    generalize ((w.alloc _).alloc _).alloc _ = W0 at HT1 HT2 HT3 HG ⊢
    refine (rright_any _ _ _ _ _ _ _ _ (by assumption) (H1.out.grown HG.out)).mono ?_
    rintro e W1 ⟨he, hW⟩
    rw [K1.out] at he
    subst he
    replace HT1 := Lib.hid (HT1.out.grown hW)
    replace HT2 := Lib.hid (HT2.out.grown hW)
    replace HT3 := Lib.hid (HT3.out.grown hW)
    replace HG := Lib.hid (grown_trans HG.out hW)
    clear hW
    obtain ⟨p0, p1, p2, p3, p4, _, _, _, _⟩ := HT1.out
    obtain ⟨q0, q1, q2, q3, q4, _, _, _, _⟩ := HT2.out
    obtain ⟨r0, r1, r2, r3, r4, r5, r6, r7, r8⟩ := HT3.out
    go_wp2_with fail
    refine (rright_any _ _ _ _ _ _ _ _ (by assumption) (H2.out.grown HG.out)).mono ?_
    rintro e W2 ⟨he, hW⟩
    rw [K2.out] at he
    subst he
    replace HT1 := Lib.hid (HT1.out.grown hW)
    replace HT2 := Lib.hid (HT2.out.grown hW)
    replace HT3 := Lib.hid (HT3.out.grown hW)
    replace HG := Lib.hid (grown_trans HG.out hW)
    clear hW
    clear p0 p1 p2 p3 p4 q0 q1 q2 q3 q4 r0 r1 r2 r3 r4 r5 r6 r7 r8
    obtain ⟨p0, p1, p2, p3, p4, _, _, _, _⟩ := HT1.out
    obtain ⟨q0, q1, q2, q3, q4, _, _, _, _⟩ := HT2.out
    obtain ⟨r0, r1, r2, r3, r4, r5, r6, r7, r8⟩ := HT3.out
    go_wp2
    (try simp only [Exit.inBlock, Exit.then])
    refine bodyPost_ret (v := .tuple #[.agg #[.int .i64 0, .int .i64 0, .int .i64 0, .slice none 0 0], .int .i64 21]) ?_ rfl ⟨none, 0, rfl, Reads.nil _ _ _, by decide, fresh_none _, gr⟩
    rw [results_cell_tmp rfl]
    go_simp
  · have f2 : ((aR : Int) == bR) = false := by simpa using k1
    have f3 : ((aR : Int) != bR) = true := by rw [bne, f2]; rfl
    clear hk k1
    go_enter Tryz.func12, Tryz.ntmps12
    go_wp2_with fail
    simp only [World.size_alloc] at HT2 HT3
    generalize ((w.alloc _).alloc _).alloc _ = W0 at HT1 HT2 HT3 HG ⊢
    refine (rright_any _ _ _ _ _ _ _ _ (by assumption) (H1.out.grown HG.out)).mono ?_
    rintro e W1 ⟨he, hW⟩
    rw [K1.out] at he
    subst he
    replace HT1 := Lib.hid (HT1.out.grown hW)
    replace HT2 := Lib.hid (HT2.out.grown hW)
    replace HT3 := Lib.hid (HT3.out.grown hW)
    replace HG := Lib.hid (grown_trans HG.out hW)
    clear hW
    obtain ⟨p0, p1, p2, p3, p4, _, _, _, _⟩ := HT1.out
    obtain ⟨q0, q1, q2, q3, q4, _, _, _, _⟩ := HT2.out
    obtain ⟨r0, r1, r2, r3, r4, r5, r6, r7, r8⟩ := HT3.out
    go_wp2_with fail
    refine (rright_any _ _ _ _ _ _ _ _ (by assumption) (H2.out.grown HG.out)).mono ?_
    rintro e W2 ⟨he, hW⟩
    rw [K2.out] at he
    subst he
    replace HT1 := Lib.hid (HT1.out.grown hW)
    replace HT2 := Lib.hid (HT2.out.grown hW)
    replace HT3 := Lib.hid (HT3.out.grown hW)
    replace HG := Lib.hid (grown_trans HG.out hW)
    clear hW
    clear p0 p1 p2 p3 p4 q0 q1 q2 q3 q4 r0 r1 r2 r3 r4 r5 r6 r7 r8
    obtain ⟨p0, p1, p2, p3, p4, _, _, _, _⟩ := HT1.out
    obtain ⟨q0, q1, q2, q3, q4, _, _, _, _⟩ := HT2.out
    obtain ⟨r0, r1, r2, r3, r4, r5, r6, r7, r8⟩ := HT3.out
    go_wp2
    (try simp only [Exit.inBlock, Exit.then])
    refine bodyPost_ret (v := .tuple #[.agg #[.int .i64 0, .int .i64 0, .int .i64 0, .slice none 0 0], .int .i64 21]) ?_ rfl ⟨none, 0, rfl, Reads.nil _ _ _, by decide, fresh_none _, gr⟩
    rw [results_cell_tmp rfl]
    go_simp

set_option maxRecDepth 100000 in
set_option maxHeartbeats 4000000 in
theorem reach0_good (aF bF : Int) (aR aC bR bC : Nat) (ad bd : Option Addr) (an bn ca cb : Nat) (g h : Nat → Int) (w : World) (hn2 : an ≤ 16777216) (hn2' : bn ≤ 16777216) (h1 : Reads ad an g w) (h2 : Reads bd bn h w)
    (ha1 : aR ≤ 4096) (ha2 : aC ≤ 4096) (hb1 : bR ≤ 4096) (hb2 : bC ≤ 4096) (hr : rightB aR aC aF an g = true) (hr2 : rightB bR bC bF bn h = true) (k1 : aR = bR) (k2 : aC = bC) (hix : ∀ i, i < an → i < bn) (han : an = aR * aC) :
    Calls Tryz.prog 12 #[.agg #[.int .i64 aR, .int .i64 aC, .int .i64 aF, .slice ad an ca], .agg #[.int .i64 bR, .int .i64 bC, .int .i64 bF, .slice bd bn cb], .bool false] w (TenE ⟨aR, aC, 2, an, fun t => addV (widV aF g t) (widV bF h t)⟩ 0 w) := by
  have H1 := Lib.hid h1
  have H2 := Lib.hid h2
  have K1 := Lib.hid (show Ending.returned (.bool (rightB aR aC aF an g)) = .returned (.bool true) by rw [hr])
  have K2 := Lib.hid (show Ending.returned (.bool (rightB bR bC bF bn h)) = .returned (.bool true) by rw [hr2])
  have hn : an ≤ 9223372036854775807 := by omega
  have hn' : bn ≤ 9223372036854775807 := by omega
  have HIX := Lib.hid hix
  have HAN := Lib.hid han
  clear h1 h2 hr hr2 hix han
  obtain ⟨G, hG⟩ : ∃ G : Nat → Int, G = fun t => addV (widV aF g t) (widV bF h t) := ⟨_, rfl⟩
  rw [← hG]
  have HGB := Lib.hid (show ∀ t, 0 ≤ G t ∧ G t ≤ 4294967295 from fun t => by rw [hG]; exact addV_bd _ _)
  have HGG := Lib.hid hG
  clear hG
  have HT1 := Lib.hid ((ten_new w (.int .i64 (aR : Int)) (.int .i64 (aC : Int)) (.int .i64 aF) (.slice ad an ca) 24).grown (Grown.alloc (Grown.alloc (Grown.refl _) #[.int .i64 (bR : Int), .int .i64 (bC : Int), .int .i64 bF, .slice bd bn cb] 24) #[.int .i64 0, .int .i64 0, .int .i64 0, .slice none 0 0] 24))
  have HT2 := Lib.hid ((ten_new (w.alloc (.cells #[.int .i64 (aR : Int), .int .i64 (aC : Int), .int .i64 aF, .slice ad an ca] 24)) (.int .i64 (bR : Int)) (.int .i64 (bC : Int)) (.int .i64 bF) (.slice bd bn cb) 24).grown (Grown.alloc (Grown.refl _) #[.int .i64 0, .int .i64 0, .int .i64 0, .slice none 0 0] 24))
  have HT3 := Lib.hid (ten_new ((w.alloc (.cells #[.int .i64 (aR : Int), .int .i64 (aC : Int), .int .i64 aF, .slice ad an ca] 24)).alloc (.cells #[.int .i64 (bR : Int), .int .i64 (bC : Int), .int .i64 bF, .slice bd bn cb] 24)) (.int .i64 0) (.int .i64 0) (.int .i64 0) (.slice none 0 0) 24)
  have HG := Lib.hid (Grown.alloc (Grown.alloc (Grown.alloc (Grown.refl w) #[.int .i64 (aR : Int), .int .i64 (aC : Int), .int .i64 aF, .slice ad an ca] 24) #[.int .i64 (bR : Int), .int .i64 (bC : Int), .int .i64 bF, .slice bd bn cb] 24) #[.int .i64 0, .int .i64 0, .int .i64 0, .slice none 0 0] 24)
  have g1 : ((aR : Int) == bR) = true := by rw [k1]; simp
  have g2 : ((aR : Int) != bR) = false := by rw [bne, g1]; rfl
  have g3 : ((aC : Int) == bC) = true := by rw [k2]; simp
  have g4 : ((aC : Int) != bC) = false := by rw [bne, g3]; rfl
  have KK := Lib.hid (show aR = bR ∧ aC = bC from ⟨k1, k2⟩)
  clear k1 k2
  go_enter Tryz.func12, Tryz.ntmps12
  go_wp2_with fail
  simp only [World.size_alloc] at HT2 HT3
  generalize ((w.alloc _).alloc _).alloc _ = W0 at HT1 HT2 HT3 HG ⊢
  refine (rright_any _ _ _ _ _ _ _ _ (by assumption) (H1.out.grown HG.out)).mono ?_
  rintro e W1 ⟨he, hW⟩
  rw [K1.out] at he
  subst he
  replace HT1 := Lib.hid (HT1.out.grown hW)
  replace HT2 := Lib.hid (HT2.out.grown hW)
  replace HT3 := Lib.hid (HT3.out.grown hW)
  replace HG := Lib.hid (grown_trans HG.out hW)
  clear hW
  obtain ⟨p0, p1, p2, p3, p4, _, _, _, _⟩ := HT1.out
  obtain ⟨q0, q1, q2, q3, q4, _, _, _, _⟩ := HT2.out
  obtain ⟨r0, r1, r2, r3, r4, r5, r6, r7, r8⟩ := HT3.out
  go_wp2_with fail
  refine (rright_any _ _ _ _ _ _ _ _ (by assumption) (H2.out.grown HG.out)).mono ?_
  rintro e W2 ⟨he, hW⟩
  rw [K2.out] at he
  subst he
  replace HT1 := Lib.hid (HT1.out.grown hW)
  replace HT2 := Lib.hid (HT2.out.grown hW)
  replace HT3 := Lib.hid (HT3.out.grown hW)
  replace HG := Lib.hid (grown_trans HG.out hW)
  clear hW
  clear p0 p1 p2 p3 p4 q0 q1 q2 q3 q4 r0 r1 r2 r3 r4 r5 r6 r7 r8
  obtain ⟨p0, p1, p2, p3, p4, _, _, _, _⟩ := HT1.out
  obtain ⟨q0, q1, q2, q3, q4, _, _, _, _⟩ := HT2.out
  obtain ⟨r0, r1, r2, r3, r4, r5, r6, r7, r8⟩ := HT3.out
  have hmk := run_make_row' (P := Tryz.prog) 22 25 (.int .u32 0) 4 Tryz.underlying22 (by kernel_rfl) rfl .i64 .i64 an (by omega) (by omega)
  have HA := Lib.hid (show PS w w.heap.size W2.heap.size (W2.heap.size + 1) an (.int .i64 aR) (.int .i64 aC) (.int .i64 aF) (.slice ad an ca) (.int .i64 bR) (.int .i64 bC) (.int .i64 bF) (.slice bd bn cb) (.int .i64 aR) (.int .i64 aC) (.int .i64 2) G 0 (((W2.alloc (.cells (madeCells #[.int .u32 0] an) 25)).alloc (.cells #[.int .i64 (aR : Int), .int .i64 (aC : Int), .int .i64 2, .slice (some ⟨W2.heap.size, 0, none⟩) an an] 24)).drew) from
    ⟨gr, HT1.out.grown gr, HT2.out.grown gr, HT3.out.grown gr, by simpa only [World.size_alloc] using (ten_new (W2.alloc (.cells (madeCells #[.int .u32 0] an) 25)) (.int .i64 (aR : Int)) (.int .i64 (aC : Int)) (.int .i64 2) (.slice (some ⟨W2.heap.size, 0, none⟩) an an) 24).grown (Grown.drew (Grown.refl _)), (Filled.new W2 an G 25).grown (Grown.drew (Grown.alloc (Grown.refl _) _ _)), r0, Nat.lt_succ_of_lt r0, by omega, Nat.le_refl _⟩)
  have HB := Lib.hid (show PS w w.heap.size (W2.heap.size + 1) W2.heap.size an (.int .i64 aR) (.int .i64 aC) (.int .i64 aF) (.slice ad an ca) (.int .i64 bR) (.int .i64 bC) (.int .i64 bF) (.slice bd bn cb) (.int .i64 aR) (.int .i64 aC) (.int .i64 2) G 0 (((W2.alloc (.cells #[.int .i64 (aR : Int), .int .i64 (aC : Int), .int .i64 2, .slice (some ⟨W2.heap.size + 1, 0, none⟩) an an] 24)).alloc (.cells (madeCells #[.int .u32 0] an) 25)).drew) from
    ⟨gr, HT1.out.grown gr, HT2.out.grown gr, HT3.out.grown gr, (ten_new W2 (.int .i64 (aR : Int)) (.int .i64 (aC : Int)) (.int .i64 2) (.slice (some ⟨W2.heap.size + 1, 0, none⟩) an an) 24).grown (Grown.drew (Grown.alloc (Grown.refl _) _ _)), by simpa only [World.size_alloc] using (Filled.new (W2.alloc (.cells #[.int .i64 (aR : Int), .int .i64 (aC : Int), .int .i64 2, .slice (some ⟨W2.heap.size + 1, 0, none⟩) an an] 24)) an G 25).grown (Grown.drew (Grown.refl _)), Nat.lt_succ_of_lt r0, r0, by omega, Nat.le_refl _⟩)
  go_wp2_with fail
  go_region
  all_goals
    go_wp2_with fail
    clear hmk g1 g2 g3 g4 p0 p1 p2 p3 p4 q0 q1 q2 q3 q4 r0 r1 r2 r3 r4 r5 r6 r7 r8
    generalize hW3 : ((W2.alloc _).alloc _).drew = W3
    first
      | (have HP := hW3 ▸ HA.out
         clear hW3 HA HB
         generalize W2.heap.size + 1 = ob at HP ⊢
         generalize W2.heap.size = nb at HP ⊢)
      | (have HP := hW3 ▸ HB.out
         clear hW3 HA HB
         generalize W2.heap.size + 1 = nb at HP ⊢
         generalize W2.heap.size = ob at HP ⊢)
    replace HP := Lib.hid HP
    clear HT1 HT2 HT3 HG
    go_loopw [9] (fun i wr => ProdOut (fun I => PS w w.heap.size nb ob an (.int .i64 aR) (.int .i64 aC) (.int .i64 aF) (.slice ad an ca) (.int .i64 bR) (.int .i64 bC) (.int .i64 bF) (.slice bd bn cb) (.int .i64 aR) (.int .i64 aC) (.int .i64 2) G I) an 1 i wr) (fun i _ => an - (intOf i).toNat)
    case atStart => exact ⟨0, Nat.zero_le _, rfl, HP.out⟩
    case round =>
      rename World => wr
      clear HP
      obtain ⟨I, hI, rfl, hP⟩ := hrel
      rw [Nat.mul_one] at hP
      have HP := Lib.hid hP
      clear hP
      by_cases hI2 : I < an
      · have hJ := HIX.out I hI2
        have hGI := Lib.hid (show G I = (fun t => addV (widV aF g t) (widV bF h t)) I by rw [HGG.out])
        skip
        have B1 := wid_bd aF g I
        have B2 := wid_bd bF h (I)
        obtain ⟨u, hu⟩ : ∃ u, widV aF g I = u := ⟨_, rfl⟩
        obtain ⟨v, hv⟩ : ∃ v, widV bF h (I) = v := ⟨_, rfl⟩
        have HGI := Lib.hid (show G I = addV u v by rw [hGI.out]; show addV (widV aF g I) (widV bF h I) = _; rw [hu, hv])
        rw [hu] at B1
        rw [hv] at B2
        have HU := Lib.hid hu
        have HV := Lib.hid hv
        have HG := Lib.hid HP.out.g
        clear hu hv
        obtain ⟨p0, p1, p2, p3, p4, _, _, _, _⟩ := HP.out.t1
        obtain ⟨q0, q1, q2, q3, q4, _, _, _, _⟩ := HP.out.t2
        obtain ⟨o0, o1, o2, o3, o4, _, _, _, _⟩ := HP.out.t4
        have y := HP.out.f.cell I hI2
        have z := HP.out.f.free I
        have n1 : ¬ nb = w.heap.size := by have := HP.out.o; omega
        have n2 : ¬ nb = w.heap.size + 1 := by have := HP.out.o; omega
        have n3 : ¬ nb = ob := HP.out.ne
        go_wp2_with fail
        go_region_held3 (fun w' => w'.cell? ⟨w.heap.size, 0, none⟩ = some (.int .i64 aR) ∧ w'.cell? ⟨w.heap.size, 1, none⟩ = some (.int .i64 aC) ∧ w'.cell? ⟨w.heap.size, 2, none⟩ = some (.int .i64 aF) ∧ w'.cell? ⟨w.heap.size, 3, none⟩ = some (.slice ad an ca) ∧ w'.cell? ⟨w.heap.size + 1, 0, none⟩ = some (.int .i64 bR) ∧ w'.cell? ⟨w.heap.size + 1, 1, none⟩ = some (.int .i64 bC) ∧ w'.cell? ⟨w.heap.size + 1, 2, none⟩ = some (.int .i64 bF) ∧ w'.cell? ⟨w.heap.size + 1, 3, none⟩ = some (.slice bd bn cb) ∧ w'.cell? ⟨ob, 3, none⟩ = some (.slice (some ⟨nb, 0, none⟩) an an)) (go_keep) (first
          | (go_at_call 27; ((with_reducible refine (twide_any aR aC aF ad an ca I g _ hn hI2 (H1.out.grown gr)).mono ?_); rintro e W4 ⟨he, hW⟩; rw [HU.out] at he; subst he; replace HG := Lib.hid (show Grown w W4 from grown_trans gr hW); replace HP := Lib.hid (HP.out.grown hW); clear hW p0 p1 p2 p3 p4 q0 q1 q2 q3 q4 o0 o1 o2 o3 o4 y z; obtain ⟨p0, p1, p2, p3, p4, _, _, _, _⟩ := HP.out.t1; obtain ⟨q0, q1, q2, q3, q4, _, _, _, _⟩ := HP.out.t2; obtain ⟨o0, o1, o2, o3, o4, _, _, _, _⟩ := HP.out.t4; have y := HP.out.f.cell I hI2; have z := HP.out.f.free I))
          | (go_at_call 27; ((with_reducible refine (twide_any bR bC bF bd bn cb (I) h _ hn' hJ (H2.out.grown gr)).mono ?_); rintro e W5 ⟨he, hW⟩; rw [HV.out] at he; subst he; replace HG := Lib.hid (show Grown w W5 from grown_trans gr hW); replace HP := Lib.hid (HP.out.grown hW); clear hW p0 p1 p2 p3 p4 q0 q1 q2 q3 q4 o0 o1 o2 o3 o4 y z; obtain ⟨p0, p1, p2, p3, p4, _, _, _, _⟩ := HP.out.t1; obtain ⟨q0, q1, q2, q3, q4, _, _, _, _⟩ := HP.out.t2; obtain ⟨o0, o1, o2, o3, o4, _, _, _, _⟩ := HP.out.t4; have y := HP.out.f.cell I hI2; have z := HP.out.f.free I))
          | (go_at_call 26; refine (nadd_any u v _ B1.1 B1.2 B2.1 B2.2).mono ?_; rintro e W6 ⟨rfl, h0, h1, hW⟩; replace HG := Lib.hid (show Grown w W6 from grown_trans gr hW); replace HP := Lib.hid (HP.out.grown hW); clear hW p0 p1 p2 p3 p4 q0 q1 q2 q3 q4 o0 o1 o2 o3 o4 y z; obtain ⟨p0, p1, p2, p3, p4, _, _, _, _⟩ := HP.out.t1; obtain ⟨q0, q1, q2, q3, q4, _, _, _, _⟩ := HP.out.t2; obtain ⟨o0, o1, o2, o3, o4, _, _, _, _⟩ := HP.out.t4; have y := HP.out.f.cell I hI2; have z := HP.out.f.free I))
        go_wp2
        go_roundw
        case rel => exact ⟨I + 1, by omega, by go_num, by
          have := HP.out.set hI2
          rw [HGI.out] at this
          rw [Nat.mul_one]
          exact this.grown gr⟩
        case measure => simp [intOf]; omega
      · have hI3 : an = I := by omega
        subst hI3
        obtain ⟨p0, p1, p2, p3, p4, _, _, _, _⟩ := HP.out.t4
        obtain ⟨q0, q1, q2, q3, q4, q5, q6, q7, q8⟩ := HP.out.t3
        obtain ⟨r0, r1, r2, r3, r4, _, _, _, _⟩ := HP.out.t1
        have HF := Lib.hid HP.out.f
        have ho : w.heap.size + 1 + 1 < nb := HP.out.o
        have ho2 : w.heap.size + 1 + 1 < ob := HP.out.o2
        have HG := Lib.hid HP.out.g
        go_wp2
        (try simp only [Exit.inBlock, Exit.then])
        refine bodyPost_ret (v := .tuple #[.agg #[.int .i64 (aR : Int), .int .i64 (aC : Int), .int .i64 2, .slice (some ⟨nb, 0, none⟩) an an], .int .i64 0]) ?_ rfl ⟨_, _, rfl, ?_, hn, fun x hx => by cases hx; show w.heap.size ≤ nb; omega, ?_⟩
        · rw [results_cell_tmp rfl]
          go_simp
        · have hne : nb ≠ w.heap.size + 1 + 1 := by omega
          exact ((((HF.out.other (a := ⟨w.heap.size + 1 + 1, 0, none⟩) hne _).other (a := ⟨w.heap.size + 1 + 1, 1, none⟩) hne _).other (a := ⟨w.heap.size + 1 + 1, 2, none⟩) hne _).other (a := ⟨w.heap.size + 1 + 1, 3, none⟩) hne _).reads fun t _ => HGB.out t
        · exact gr

def each0T (a b : PT) : PT :=
  if a.right && b.right && (a.R == b.R && a.C == b.C) then ⟨a.R, a.C, 2, a.n, fun t => addV (widV a.F a.g t) (widV b.F b.g t)⟩ else PT.bad

def each0X (a b : PT) : Int := if a.right && b.right && (a.R == b.R && a.C == b.C) then 0 else 21

theorem reach0_any (aR aC aF bR bC bF : Int) (ad bd : Option Addr) (an bn ca cb : Nat) (g h : Nat → Int) (w : World) (hn : an ≤ 9223372036854775807) (hn' : bn ≤ 9223372036854775807) (h1 : Reads ad an g w) (h2 : Reads bd bn h w) :
    Calls Tryz.prog 12 #[.agg #[.int .i64 aR, .int .i64 aC, .int .i64 aF, .slice ad an ca], .agg #[.int .i64 bR, .int .i64 bC, .int .i64 bF, .slice bd bn cb], .bool false] w (TenE (each0T ⟨aR, aC, aF, an, g⟩ ⟨bR, bC, bF, bn, h⟩) (each0X ⟨aR, aC, aF, an, g⟩ ⟨bR, bC, bF, bn, h⟩) w) := by
  unfold each0T each0X PT.right
  dsimp only
  cases hr : rightB aR aC aF an g
  · exact reach0_bad1 aR aC aF bR bC bF ad bd an bn ca cb g h w hn hn' h1 h2 hr
  · cases hr2 : rightB bR bC bF bn h
    · exact reach0_bad2 aR aC aF bR bC bF ad bd an bn ca cb g h w hn hn' h1 h2 hr hr2
    · by_cases hk : aR = bR ∧ aC = bC
      · obtain ⟨r, c, e1, e2, l1, l2, e3⟩ := right_nat (t := ⟨aR, aC, aF, an, g⟩) hr
        obtain ⟨r', c', f1, f2, l3, l4, f3⟩ := right_nat (t := ⟨bR, bC, bF, bn, h⟩) hr2
        simp only at e1 e2 e3 f1 f2 f3
        subst e1 e2 f1 f2
        obtain ⟨_, m1⟩ := wrap_mul r c an l1 l2 e3.symm
        obtain ⟨_, m2⟩ := wrap_mul r' c' bn l3 l4 f3.symm
        obtain ⟨hk1, hk2⟩ := hk
        have j1 : r = r' := by omega
        have j2 : c = c' := by omega
        have hx : ∀ i, i < an → i < bn := by
          intro i hi
          rw [f3, ← j1, ← j2, ← e3]; exact hi
        rw [if_pos (by simp [hk1, hk2]), if_pos (by simp [hk1, hk2])]
        exact reach0_good aF bF r c r' c' ad bd an bn ca cb g h w m1 m2 h1 h2 l1 l2 l3 l4 hr hr2 j1 j2 hx e3
      · rw [if_neg (by simpa using hk), if_neg (by simpa using hk)]
        exact reach0_bad3 aR aC aF bR bC bF ad bd an bn ca cb g h w hn hn' h1 h2 hr hr2 hk

set_option maxHeartbeats 1000000 in
theorem reach1_bad1 (aR aC aF bR bC bF : Int) (ad bd : Option Addr) (an bn ca cb : Nat) (g h : Nat → Int) (w : World) (hn : an ≤ 9223372036854775807) (hn' : bn ≤ 9223372036854775807) (h1 : Reads ad an g w) (h2 : Reads bd bn h w) (hr : rightB aR aC aF an g = false) :
    Calls Tryz.prog 12 #[.agg #[.int .i64 aR, .int .i64 aC, .int .i64 aF, .slice ad an ca], .agg #[.int .i64 bR, .int .i64 bC, .int .i64 bF, .slice bd bn cb], .bool true] w (TenE PT.bad 21 w) := by
  have H1 := Lib.hid h1
  have K1 := Lib.hid (show Ending.returned (.bool (rightB aR aC aF an g)) = .returned (.bool false) by rw [hr])
  clear h1 h2 hr
  have HT1 := Lib.hid ((ten_new w (.int .i64 aR) (.int .i64 aC) (.int .i64 aF) (.slice ad an ca) 24).grown (Grown.alloc (Grown.alloc (Grown.refl _) #[.int .i64 bR, .int .i64 bC, .int .i64 bF, .slice bd bn cb] 24) #[.int .i64 0, .int .i64 0, .int .i64 0, .slice none 0 0] 24))
  have HT2 := Lib.hid ((ten_new (w.alloc (.cells #[.int .i64 aR, .int .i64 aC, .int .i64 aF, .slice ad an ca] 24)) (.int .i64 bR) (.int .i64 bC) (.int .i64 bF) (.slice bd bn cb) 24).grown (Grown.alloc (Grown.refl _) #[.int .i64 0, .int .i64 0, .int .i64 0, .slice none 0 0] 24))
  have HT3 := Lib.hid (ten_new ((w.alloc (.cells #[.int .i64 aR, .int .i64 aC, .int .i64 aF, .slice ad an ca] 24)).alloc (.cells #[.int .i64 bR, .int .i64 bC, .int .i64 bF, .slice bd bn cb] 24)) (.int .i64 0) (.int .i64 0) (.int .i64 0) (.slice none 0 0) 24)
  have HG := Lib.hid (Grown.alloc (Grown.alloc (Grown.alloc (Grown.refl w) #[.int .i64 aR, .int .i64 aC, .int .i64 aF, .slice ad an ca] 24) #[.int .i64 bR, .int .i64 bC, .int .i64 bF, .slice bd bn cb] 24) #[.int .i64 0, .int .i64 0, .int .i64 0, .slice none 0 0] 24)
  go_enter Tryz.func12, Tryz.ntmps12
  go_wp2_with fail
  simp only [World.size_alloc] at HT2 HT3
  generalize ((w.alloc _).alloc _).alloc _ = W0 at HT1 HT2 HT3 HG ⊢
  refine (rright_any _ _ _ _ _ _ _ _ (by assumption) (H1.out.grown HG.out)).mono ?_
  rintro e W1 ⟨he, hW⟩
  rw [K1.out] at he
  subst he
  replace HT1 := Lib.hid (HT1.out.grown hW)
  replace HT2 := Lib.hid (HT2.out.grown hW)
  replace HT3 := Lib.hid (HT3.out.grown hW)
  replace HG := Lib.hid (grown_trans HG.out hW)
  clear hW
  obtain ⟨p0, p1, p2, p3, p4, _, _, _, _⟩ := HT1.out
  obtain ⟨q0, q1, q2, q3, q4, _, _, _, _⟩ := HT2.out
  obtain ⟨r0, r1, r2, r3, r4, r5, r6, r7, r8⟩ := HT3.out
  go_wp2
  (try simp only [Exit.inBlock, Exit.then])
  refine bodyPost_ret (v := .tuple #[.agg #[.int .i64 0, .int .i64 0, .int .i64 0, .slice none 0 0], .int .i64 21]) ?_ rfl ⟨none, 0, rfl, Reads.nil _ _ _, by decide, fresh_none _, gr⟩
  rw [results_cell_tmp rfl]
  go_simp

set_option maxHeartbeats 1000000 in
theorem reach1_bad2 (aR aC aF bR bC bF : Int) (ad bd : Option Addr) (an bn ca cb : Nat) (g h : Nat → Int) (w : World) (hn : an ≤ 9223372036854775807) (hn' : bn ≤ 9223372036854775807) (h1 : Reads ad an g w) (h2 : Reads bd bn h w) (hr : rightB aR aC aF an g = true) (hr2 : rightB bR bC bF bn h = false) :
    Calls Tryz.prog 12 #[.agg #[.int .i64 aR, .int .i64 aC, .int .i64 aF, .slice ad an ca], .agg #[.int .i64 bR, .int .i64 bC, .int .i64 bF, .slice bd bn cb], .bool true] w (TenE PT.bad 21 w) := by
  have H1 := Lib.hid h1
  have H2 := Lib.hid h2
  have K1 := Lib.hid (show Ending.returned (.bool (rightB aR aC aF an g)) = .returned (.bool true) by rw [hr])
  have K2 := Lib.hid (show Ending.returned (.bool (rightB bR bC bF bn h)) = .returned (.bool false) by rw [hr2])
  clear h1 h2 hr hr2
  have HT1 := Lib.hid ((ten_new w (.int .i64 aR) (.int .i64 aC) (.int .i64 aF) (.slice ad an ca) 24).grown (Grown.alloc (Grown.alloc (Grown.refl _) #[.int .i64 bR, .int .i64 bC, .int .i64 bF, .slice bd bn cb] 24) #[.int .i64 0, .int .i64 0, .int .i64 0, .slice none 0 0] 24))
  have HT2 := Lib.hid ((ten_new (w.alloc (.cells #[.int .i64 aR, .int .i64 aC, .int .i64 aF, .slice ad an ca] 24)) (.int .i64 bR) (.int .i64 bC) (.int .i64 bF) (.slice bd bn cb) 24).grown (Grown.alloc (Grown.refl _) #[.int .i64 0, .int .i64 0, .int .i64 0, .slice none 0 0] 24))
  have HT3 := Lib.hid (ten_new ((w.alloc (.cells #[.int .i64 aR, .int .i64 aC, .int .i64 aF, .slice ad an ca] 24)).alloc (.cells #[.int .i64 bR, .int .i64 bC, .int .i64 bF, .slice bd bn cb] 24)) (.int .i64 0) (.int .i64 0) (.int .i64 0) (.slice none 0 0) 24)
  have HG := Lib.hid (Grown.alloc (Grown.alloc (Grown.alloc (Grown.refl w) #[.int .i64 aR, .int .i64 aC, .int .i64 aF, .slice ad an ca] 24) #[.int .i64 bR, .int .i64 bC, .int .i64 bF, .slice bd bn cb] 24) #[.int .i64 0, .int .i64 0, .int .i64 0, .slice none 0 0] 24)
  go_enter Tryz.func12, Tryz.ntmps12
  go_wp2_with fail
  simp only [World.size_alloc] at HT2 HT3
  generalize ((w.alloc _).alloc _).alloc _ = W0 at HT1 HT2 HT3 HG ⊢
  refine (rright_any _ _ _ _ _ _ _ _ (by assumption) (H1.out.grown HG.out)).mono ?_
  rintro e W1 ⟨he, hW⟩
  rw [K1.out] at he
  subst he
  replace HT1 := Lib.hid (HT1.out.grown hW)
  replace HT2 := Lib.hid (HT2.out.grown hW)
  replace HT3 := Lib.hid (HT3.out.grown hW)
  replace HG := Lib.hid (grown_trans HG.out hW)
  clear hW
  obtain ⟨p0, p1, p2, p3, p4, _, _, _, _⟩ := HT1.out
  obtain ⟨q0, q1, q2, q3, q4, _, _, _, _⟩ := HT2.out
  obtain ⟨r0, r1, r2, r3, r4, r5, r6, r7, r8⟩ := HT3.out
  go_wp2_with fail
  refine (rright_any _ _ _ _ _ _ _ _ (by assumption) (H2.out.grown HG.out)).mono ?_
  rintro e W2 ⟨he, hW⟩
  rw [K2.out] at he
  subst he
  replace HT1 := Lib.hid (HT1.out.grown hW)
  replace HT2 := Lib.hid (HT2.out.grown hW)
  replace HT3 := Lib.hid (HT3.out.grown hW)
  replace HG := Lib.hid (grown_trans HG.out hW)
  clear hW
  clear p0 p1 p2 p3 p4 q0 q1 q2 q3 q4 r0 r1 r2 r3 r4 r5 r6 r7 r8
  obtain ⟨p0, p1, p2, p3, p4, _, _, _, _⟩ := HT1.out
  obtain ⟨q0, q1, q2, q3, q4, _, _, _, _⟩ := HT2.out
  obtain ⟨r0, r1, r2, r3, r4, r5, r6, r7, r8⟩ := HT3.out
  go_wp2
  (try simp only [Exit.inBlock, Exit.then])
  refine bodyPost_ret (v := .tuple #[.agg #[.int .i64 0, .int .i64 0, .int .i64 0, .slice none 0 0], .int .i64 21]) ?_ rfl ⟨none, 0, rfl, Reads.nil _ _ _, by decide, fresh_none _, gr⟩
  rw [results_cell_tmp rfl]
  go_simp

set_option maxHeartbeats 1000000 in
theorem reach1_bad3 (aR aC aF bR bC bF : Int) (ad bd : Option Addr) (an bn ca cb : Nat) (g h : Nat → Int) (w : World) (hn : an ≤ 9223372036854775807) (hn' : bn ≤ 9223372036854775807) (h1 : Reads ad an g w) (h2 : Reads bd bn h w) (hr : rightB aR aC aF an g = true) (hr2 : rightB bR bC bF bn h = true) (hk : ¬ (aR = bR ∧ aC = bC)) :
    Calls Tryz.prog 12 #[.agg #[.int .i64 aR, .int .i64 aC, .int .i64 aF, .slice ad an ca], .agg #[.int .i64 bR, .int .i64 bC, .int .i64 bF, .slice bd bn cb], .bool true] w (TenE PT.bad 21 w) := by
  have H1 := Lib.hid h1
  have H2 := Lib.hid h2
  have K1 := Lib.hid (show Ending.returned (.bool (rightB aR aC aF an g)) = .returned (.bool true) by rw [hr])
  have K2 := Lib.hid (show Ending.returned (.bool (rightB bR bC bF bn h)) = .returned (.bool true) by rw [hr2])
  clear h1 h2 hr hr2
  have HT1 := Lib.hid ((ten_new w (.int .i64 aR) (.int .i64 aC) (.int .i64 aF) (.slice ad an ca) 24).grown (Grown.alloc (Grown.alloc (Grown.refl _) #[.int .i64 bR, .int .i64 bC, .int .i64 bF, .slice bd bn cb] 24) #[.int .i64 0, .int .i64 0, .int .i64 0, .slice none 0 0] 24))
  have HT2 := Lib.hid ((ten_new (w.alloc (.cells #[.int .i64 aR, .int .i64 aC, .int .i64 aF, .slice ad an ca] 24)) (.int .i64 bR) (.int .i64 bC) (.int .i64 bF) (.slice bd bn cb) 24).grown (Grown.alloc (Grown.refl _) #[.int .i64 0, .int .i64 0, .int .i64 0, .slice none 0 0] 24))
  have HT3 := Lib.hid (ten_new ((w.alloc (.cells #[.int .i64 aR, .int .i64 aC, .int .i64 aF, .slice ad an ca] 24)).alloc (.cells #[.int .i64 bR, .int .i64 bC, .int .i64 bF, .slice bd bn cb] 24)) (.int .i64 0) (.int .i64 0) (.int .i64 0) (.slice none 0 0) 24)
  have HG := Lib.hid (Grown.alloc (Grown.alloc (Grown.alloc (Grown.refl w) #[.int .i64 aR, .int .i64 aC, .int .i64 aF, .slice ad an ca] 24) #[.int .i64 bR, .int .i64 bC, .int .i64 bF, .slice bd bn cb] 24) #[.int .i64 0, .int .i64 0, .int .i64 0, .slice none 0 0] 24)
  by_cases k1 : aR = bR
  · have k2 : ¬ aC = bC := fun e => hk ⟨k1, e⟩
    have f1 : (aR = bR : Prop) = True := by simp [k1]
    have f2 : ((aC : Int) == bC) = false := by simpa using k2
    have f3 : ((aC : Int) != bC) = true := by rw [bne, f2]; rfl
    have f4 : ((aR : Int) != bR) = false := by rw [bne, beq_iff_eq.2 k1]; rfl
    have f5 : ((aR : Int) == bR) = true := beq_iff_eq.2 k1
    clear hk k1 k2 f1
    go_enter Tryz.func12, Tryz.ntmps12
    go_wp2_with fail
    simp only [World.size_alloc] at HT2 HT3
    generalize ((w.alloc _).alloc _).alloc _ = W0 at HT1 HT2 HT3 HG ⊢
    refine (rright_any _ _ _ _ _ _ _ _ (by assumption) (H1.out.grown HG.out)).mono ?_
    rintro e W1 ⟨he, hW⟩
    rw [K1.out] at he
    subst he
    replace HT1 := Lib.hid (HT1.out.grown hW)
    replace HT2 := Lib.hid (HT2.out.grown hW)
    replace HT3 := Lib.hid (HT3.out.grown hW)
    replace HG := Lib.hid (grown_trans HG.out hW)
    clear hW
    obtain ⟨p0, p1, p2, p3, p4, _, _, _, _⟩ := HT1.out
    obtain ⟨q0, q1, q2, q3, q4, _, _, _, _⟩ := HT2.out
    obtain ⟨r0, r1, r2, r3, r4, r5, r6, r7, r8⟩ := HT3.out
    go_wp2_with fail
    refine (rright_any _ _ _ _ _ _ _ _ (by assumption) (H2.out.grown HG.out)).mono ?_
    rintro e W2 ⟨he, hW⟩
    rw [K2.out] at he
    subst he
    replace HT1 := Lib.hid (HT1.out.grown hW)
    replace HT2 := Lib.hid (HT2.out.grown hW)
    replace HT3 := Lib.hid (HT3.out.grown hW)
    replace HG := Lib.hid (grown_trans HG.out hW)
    clear hW
    clear p0 p1 p2 p3 p4 q0 q1 q2 q3 q4 r0 r1 r2 r3 r4 r5 r6 r7 r8
    obtain ⟨p0, p1, p2, p3, p4, _, _, _, _⟩ := HT1.out
    obtain ⟨q0, q1, q2, q3, q4, _, _, _, _⟩ := HT2.out
    obtain ⟨r0, r1, r2, r3, r4, r5, r6, r7, r8⟩ := HT3.out
    go_wp2
    (try simp only [Exit.inBlock, Exit.then])
    refine bodyPost_ret (v := .tuple #[.agg #[.int .i64 0, .int .i64 0, .int .i64 0, .slice none 0 0], .int .i64 21]) ?_ rfl ⟨none, 0, rfl, Reads.nil _ _ _, by decide, fresh_none _, gr⟩
    rw [results_cell_tmp rfl]
    go_simp
  · have f2 : ((aR : Int) == bR) = false := by simpa using k1
    have f3 : ((aR : Int) != bR) = true := by rw [bne, f2]; rfl
    clear hk k1
    go_enter Tryz.func12, Tryz.ntmps12
    go_wp2_with fail
    simp only [World.size_alloc] at HT2 HT3
    generalize ((w.alloc _).alloc _).alloc _ = W0 at HT1 HT2 HT3 HG ⊢
    refine (rright_any _ _ _ _ _ _ _ _ (by assumption) (H1.out.grown HG.out)).mono ?_
    rintro e W1 ⟨he, hW⟩
    rw [K1.out] at he
    subst he
    replace HT1 := Lib.hid (HT1.out.grown hW)
    replace HT2 := Lib.hid (HT2.out.grown hW)
    replace HT3 := Lib.hid (HT3.out.grown hW)
    replace HG := Lib.hid (grown_trans HG.out hW)
    clear hW
    obtain ⟨p0, p1, p2, p3, p4, _, _, _, _⟩ := HT1.out
    obtain ⟨q0, q1, q2, q3, q4, _, _, _, _⟩ := HT2.out
    obtain ⟨r0, r1, r2, r3, r4, r5, r6, r7, r8⟩ := HT3.out
    go_wp2_with fail
    refine (rright_any _ _ _ _ _ _ _ _ (by assumption) (H2.out.grown HG.out)).mono ?_
    rintro e W2 ⟨he, hW⟩
    rw [K2.out] at he
    subst he
    replace HT1 := Lib.hid (HT1.out.grown hW)
    replace HT2 := Lib.hid (HT2.out.grown hW)
    replace HT3 := Lib.hid (HT3.out.grown hW)
    replace HG := Lib.hid (grown_trans HG.out hW)
    clear hW
    clear p0 p1 p2 p3 p4 q0 q1 q2 q3 q4 r0 r1 r2 r3 r4 r5 r6 r7 r8
    obtain ⟨p0, p1, p2, p3, p4, _, _, _, _⟩ := HT1.out
    obtain ⟨q0, q1, q2, q3, q4, _, _, _, _⟩ := HT2.out
    obtain ⟨r0, r1, r2, r3, r4, r5, r6, r7, r8⟩ := HT3.out
    go_wp2
    (try simp only [Exit.inBlock, Exit.then])
    refine bodyPost_ret (v := .tuple #[.agg #[.int .i64 0, .int .i64 0, .int .i64 0, .slice none 0 0], .int .i64 21]) ?_ rfl ⟨none, 0, rfl, Reads.nil _ _ _, by decide, fresh_none _, gr⟩
    rw [results_cell_tmp rfl]
    go_simp

set_option maxRecDepth 100000 in
set_option maxHeartbeats 4000000 in
theorem reach1_good (aF bF : Int) (aR aC bR bC : Nat) (ad bd : Option Addr) (an bn ca cb : Nat) (g h : Nat → Int) (w : World) (hn2 : an ≤ 16777216) (hn2' : bn ≤ 16777216) (h1 : Reads ad an g w) (h2 : Reads bd bn h w)
    (ha1 : aR ≤ 4096) (ha2 : aC ≤ 4096) (hb1 : bR ≤ 4096) (hb2 : bC ≤ 4096) (hr : rightB aR aC aF an g = true) (hr2 : rightB bR bC bF bn h = true) (k1 : aR = bR) (k2 : aC = bC) (hix : ∀ i, i < an → i < bn) (han : an = aR * aC) :
    Calls Tryz.prog 12 #[.agg #[.int .i64 aR, .int .i64 aC, .int .i64 aF, .slice ad an ca], .agg #[.int .i64 bR, .int .i64 bC, .int .i64 bF, .slice bd bn cb], .bool true] w (TenE ⟨aR, aC, 2, an, fun t => mulV (widV aF g t) (widV bF h t)⟩ 0 w) := by
  have H1 := Lib.hid h1
  have H2 := Lib.hid h2
  have K1 := Lib.hid (show Ending.returned (.bool (rightB aR aC aF an g)) = .returned (.bool true) by rw [hr])
  have K2 := Lib.hid (show Ending.returned (.bool (rightB bR bC bF bn h)) = .returned (.bool true) by rw [hr2])
  have hn : an ≤ 9223372036854775807 := by omega
  have hn' : bn ≤ 9223372036854775807 := by omega
  have HIX := Lib.hid hix
  have HAN := Lib.hid han
  clear h1 h2 hr hr2 hix han
  obtain ⟨G, hG⟩ : ∃ G : Nat → Int, G = fun t => mulV (widV aF g t) (widV bF h t) := ⟨_, rfl⟩
  rw [← hG]
  have HGB := Lib.hid (show ∀ t, 0 ≤ G t ∧ G t ≤ 4294967295 from fun t => by rw [hG]; exact mulV_bd _ _)
  have HGG := Lib.hid hG
  clear hG
  have HT1 := Lib.hid ((ten_new w (.int .i64 (aR : Int)) (.int .i64 (aC : Int)) (.int .i64 aF) (.slice ad an ca) 24).grown (Grown.alloc (Grown.alloc (Grown.refl _) #[.int .i64 (bR : Int), .int .i64 (bC : Int), .int .i64 bF, .slice bd bn cb] 24) #[.int .i64 0, .int .i64 0, .int .i64 0, .slice none 0 0] 24))
  have HT2 := Lib.hid ((ten_new (w.alloc (.cells #[.int .i64 (aR : Int), .int .i64 (aC : Int), .int .i64 aF, .slice ad an ca] 24)) (.int .i64 (bR : Int)) (.int .i64 (bC : Int)) (.int .i64 bF) (.slice bd bn cb) 24).grown (Grown.alloc (Grown.refl _) #[.int .i64 0, .int .i64 0, .int .i64 0, .slice none 0 0] 24))
  have HT3 := Lib.hid (ten_new ((w.alloc (.cells #[.int .i64 (aR : Int), .int .i64 (aC : Int), .int .i64 aF, .slice ad an ca] 24)).alloc (.cells #[.int .i64 (bR : Int), .int .i64 (bC : Int), .int .i64 bF, .slice bd bn cb] 24)) (.int .i64 0) (.int .i64 0) (.int .i64 0) (.slice none 0 0) 24)
  have HG := Lib.hid (Grown.alloc (Grown.alloc (Grown.alloc (Grown.refl w) #[.int .i64 (aR : Int), .int .i64 (aC : Int), .int .i64 aF, .slice ad an ca] 24) #[.int .i64 (bR : Int), .int .i64 (bC : Int), .int .i64 bF, .slice bd bn cb] 24) #[.int .i64 0, .int .i64 0, .int .i64 0, .slice none 0 0] 24)
  have g1 : ((aR : Int) == bR) = true := by rw [k1]; simp
  have g2 : ((aR : Int) != bR) = false := by rw [bne, g1]; rfl
  have g3 : ((aC : Int) == bC) = true := by rw [k2]; simp
  have g4 : ((aC : Int) != bC) = false := by rw [bne, g3]; rfl
  have KK := Lib.hid (show aR = bR ∧ aC = bC from ⟨k1, k2⟩)
  clear k1 k2
  go_enter Tryz.func12, Tryz.ntmps12
  go_wp2_with fail
  simp only [World.size_alloc] at HT2 HT3
  generalize ((w.alloc _).alloc _).alloc _ = W0 at HT1 HT2 HT3 HG ⊢
  refine (rright_any _ _ _ _ _ _ _ _ (by assumption) (H1.out.grown HG.out)).mono ?_
  rintro e W1 ⟨he, hW⟩
  rw [K1.out] at he
  subst he
  replace HT1 := Lib.hid (HT1.out.grown hW)
  replace HT2 := Lib.hid (HT2.out.grown hW)
  replace HT3 := Lib.hid (HT3.out.grown hW)
  replace HG := Lib.hid (grown_trans HG.out hW)
  clear hW
  obtain ⟨p0, p1, p2, p3, p4, _, _, _, _⟩ := HT1.out
  obtain ⟨q0, q1, q2, q3, q4, _, _, _, _⟩ := HT2.out
  obtain ⟨r0, r1, r2, r3, r4, r5, r6, r7, r8⟩ := HT3.out
  go_wp2_with fail
  refine (rright_any _ _ _ _ _ _ _ _ (by assumption) (H2.out.grown HG.out)).mono ?_
  rintro e W2 ⟨he, hW⟩
  rw [K2.out] at he
  subst he
  replace HT1 := Lib.hid (HT1.out.grown hW)
  replace HT2 := Lib.hid (HT2.out.grown hW)
  replace HT3 := Lib.hid (HT3.out.grown hW)
  replace HG := Lib.hid (grown_trans HG.out hW)
  clear hW
  clear p0 p1 p2 p3 p4 q0 q1 q2 q3 q4 r0 r1 r2 r3 r4 r5 r6 r7 r8
  obtain ⟨p0, p1, p2, p3, p4, _, _, _, _⟩ := HT1.out
  obtain ⟨q0, q1, q2, q3, q4, _, _, _, _⟩ := HT2.out
  obtain ⟨r0, r1, r2, r3, r4, r5, r6, r7, r8⟩ := HT3.out
  have hmk := run_make_row' (P := Tryz.prog) 22 25 (.int .u32 0) 4 Tryz.underlying22 (by kernel_rfl) rfl .i64 .i64 an (by omega) (by omega)
  have HA := Lib.hid (show PS w w.heap.size W2.heap.size (W2.heap.size + 1) an (.int .i64 aR) (.int .i64 aC) (.int .i64 aF) (.slice ad an ca) (.int .i64 bR) (.int .i64 bC) (.int .i64 bF) (.slice bd bn cb) (.int .i64 aR) (.int .i64 aC) (.int .i64 2) G 0 (((W2.alloc (.cells (madeCells #[.int .u32 0] an) 25)).alloc (.cells #[.int .i64 (aR : Int), .int .i64 (aC : Int), .int .i64 2, .slice (some ⟨W2.heap.size, 0, none⟩) an an] 24)).drew) from
    ⟨gr, HT1.out.grown gr, HT2.out.grown gr, HT3.out.grown gr, by simpa only [World.size_alloc] using (ten_new (W2.alloc (.cells (madeCells #[.int .u32 0] an) 25)) (.int .i64 (aR : Int)) (.int .i64 (aC : Int)) (.int .i64 2) (.slice (some ⟨W2.heap.size, 0, none⟩) an an) 24).grown (Grown.drew (Grown.refl _)), (Filled.new W2 an G 25).grown (Grown.drew (Grown.alloc (Grown.refl _) _ _)), r0, Nat.lt_succ_of_lt r0, by omega, Nat.le_refl _⟩)
  have HB := Lib.hid (show PS w w.heap.size (W2.heap.size + 1) W2.heap.size an (.int .i64 aR) (.int .i64 aC) (.int .i64 aF) (.slice ad an ca) (.int .i64 bR) (.int .i64 bC) (.int .i64 bF) (.slice bd bn cb) (.int .i64 aR) (.int .i64 aC) (.int .i64 2) G 0 (((W2.alloc (.cells #[.int .i64 (aR : Int), .int .i64 (aC : Int), .int .i64 2, .slice (some ⟨W2.heap.size + 1, 0, none⟩) an an] 24)).alloc (.cells (madeCells #[.int .u32 0] an) 25)).drew) from
    ⟨gr, HT1.out.grown gr, HT2.out.grown gr, HT3.out.grown gr, (ten_new W2 (.int .i64 (aR : Int)) (.int .i64 (aC : Int)) (.int .i64 2) (.slice (some ⟨W2.heap.size + 1, 0, none⟩) an an) 24).grown (Grown.drew (Grown.alloc (Grown.refl _) _ _)), by simpa only [World.size_alloc] using (Filled.new (W2.alloc (.cells #[.int .i64 (aR : Int), .int .i64 (aC : Int), .int .i64 2, .slice (some ⟨W2.heap.size + 1, 0, none⟩) an an] 24)) an G 25).grown (Grown.drew (Grown.refl _)), Nat.lt_succ_of_lt r0, r0, by omega, Nat.le_refl _⟩)
  go_wp2_with fail
  go_region
  all_goals
    go_wp2_with fail
    clear hmk g1 g2 g3 g4 p0 p1 p2 p3 p4 q0 q1 q2 q3 q4 r0 r1 r2 r3 r4 r5 r6 r7 r8
    generalize hW3 : ((W2.alloc _).alloc _).drew = W3
    first
      | (have HP := hW3 ▸ HA.out
         clear hW3 HA HB
         generalize W2.heap.size + 1 = ob at HP ⊢
         generalize W2.heap.size = nb at HP ⊢)
      | (have HP := hW3 ▸ HB.out
         clear hW3 HA HB
         generalize W2.heap.size + 1 = nb at HP ⊢
         generalize W2.heap.size = ob at HP ⊢)
    replace HP := Lib.hid HP
    clear HT1 HT2 HT3 HG
    go_loopw [9] (fun i wr => ProdOut (fun I => PS w w.heap.size nb ob an (.int .i64 aR) (.int .i64 aC) (.int .i64 aF) (.slice ad an ca) (.int .i64 bR) (.int .i64 bC) (.int .i64 bF) (.slice bd bn cb) (.int .i64 aR) (.int .i64 aC) (.int .i64 2) G I) an 1 i wr) (fun i _ => an - (intOf i).toNat)
    case atStart => exact ⟨0, Nat.zero_le _, rfl, HP.out⟩
    case round =>
      rename World => wr
      clear HP
      obtain ⟨I, hI, rfl, hP⟩ := hrel
      rw [Nat.mul_one] at hP
      have HP := Lib.hid hP
      clear hP
      by_cases hI2 : I < an
      · have hJ := HIX.out I hI2
        have hGI := Lib.hid (show G I = (fun t => mulV (widV aF g t) (widV bF h t)) I by rw [HGG.out])
        skip
        have B1 := wid_bd aF g I
        have B2 := wid_bd bF h (I)
        obtain ⟨u, hu⟩ : ∃ u, widV aF g I = u := ⟨_, rfl⟩
        obtain ⟨v, hv⟩ : ∃ v, widV bF h (I) = v := ⟨_, rfl⟩
        have HGI := Lib.hid (show G I = mulV u v by rw [hGI.out]; show mulV (widV aF g I) (widV bF h I) = _; rw [hu, hv])
        rw [hu] at B1
        rw [hv] at B2
        have HU := Lib.hid hu
        have HV := Lib.hid hv
        have HG := Lib.hid HP.out.g
        clear hu hv
        obtain ⟨p0, p1, p2, p3, p4, _, _, _, _⟩ := HP.out.t1
        obtain ⟨q0, q1, q2, q3, q4, _, _, _, _⟩ := HP.out.t2
        obtain ⟨o0, o1, o2, o3, o4, _, _, _, _⟩ := HP.out.t4
        have y := HP.out.f.cell I hI2
        have z := HP.out.f.free I
        have n1 : ¬ nb = w.heap.size := by have := HP.out.o; omega
        have n2 : ¬ nb = w.heap.size + 1 := by have := HP.out.o; omega
        have n3 : ¬ nb = ob := HP.out.ne
        go_wp2_with fail
        go_region_held3 (fun w' => w'.cell? ⟨w.heap.size, 0, none⟩ = some (.int .i64 aR) ∧ w'.cell? ⟨w.heap.size, 1, none⟩ = some (.int .i64 aC) ∧ w'.cell? ⟨w.heap.size, 2, none⟩ = some (.int .i64 aF) ∧ w'.cell? ⟨w.heap.size, 3, none⟩ = some (.slice ad an ca) ∧ w'.cell? ⟨w.heap.size + 1, 0, none⟩ = some (.int .i64 bR) ∧ w'.cell? ⟨w.heap.size + 1, 1, none⟩ = some (.int .i64 bC) ∧ w'.cell? ⟨w.heap.size + 1, 2, none⟩ = some (.int .i64 bF) ∧ w'.cell? ⟨w.heap.size + 1, 3, none⟩ = some (.slice bd bn cb) ∧ w'.cell? ⟨ob, 3, none⟩ = some (.slice (some ⟨nb, 0, none⟩) an an)) (go_keep) (first
          | (go_at_call 27; ((with_reducible refine (twide_any aR aC aF ad an ca I g _ hn hI2 (H1.out.grown gr)).mono ?_); rintro e W4 ⟨he, hW⟩; rw [HU.out] at he; subst he; replace HG := Lib.hid (show Grown w W4 from grown_trans gr hW); replace HP := Lib.hid (HP.out.grown hW); clear hW p0 p1 p2 p3 p4 q0 q1 q2 q3 q4 o0 o1 o2 o3 o4 y z; obtain ⟨p0, p1, p2, p3, p4, _, _, _, _⟩ := HP.out.t1; obtain ⟨q0, q1, q2, q3, q4, _, _, _, _⟩ := HP.out.t2; obtain ⟨o0, o1, o2, o3, o4, _, _, _, _⟩ := HP.out.t4; have y := HP.out.f.cell I hI2; have z := HP.out.f.free I))
          | (go_at_call 27; ((with_reducible refine (twide_any bR bC bF bd bn cb (I) h _ hn' hJ (H2.out.grown gr)).mono ?_); rintro e W5 ⟨he, hW⟩; rw [HV.out] at he; subst he; replace HG := Lib.hid (show Grown w W5 from grown_trans gr hW); replace HP := Lib.hid (HP.out.grown hW); clear hW p0 p1 p2 p3 p4 q0 q1 q2 q3 q4 o0 o1 o2 o3 o4 y z; obtain ⟨p0, p1, p2, p3, p4, _, _, _, _⟩ := HP.out.t1; obtain ⟨q0, q1, q2, q3, q4, _, _, _, _⟩ := HP.out.t2; obtain ⟨o0, o1, o2, o3, o4, _, _, _, _⟩ := HP.out.t4; have y := HP.out.f.cell I hI2; have z := HP.out.f.free I))
          | (go_at_call 29; refine (nmul_any u v _ B1.1 B1.2 B2.1 B2.2).mono ?_; rintro e W6 ⟨rfl, h0, h1, hW⟩; replace HG := Lib.hid (show Grown w W6 from grown_trans gr hW); replace HP := Lib.hid (HP.out.grown hW); clear hW p0 p1 p2 p3 p4 q0 q1 q2 q3 q4 o0 o1 o2 o3 o4 y z; obtain ⟨p0, p1, p2, p3, p4, _, _, _, _⟩ := HP.out.t1; obtain ⟨q0, q1, q2, q3, q4, _, _, _, _⟩ := HP.out.t2; obtain ⟨o0, o1, o2, o3, o4, _, _, _, _⟩ := HP.out.t4; have y := HP.out.f.cell I hI2; have z := HP.out.f.free I))
        go_wp2
        go_roundw
        case rel => exact ⟨I + 1, by omega, by go_num, by
          have := HP.out.set hI2
          rw [HGI.out] at this
          rw [Nat.mul_one]
          exact this.grown gr⟩
        case measure => simp [intOf]; omega
      · have hI3 : an = I := by omega
        subst hI3
        obtain ⟨p0, p1, p2, p3, p4, _, _, _, _⟩ := HP.out.t4
        obtain ⟨q0, q1, q2, q3, q4, q5, q6, q7, q8⟩ := HP.out.t3
        obtain ⟨r0, r1, r2, r3, r4, _, _, _, _⟩ := HP.out.t1
        have HF := Lib.hid HP.out.f
        have ho : w.heap.size + 1 + 1 < nb := HP.out.o
        have ho2 : w.heap.size + 1 + 1 < ob := HP.out.o2
        have HG := Lib.hid HP.out.g
        go_wp2
        (try simp only [Exit.inBlock, Exit.then])
        refine bodyPost_ret (v := .tuple #[.agg #[.int .i64 (aR : Int), .int .i64 (aC : Int), .int .i64 2, .slice (some ⟨nb, 0, none⟩) an an], .int .i64 0]) ?_ rfl ⟨_, _, rfl, ?_, hn, fun x hx => by cases hx; show w.heap.size ≤ nb; omega, ?_⟩
        · rw [results_cell_tmp rfl]
          go_simp
        · have hne : nb ≠ w.heap.size + 1 + 1 := by omega
          exact ((((HF.out.other (a := ⟨w.heap.size + 1 + 1, 0, none⟩) hne _).other (a := ⟨w.heap.size + 1 + 1, 1, none⟩) hne _).other (a := ⟨w.heap.size + 1 + 1, 2, none⟩) hne _).other (a := ⟨w.heap.size + 1 + 1, 3, none⟩) hne _).reads fun t _ => HGB.out t
        · exact gr

def each1T (a b : PT) : PT :=
  if a.right && b.right && (a.R == b.R && a.C == b.C) then ⟨a.R, a.C, 2, a.n, fun t => mulV (widV a.F a.g t) (widV b.F b.g t)⟩ else PT.bad

def each1X (a b : PT) : Int := if a.right && b.right && (a.R == b.R && a.C == b.C) then 0 else 21

theorem reach1_any (aR aC aF bR bC bF : Int) (ad bd : Option Addr) (an bn ca cb : Nat) (g h : Nat → Int) (w : World) (hn : an ≤ 9223372036854775807) (hn' : bn ≤ 9223372036854775807) (h1 : Reads ad an g w) (h2 : Reads bd bn h w) :
    Calls Tryz.prog 12 #[.agg #[.int .i64 aR, .int .i64 aC, .int .i64 aF, .slice ad an ca], .agg #[.int .i64 bR, .int .i64 bC, .int .i64 bF, .slice bd bn cb], .bool true] w (TenE (each1T ⟨aR, aC, aF, an, g⟩ ⟨bR, bC, bF, bn, h⟩) (each1X ⟨aR, aC, aF, an, g⟩ ⟨bR, bC, bF, bn, h⟩) w) := by
  unfold each1T each1X PT.right
  dsimp only
  cases hr : rightB aR aC aF an g
  · exact reach1_bad1 aR aC aF bR bC bF ad bd an bn ca cb g h w hn hn' h1 h2 hr
  · cases hr2 : rightB bR bC bF bn h
    · exact reach1_bad2 aR aC aF bR bC bF ad bd an bn ca cb g h w hn hn' h1 h2 hr hr2
    · by_cases hk : aR = bR ∧ aC = bC
      · obtain ⟨r, c, e1, e2, l1, l2, e3⟩ := right_nat (t := ⟨aR, aC, aF, an, g⟩) hr
        obtain ⟨r', c', f1, f2, l3, l4, f3⟩ := right_nat (t := ⟨bR, bC, bF, bn, h⟩) hr2
        simp only at e1 e2 e3 f1 f2 f3
        subst e1 e2 f1 f2
        obtain ⟨_, m1⟩ := wrap_mul r c an l1 l2 e3.symm
        obtain ⟨_, m2⟩ := wrap_mul r' c' bn l3 l4 f3.symm
        obtain ⟨hk1, hk2⟩ := hk
        have j1 : r = r' := by omega
        have j2 : c = c' := by omega
        have hx : ∀ i, i < an → i < bn := by
          intro i hi
          rw [f3, ← j1, ← j2, ← e3]; exact hi
        rw [if_pos (by simp [hk1, hk2]), if_pos (by simp [hk1, hk2])]
        exact reach1_good aF bF r c r' c' ad bd an bn ca cb g h w m1 m2 h1 h2 l1 l2 l3 l4 hr hr2 j1 j2 hx e3
      · rw [if_neg (by simpa using hk), if_neg (by simpa using hk)]
        exact reach1_bad3 aR aC aF bR bC bF ad bd an bn ca cb g h w hn hn' h1 h2 hr hr2 hk

set_option maxHeartbeats 1000000 in
theorem rby_bad1 (aR aC aF : Int) (ad : Option Addr) (an ca : Nat) (g : Nat → Int) (v : Int) (w : World) (hn : an ≤ 9223372036854775807) (h1 : Reads ad an g w) (v0 : 0 ≤ v) (v1 : v ≤ 4294967295) (hr : rightB aR aC aF an g = false) :
    Calls Tryz.prog 15 #[.agg #[.int .i64 aR, .int .i64 aC, .int .i64 aF, .slice ad an ca], .int .u32 v] w (TenE PT.bad 21 w) := by
  have H1 := Lib.hid h1
  have K1 := Lib.hid (show Ending.returned (.bool (rightB aR aC aF an g)) = .returned (.bool false) by rw [hr])
  clear h1 hr
  have HT1 := Lib.hid ((ten_new w (.int .i64 aR) (.int .i64 aC) (.int .i64 aF) (.slice ad an ca) 24).grown (Grown.alloc (Grown.refl _) #[.int .i64 0, .int .i64 0, .int .i64 0, .slice none 0 0] 24))
  have HT3 := Lib.hid (ten_new (w.alloc (.cells #[.int .i64 aR, .int .i64 aC, .int .i64 aF, .slice ad an ca] 24)) (.int .i64 0) (.int .i64 0) (.int .i64 0) (.slice none 0 0) 24)
  have HG := Lib.hid (Grown.alloc (Grown.alloc (Grown.refl w) #[.int .i64 aR, .int .i64 aC, .int .i64 aF, .slice ad an ca] 24) #[.int .i64 0, .int .i64 0, .int .i64 0, .slice none 0 0] 24)
  go_enter Tryz.func15, Tryz.ntmps15
  go_wp2_with fail
  simp only [World.size_alloc] at HT3
  generalize (w.alloc _).alloc _ = W0 at HT1 HT3 HG ⊢
  refine (rright_any _ _ _ _ _ _ _ _ (by assumption) (H1.out.grown HG.out)).mono ?_
  rintro e W2 ⟨he, hW⟩
  rw [K1.out] at he
  subst he
  replace HT1 := Lib.hid (HT1.out.grown hW)
  replace HT3 := Lib.hid (HT3.out.grown hW)
  replace HG := Lib.hid (grown_trans HG.out hW)
  clear hW
  obtain ⟨p0, p1, p2, p3, p4, _, _, _, _⟩ := HT1.out
  obtain ⟨r0, r1, r2, r3, r4, r5, r6, r7, r8⟩ := HT3.out
  go_wp2
  (try simp only [Exit.inBlock, Exit.then])
  refine bodyPost_ret (v := .tuple #[.agg #[.int .i64 0, .int .i64 0, .int .i64 0, .slice none 0 0], .int .i64 21]) ?_ rfl ⟨none, 0, rfl, Reads.nil _ _ _, by decide, fresh_none _, gr⟩
  rw [results_cell_tmp rfl]
  go_simp

set_option maxRecDepth 100000 in
set_option maxHeartbeats 4000000 in
theorem rby_good (aF : Int) (aR aC : Nat) (ad : Option Addr) (an ca : Nat) (g : Nat → Int) (v : Int) (w : World) (hn2 : an ≤ 16777216) (h1 : Reads ad an g w) (v0 : 0 ≤ v) (v1 : v ≤ 4294967295)
    (ha1 : aR ≤ 4096) (ha2 : aC ≤ 4096) (han : an = aR * aC) (hr : rightB aR aC aF an g = true) :
    Calls Tryz.prog 15 #[.agg #[.int .i64 aR, .int .i64 aC, .int .i64 aF, .slice ad an ca], .int .u32 v] w (TenE ⟨aR, aC, 2, an, fun t => mulV (widV aF g t) v⟩ 0 w) := by
  have H1 := Lib.hid h1
  have K1 := Lib.hid (show Ending.returned (.bool (rightB aR aC aF an g)) = .returned (.bool true) by rw [hr])
  have hn : an ≤ 9223372036854775807 := by omega
  have HAN := Lib.hid han
  clear h1 hr han
  obtain ⟨G, hG⟩ : ∃ G : Nat → Int, G = fun t => mulV (widV aF g t) v := ⟨_, rfl⟩
  rw [← hG]
  have HGB := Lib.hid (show ∀ t, 0 ≤ G t ∧ G t ≤ 4294967295 from fun t => by rw [hG]; exact mulV_bd _ _)
  have HGG := Lib.hid hG
  clear hG
  skip
  have HT1 := Lib.hid ((ten_new w (.int .i64 (aR : Int)) (.int .i64 (aC : Int)) (.int .i64 aF) (.slice ad an ca) 24).grown (Grown.alloc (Grown.refl _) #[.int .i64 0, .int .i64 0, .int .i64 0, .slice none 0 0] 24))
  have HT3 := Lib.hid (ten_new (w.alloc (.cells #[.int .i64 (aR : Int), .int .i64 (aC : Int), .int .i64 aF, .slice ad an ca] 24)) (.int .i64 0) (.int .i64 0) (.int .i64 0) (.slice none 0 0) 24)
  have HG := Lib.hid (Grown.alloc (Grown.alloc (Grown.refl w) #[.int .i64 (aR : Int), .int .i64 (aC : Int), .int .i64 aF, .slice ad an ca] 24) #[.int .i64 0, .int .i64 0, .int .i64 0, .slice none 0 0] 24)
  go_enter Tryz.func15, Tryz.ntmps15
  go_wp2_with fail
  simp only [World.size_alloc] at HT3
  generalize (w.alloc _).alloc _ = W0 at HT1 HT3 HG ⊢
  refine (rright_any _ _ _ _ _ _ _ _ (by assumption) (H1.out.grown HG.out)).mono ?_
  rintro e W2 ⟨he, hW⟩
  rw [K1.out] at he
  subst he
  replace HT1 := Lib.hid (HT1.out.grown hW)
  replace HT3 := Lib.hid (HT3.out.grown hW)
  replace HG := Lib.hid (grown_trans HG.out hW)
  clear hW
  obtain ⟨p0, p1, p2, p3, p4, _, _, _, _⟩ := HT1.out
  obtain ⟨r0, r1, r2, r3, r4, r5, r6, r7, r8⟩ := HT3.out
  have hmk := run_make_row' (P := Tryz.prog) 22 25 (.int .u32 0) 4 Tryz.underlying22 (by kernel_rfl) rfl .i64 .i64 an (by omega) (by omega)
  have HA := Lib.hid (show P1 w w.heap.size W2.heap.size (W2.heap.size + 1) an (.int .i64 aR) (.int .i64 aC) (.int .i64 aF) (.slice ad an ca) (.int .i64 aR) (.int .i64 aC) (.int .i64 2) G 0 (((W2.alloc (.cells (madeCells #[.int .u32 0] an) 25)).alloc (.cells #[.int .i64 aR, .int .i64 aC, .int .i64 2, .slice (some ⟨W2.heap.size, 0, none⟩) an an] 24)).drew) from
    ⟨gr, HT1.out.grown gr, HT3.out.grown gr, by simpa only [World.size_alloc] using (ten_new (W2.alloc (.cells (madeCells #[.int .u32 0] an) 25)) (.int .i64 aR) (.int .i64 aC) (.int .i64 2) (.slice (some ⟨W2.heap.size, 0, none⟩) an an) 24).grown (Grown.drew (Grown.refl _)), (Filled.new W2 an G 25).grown (Grown.drew (Grown.alloc (Grown.refl _) _ _)), r0, Nat.lt_succ_of_lt r0, by omega, Nat.le_refl _⟩)
  have HB := Lib.hid (show P1 w w.heap.size (W2.heap.size + 1) W2.heap.size an (.int .i64 aR) (.int .i64 aC) (.int .i64 aF) (.slice ad an ca) (.int .i64 aR) (.int .i64 aC) (.int .i64 2) G 0 (((W2.alloc (.cells #[.int .i64 aR, .int .i64 aC, .int .i64 2, .slice (some ⟨W2.heap.size + 1, 0, none⟩) an an] 24)).alloc (.cells (madeCells #[.int .u32 0] an) 25)).drew) from
    ⟨gr, HT1.out.grown gr, HT3.out.grown gr, (ten_new W2 (.int .i64 aR) (.int .i64 aC) (.int .i64 2) (.slice (some ⟨W2.heap.size + 1, 0, none⟩) an an) 24).grown (Grown.drew (Grown.alloc (Grown.refl _) _ _)), by have := (Filled.new (W2.alloc (.cells #[.int .i64 aR, .int .i64 aC, .int .i64 2, .slice (some ⟨W2.heap.size + 1, 0, none⟩) an an] 24)) an G 25).grown (Grown.drew (Grown.refl _)); simp only [World.size_alloc] at this; exact this, Nat.lt_succ_of_lt r0, r0, by omega, Nat.le_refl _⟩)
  go_wp2_with fail
  go_region
  all_goals
    go_wp2_with fail
    clear hmk p0 p1 p2 p3 p4 r0 r1 r2 r3 r4 r5 r6 r7 r8
    generalize hW3 : ((W2.alloc _).alloc _).drew = W3
    first
      | (have HP := hW3 ▸ HA.out
         clear hW3 HA HB
         generalize W2.heap.size + 1 = ob at HP ⊢
         generalize W2.heap.size = nb at HP ⊢)
      | (have HP := hW3 ▸ HB.out
         clear hW3 HA HB
         generalize W2.heap.size + 1 = nb at HP ⊢
         generalize W2.heap.size = ob at HP ⊢)
    replace HP := Lib.hid HP
    clear HT1 HT3 HG
    go_loopw [7] (fun i wr => ProdOut (fun I => P1 w w.heap.size nb ob an (.int .i64 aR) (.int .i64 aC) (.int .i64 aF) (.slice ad an ca) (.int .i64 aR) (.int .i64 aC) (.int .i64 2) G I) an 1 i wr) (fun i _ => an - (intOf i).toNat)
    case atStart => exact ⟨0, Nat.zero_le _, rfl, HP.out⟩
    case round =>
      rename World => wr
      clear HP
      obtain ⟨I, hI, rfl, hP⟩ := hrel
      rw [Nat.mul_one] at hP
      have HP := Lib.hid hP
      clear hP
      by_cases hI2 : I < an
      · skip
        have B1 := wid_bd aF g I
        obtain ⟨u, hu⟩ : ∃ u, widV aF g I = u := ⟨_, rfl⟩
        have HGI := Lib.hid (show G I = mulV u v by rw [HGG.out]; show mulV (widV aF g I) v = _; rw [hu])
        rw [hu] at B1
        have HU := Lib.hid hu
        have HG := Lib.hid HP.out.g
        clear hu
        obtain ⟨p0, p1, p2, p3, p4, _, _, _, _⟩ := HP.out.t1
        obtain ⟨o0, o1, o2, o3, o4, _, _, _, _⟩ := HP.out.t4
        have y := HP.out.f.cell I hI2
        have z := HP.out.f.free I
        have n1 : ¬ nb = w.heap.size := by have := HP.out.o; omega
        have n2 : ¬ nb = w.heap.size + 1 := by have := HP.out.o; omega
        have n3 : ¬ nb = ob := HP.out.ne
        go_wp2_with fail
        go_region_held3 (fun w' => w'.cell? ⟨w.heap.size, 0, none⟩ = some (.int .i64 aR) ∧ w'.cell? ⟨w.heap.size, 1, none⟩ = some (.int .i64 aC) ∧ w'.cell? ⟨w.heap.size, 2, none⟩ = some (.int .i64 aF) ∧ w'.cell? ⟨w.heap.size, 3, none⟩ = some (.slice ad an ca) ∧ w'.cell? ⟨ob, 3, none⟩ = some (.slice (some ⟨nb, 0, none⟩) an an)) (go_keep) (first
          | (go_at_call 27; ((with_reducible refine (twide_any aR aC aF ad an ca I g _ hn hI2 (H1.out.grown gr)).mono ?_); rintro e W4 ⟨he, hW⟩; rw [HU.out] at he; subst he; replace HG := Lib.hid (show Grown w W4 from grown_trans gr hW); replace HP := Lib.hid (HP.out.grown hW); clear hW p0 p1 p2 p3 p4 o0 o1 o2 o3 o4 y z; obtain ⟨p0, p1, p2, p3, p4, _, _, _, _⟩ := HP.out.t1; obtain ⟨o0, o1, o2, o3, o4, _, _, _, _⟩ := HP.out.t4; have y := HP.out.f.cell I hI2; have z := HP.out.f.free I))
          | (go_at_call 29; refine (nmul_any u v _ B1.1 B1.2 v0 v1).mono ?_; rintro e W6 ⟨rfl, h0, h1, hW⟩; replace HG := Lib.hid (show Grown w W6 from grown_trans gr hW); replace HP := Lib.hid (HP.out.grown hW); clear hW p0 p1 p2 p3 p4 o0 o1 o2 o3 o4 y z; obtain ⟨p0, p1, p2, p3, p4, _, _, _, _⟩ := HP.out.t1; obtain ⟨o0, o1, o2, o3, o4, _, _, _, _⟩ := HP.out.t4; have y := HP.out.f.cell I hI2; have z := HP.out.f.free I))
        go_wp2
        go_roundw
        case rel => exact ⟨I + 1, by omega, by go_num, by
          have := HP.out.set hI2
          rw [HGI.out] at this
          rw [Nat.mul_one]
          exact this.grown gr⟩
        case measure => simp [intOf]; omega
      · have hI3 : an = I := by omega
        subst hI3
        obtain ⟨p0, p1, p2, p3, p4, _, _, _, _⟩ := HP.out.t4
        obtain ⟨q0, q1, q2, q3, q4, q5, q6, q7, q8⟩ := HP.out.t3
        obtain ⟨r0, r1, r2, r3, r4, _, _, _, _⟩ := HP.out.t1
        have HF := Lib.hid HP.out.f
        have ho : w.heap.size + 1 < nb := HP.out.o
        have ho2 : w.heap.size + 1 < ob := HP.out.o2
        have HG := Lib.hid HP.out.g
        go_wp2
        (try simp only [Exit.inBlock, Exit.then])
        refine bodyPost_ret (v := .tuple #[.agg #[.int .i64 aR, .int .i64 aC, .int .i64 2, .slice (some ⟨nb, 0, none⟩) an an], .int .i64 0]) ?_ rfl ⟨_, _, rfl, ?_, (show an ≤ 9223372036854775807 by omega), fun x hx => by cases hx; show w.heap.size ≤ nb; omega, ?_⟩
        · rw [results_cell_tmp rfl]
          go_simp
        · have hne : nb ≠ w.heap.size + 1 := by omega
          exact ((((HF.out.other (a := ⟨w.heap.size + 1, 0, none⟩) hne _).other (a := ⟨w.heap.size + 1, 1, none⟩) hne _).other (a := ⟨w.heap.size + 1, 2, none⟩) hne _).other (a := ⟨w.heap.size + 1, 3, none⟩) hne _).reads fun t _ => HGB.out t
        · exact gr

def byT (a : PT) (v : Int) : PT :=
  if a.right then ⟨a.R, a.C, 2, a.n, fun t => mulV (widV a.F a.g t) v⟩ else PT.bad

def byX (a : PT) (v : Int) : Int := if a.right then 0 else 21

theorem rby_any (aR aC aF : Int) (ad : Option Addr) (an ca : Nat) (g : Nat → Int) (v : Int) (w : World) (hn : an ≤ 9223372036854775807) (h1 : Reads ad an g w) (v0 : 0 ≤ v) (v1 : v ≤ 4294967295) :
    Calls Tryz.prog 15 #[.agg #[.int .i64 aR, .int .i64 aC, .int .i64 aF, .slice ad an ca], .int .u32 v] w (TenE (byT ⟨aR, aC, aF, an, g⟩ v) (byX ⟨aR, aC, aF, an, g⟩ v) w) := by
  unfold byT byX PT.right
  dsimp only
  cases hr : rightB aR aC aF an g
  · exact rby_bad1 aR aC aF ad an ca g v w hn h1 v0 v1 hr
  · obtain ⟨r, c, e1, e2, l1, l2, e3⟩ := right_nat (t := ⟨aR, aC, aF, an, g⟩) hr
    simp only at e1 e2 e3
    subst e1 e2
    obtain ⟨_, m1⟩ := wrap_mul r c an l1 l2 e3.symm
    exact rby_good aF r c ad an ca g v w m1 h1 v0 v1 l1 l2 e3 hr

set_option maxHeartbeats 1000000 in
theorem rsums_bad1 (aR aC aF : Int) (ad : Option Addr) (an ca : Nat) (g : Nat → Int) (w : World) (hn : an ≤ 9223372036854775807) (h1 : Reads ad an g w) (hr : rightB aR aC aF an g = false) :
    Calls Tryz.prog 10 #[.agg #[.int .i64 aR, .int .i64 aC, .int .i64 aF, .slice ad an ca]] w (TenE PT.bad 21 w) := by
  have H1 := Lib.hid h1
  have K1 := Lib.hid (show Ending.returned (.bool (rightB aR aC aF an g)) = .returned (.bool false) by rw [hr])
  clear h1 hr
  have HT1 := Lib.hid ((ten_new w (.int .i64 aR) (.int .i64 aC) (.int .i64 aF) (.slice ad an ca) 24).grown (Grown.alloc (Grown.refl _) #[.int .i64 0, .int .i64 0, .int .i64 0, .slice none 0 0] 24))
  have HT3 := Lib.hid (ten_new (w.alloc (.cells #[.int .i64 aR, .int .i64 aC, .int .i64 aF, .slice ad an ca] 24)) (.int .i64 0) (.int .i64 0) (.int .i64 0) (.slice none 0 0) 24)
  have HG := Lib.hid (Grown.alloc (Grown.alloc (Grown.refl w) #[.int .i64 aR, .int .i64 aC, .int .i64 aF, .slice ad an ca] 24) #[.int .i64 0, .int .i64 0, .int .i64 0, .slice none 0 0] 24)
  go_enter Tryz.func10, Tryz.ntmps10
  go_wp2_with fail
  simp only [World.size_alloc] at HT3
  generalize (w.alloc _).alloc _ = W0 at HT1 HT3 HG ⊢
  refine (rright_any _ _ _ _ _ _ _ _ (by assumption) (H1.out.grown HG.out)).mono ?_
  rintro e W2 ⟨he, hW⟩
  rw [K1.out] at he
  subst he
  replace HT1 := Lib.hid (HT1.out.grown hW)
  replace HT3 := Lib.hid (HT3.out.grown hW)
  replace HG := Lib.hid (grown_trans HG.out hW)
  clear hW
  obtain ⟨p0, p1, p2, p3, p4, _, _, _, _⟩ := HT1.out
  obtain ⟨r0, r1, r2, r3, r4, r5, r6, r7, r8⟩ := HT3.out
  go_wp2
  (try simp only [Exit.inBlock, Exit.then])
  refine bodyPost_ret (v := .tuple #[.agg #[.int .i64 0, .int .i64 0, .int .i64 0, .slice none 0 0], .int .i64 21]) ?_ rfl ⟨none, 0, rfl, Reads.nil _ _ _, by decide, fresh_none _, gr⟩
  rw [results_cell_tmp rfl]
  go_simp

set_option maxRecDepth 100000 in
set_option maxHeartbeats 4000000 in
theorem rsums_good (aF : Int) (aR aC : Nat) (ad : Option Addr) (an ca : Nat) (g : Nat → Int) (w : World) (hn2 : an ≤ 16777216) (h1 : Reads ad an g w)
    (ha1 : aR ≤ 4096) (ha2 : aC ≤ 4096) (han : an = aR * aC) (hr : rightB aR aC aF an g = true) :
    Calls Tryz.prog 10 #[.agg #[.int .i64 aR, .int .i64 aC, .int .i64 aF, .slice ad an ca]] w (TenE ⟨1, aC, 2, aC, fun t => colS aF g aC an t⟩ 0 w) := by
  have H1 := Lib.hid h1
  have K1 := Lib.hid (show Ending.returned (.bool (rightB aR aC aF an g)) = .returned (.bool true) by rw [hr])
  have hn : an ≤ 9223372036854775807 := by omega
  have HAN := Lib.hid han
  clear h1 hr han
  obtain ⟨G, hG⟩ : ∃ G : Nat → Int, G = fun t => colS aF g aC an t := ⟨_, rfl⟩
  rw [← hG]
  have HGB := Lib.hid (show ∀ t, 0 ≤ G t ∧ G t ≤ 4294967295 from fun t => by rw [hG]; exact colS_bd _ _ _ _ _)
  have HGG := Lib.hid hG
  clear hG
  skip
  have HT1 := Lib.hid ((ten_new w (.int .i64 (aR : Int)) (.int .i64 (aC : Int)) (.int .i64 aF) (.slice ad an ca) 24).grown (Grown.alloc (Grown.refl _) #[.int .i64 0, .int .i64 0, .int .i64 0, .slice none 0 0] 24))
  have HT3 := Lib.hid (ten_new (w.alloc (.cells #[.int .i64 (aR : Int), .int .i64 (aC : Int), .int .i64 aF, .slice ad an ca] 24)) (.int .i64 0) (.int .i64 0) (.int .i64 0) (.slice none 0 0) 24)
  have HG := Lib.hid (Grown.alloc (Grown.alloc (Grown.refl w) #[.int .i64 (aR : Int), .int .i64 (aC : Int), .int .i64 aF, .slice ad an ca] 24) #[.int .i64 0, .int .i64 0, .int .i64 0, .slice none 0 0] 24)
  go_enter Tryz.func10, Tryz.ntmps10
  go_wp2_with fail
  simp only [World.size_alloc] at HT3
  generalize (w.alloc _).alloc _ = W0 at HT1 HT3 HG ⊢
  refine (rright_any _ _ _ _ _ _ _ _ (by assumption) (H1.out.grown HG.out)).mono ?_
  rintro e W2 ⟨he, hW⟩
  rw [K1.out] at he
  subst he
  replace HT1 := Lib.hid (HT1.out.grown hW)
  replace HT3 := Lib.hid (HT3.out.grown hW)
  replace HG := Lib.hid (grown_trans HG.out hW)
  clear hW
  obtain ⟨p0, p1, p2, p3, p4, _, _, _, _⟩ := HT1.out
  obtain ⟨r0, r1, r2, r3, r4, r5, r6, r7, r8⟩ := HT3.out
  have hmk := run_make_row' (P := Tryz.prog) 22 25 (.int .u32 0) 4 Tryz.underlying22 (by kernel_rfl) rfl .i64 .i64 aC (by omega) (by omega)
  have HA := Lib.hid (show P1 w w.heap.size W2.heap.size (W2.heap.size + 1) aC (.int .i64 aR) (.int .i64 aC) (.int .i64 aF) (.slice ad an ca) (.int .i64 1) (.int .i64 aC) (.int .i64 2) (colS aF g aC 0) aC (((W2.alloc (.cells (madeCells #[.int .u32 0] aC) 25)).alloc (.cells #[.int .i64 1, .int .i64 aC, .int .i64 2, .slice (some ⟨W2.heap.size, 0, none⟩) aC aC] 24)).drew) from
    ⟨gr, HT1.out.grown gr, HT3.out.grown gr, by simpa only [World.size_alloc] using (ten_new (W2.alloc (.cells (madeCells #[.int .u32 0] aC) 25)) (.int .i64 1) (.int .i64 aC) (.int .i64 2) (.slice (some ⟨W2.heap.size, 0, none⟩) aC aC) 24).grown (Grown.drew (Grown.refl _)), ((Filled.new W2 aC (fun _ => 0) 25).whole).grown (Grown.drew (Grown.alloc (Grown.refl _) _ _)), r0, Nat.lt_succ_of_lt r0, by omega, Nat.le_refl _⟩)
  have HB := Lib.hid (show P1 w w.heap.size (W2.heap.size + 1) W2.heap.size aC (.int .i64 aR) (.int .i64 aC) (.int .i64 aF) (.slice ad an ca) (.int .i64 1) (.int .i64 aC) (.int .i64 2) (colS aF g aC 0) aC (((W2.alloc (.cells #[.int .i64 1, .int .i64 aC, .int .i64 2, .slice (some ⟨W2.heap.size + 1, 0, none⟩) aC aC] 24)).alloc (.cells (madeCells #[.int .u32 0] aC) 25)).drew) from
    ⟨gr, HT1.out.grown gr, HT3.out.grown gr, (ten_new W2 (.int .i64 1) (.int .i64 aC) (.int .i64 2) (.slice (some ⟨W2.heap.size + 1, 0, none⟩) aC aC) 24).grown (Grown.drew (Grown.alloc (Grown.refl _) _ _)), by have := ((Filled.new (W2.alloc (.cells #[.int .i64 1, .int .i64 aC, .int .i64 2, .slice (some ⟨W2.heap.size + 1, 0, none⟩) aC aC] 24)) aC (fun _ => 0) 25).whole).grown (Grown.drew (Grown.refl _)); simp only [World.size_alloc] at this; exact this, Nat.lt_succ_of_lt r0, r0, by omega, Nat.le_refl _⟩)
  go_wp2_with fail
  go_region
  all_goals
    go_wp2_with fail
    clear hmk p0 p1 p2 p3 p4 r0 r1 r2 r3 r4 r5 r6 r7 r8
    generalize hW3 : ((W2.alloc _).alloc _).drew = W3
    first
      | (have HP := hW3 ▸ HA.out
         clear hW3 HA HB
         generalize W2.heap.size + 1 = ob at HP ⊢
         generalize W2.heap.size = nb at HP ⊢)
      | (have HP := hW3 ▸ HB.out
         clear hW3 HA HB
         generalize W2.heap.size + 1 = nb at HP ⊢
         generalize W2.heap.size = ob at HP ⊢)
    replace HP := Lib.hid HP
    clear HT1 HT3 HG
    go_loopw [5] (fun i wr => ProdOut (fun I => P1 w w.heap.size nb ob aC (.int .i64 aR) (.int .i64 aC) (.int .i64 aF) (.slice ad an ca) (.int .i64 1) (.int .i64 aC) (.int .i64 2) (colS aF g aC I) aC) an 1 i wr) (fun i _ => an - (intOf i).toNat)
    case atStart => exact ⟨0, Nat.zero_le _, rfl, HP.out⟩
    case round =>
      rename World => wr
      clear HP
      obtain ⟨I, hI, rfl, hP⟩ := hrel
      rw [Nat.mul_one] at hP
      have HP := Lib.hid hP
      clear hP
      by_cases hI2 : I < an
      · obtain ⟨J, hJe⟩ : ∃ J, I % aC = J := ⟨_, rfl⟩
        have hc0 : 0 < aC := by
          rcases Nat.eq_zero_or_pos aC with e | e
          · exfalso
            have := HAN.out
            rw [e, Nat.mul_zero] at this
            omega
          · exact e
        have hJ : J < aC := by rw [← hJe]; exact Nat.mod_lt _ hc0
        have hrem : Int.tmod (I : Int) (aC : Int) = (J : Int) := by rw [← hJe]; exact (Int.ofNat_tmod I aC).symm
        have hnz : ¬ (aC : Int) = 0 := by omega
        have hnz2 : ¬ aC = 0 := by omega
        have HJE := Lib.hid hJe
        have B2 := colS_bd aF g aC I J
        obtain ⟨s, hs⟩ : ∃ s, colS aF g aC I J = s := ⟨_, rfl⟩
        rw [hs] at B2
        have HS := Lib.hid hs
        clear hs
        have B1 := wid_bd aF g I
        obtain ⟨u, hu⟩ : ∃ u, widV aF g I = u := ⟨_, rfl⟩
        have HGI := Lib.hid (show colS aF g aC (I + 1) J = addV s u by show (if J = I % aC then addV (colS aF g aC I J) (widV aF g I) else colS aF g aC I J) = _; rw [if_pos hJe.symm, HS.out, hu])
        rw [hu] at B1
        have HU := Lib.hid hu
        have HG := Lib.hid HP.out.g
        clear hu
        obtain ⟨p0, p1, p2, p3, p4, _, _, _, _⟩ := HP.out.t1
        obtain ⟨o0, o1, o2, o3, o4, _, _, _, _⟩ := HP.out.t4
        have y := (HP.out.f.cell J hJ).trans (by rw [if_pos hJ, HS.out])
        have z := HP.out.f.free J
        have n1 : ¬ nb = w.heap.size := by have := HP.out.o; omega
        have n2 : ¬ nb = w.heap.size + 1 := by have := HP.out.o; omega
        have n3 : ¬ nb = ob := HP.out.ne
        go_wp2_with fail
        have Y0 : ∀ d : Later wr, d.w.cell? ⟨w.heap.size, 0, none⟩ = some (.int .i64 aR) := fun d => grown_cell d.g p1 p0
        have Y1 : ∀ d : Later wr, d.w.cell? ⟨w.heap.size, 1, none⟩ = some (.int .i64 aC) := fun d => grown_cell d.g p2 p0
        have Y2 : ∀ d : Later wr, d.w.cell? ⟨w.heap.size, 2, none⟩ = some (.int .i64 aF) := fun d => grown_cell d.g p3 p0
        have Y3 : ∀ d : Later wr, d.w.cell? ⟨w.heap.size, 3, none⟩ = some (.slice ad an ca) := fun d => grown_cell d.g p4 p0
        have Y4 : ∀ d : Later wr, d.w.cell? ⟨ob, 3, none⟩ = some (.slice (some ⟨nb, 0, none⟩) aC aC) := fun d => grown_cell d.g o4 o0
        have Y5 : ∀ d : Later wr, d.w.cell? ⟨nb, J, none⟩ = some (.int .u32 s) := fun d => grown_cell d.g y HP.out.f.lies
        refine region_later_tail wr 19 (by kernel_rfl) (by kernel_rfl) (Grown.refl _) ?_
        simp only [List.take_succ_cons, List.take_zero, List.drop_succ_cons, List.drop_zero]
        repeat (go_big_quiet_step ((first
          | (go_at_call 27; exact later_call (twide_any aR aC aF ad an ca I g _ hn hI2 (H1.out.grown (grown_trans HG.out (Later.g _)))) (fun e w' q => ⟨q.1.trans (by rw [HU.out]), q.2⟩))
          | (go_at_call 26; exact later_call (nadd_any s u _ B2.1 B2.2 B1.1 B1.2) (fun e w' q => ⟨q.1, q.2.2.2⟩)))))
        refine wpQuiet_nil ?_
        rintro ⟨W6, hW⟩
        change wpList _ _ _ _ _ W6
        clear Y0 Y1 Y2 Y3 Y4 Y5
        replace HG := Lib.hid (show Grown w W6 from grown_trans gr hW)
        replace HP := Lib.hid (HP.out.grown hW)
        clear hW p0 p1 p2 p3 p4 o0 o1 o2 o3 o4 y z
        obtain ⟨p0, p1, p2, p3, p4, _, _, _, _⟩ := HP.out.t1
        obtain ⟨o0, o1, o2, o3, o4, _, _, _, _⟩ := HP.out.t4
        have y := (HP.out.f.cell J hJ).trans (by rw [if_pos hJ, HS.out])
        have z := HP.out.f.free J
        go_wp2
        go_roundw
        case rel => exact ⟨I + 1, by omega, by go_num, by
          rw [Nat.mul_one]
          exact (HP.out.upd hJ HGI.out (fun t ht => by show (if t = I % aC then addV (colS aF g aC I t) (widV aF g I) else colS aF g aC I t) = _; rw [if_neg (by rw [HJE.out]; exact ht)])).grown gr⟩
        case measure => simp [intOf]; omega
      · have hI3 : an = I := by omega
        subst hI3
        obtain ⟨p0, p1, p2, p3, p4, _, _, _, _⟩ := HP.out.t4
        obtain ⟨q0, q1, q2, q3, q4, q5, q6, q7, q8⟩ := HP.out.t3
        obtain ⟨r0, r1, r2, r3, r4, _, _, _, _⟩ := HP.out.t1
        have HF := Lib.hid HP.out.f
        have ho : w.heap.size + 1 < nb := HP.out.o
        have ho2 : w.heap.size + 1 < ob := HP.out.o2
        have HG := Lib.hid HP.out.g
        go_wp2
        (try simp only [Exit.inBlock, Exit.then])
        refine bodyPost_ret (v := .tuple #[.agg #[.int .i64 1, .int .i64 aC, .int .i64 2, .slice (some ⟨nb, 0, none⟩) aC aC], .int .i64 0]) ?_ rfl ⟨_, _, rfl, ?_, (show aC ≤ 9223372036854775807 by omega), fun x hx => by cases hx; show w.heap.size ≤ nb; omega, ?_⟩
        · rw [results_cell_tmp rfl]
          go_simp
        · have hne : nb ≠ w.heap.size + 1 := by omega
          exact ((((((HGG.out ▸ HF.out : Filled nb aC G aC wr)).other (a := ⟨w.heap.size + 1, 0, none⟩) hne _).other (a := ⟨w.heap.size + 1, 1, none⟩) hne _).other (a := ⟨w.heap.size + 1, 2, none⟩) hne _).other (a := ⟨w.heap.size + 1, 3, none⟩) hne _).reads fun t _ => HGB.out t
        · exact gr

def sumsT (a : PT) : PT :=
  if a.right then ⟨1, a.C, 2, a.C.toNat, fun t => colS a.F a.g a.C.toNat a.n t⟩ else PT.bad

def sumsX (a : PT) : Int := if a.right then 0 else 21

theorem rsums_any (aR aC aF : Int) (ad : Option Addr) (an ca : Nat) (g : Nat → Int) (w : World) (hn : an ≤ 9223372036854775807) (h1 : Reads ad an g w) :
    Calls Tryz.prog 10 #[.agg #[.int .i64 aR, .int .i64 aC, .int .i64 aF, .slice ad an ca]] w (TenE (sumsT ⟨aR, aC, aF, an, g⟩) (sumsX ⟨aR, aC, aF, an, g⟩) w) := by
  unfold sumsT sumsX PT.right
  dsimp only
  cases hr : rightB aR aC aF an g
  · exact rsums_bad1 aR aC aF ad an ca g w hn h1 hr
  · obtain ⟨r, c, e1, e2, l1, l2, e3⟩ := right_nat (t := ⟨aR, aC, aF, an, g⟩) hr
    simp only at e1 e2 e3
    subst e1 e2
    obtain ⟨_, m1⟩ := wrap_mul r c an l1 l2 e3.symm
    exact rsums_good aF r c ad an ca g w m1 h1 l1 l2 e3 hr

/-- Where the number behind t of a turned tensor stood. -/
def turP (R C t : Nat) : Nat := t % R * C + t / R

/-- A turned tensor behind I of its numbers. -/
def turS (R C : Nat) (g : Nat → Int) (I t : Nat) : Int := if t < R * C ∧ turP R C t < I then g (turP R C t) else 0

theorem turP_lt (R C t : Nat) (h : t < R * C) : turP R C t < R * C := by
  have hR : 0 < R := by rcases Nat.eq_zero_or_pos R with e | e; · subst e; simp at h
                        · exact e
  have h1 := Nat.mod_lt t hR
  have h2 : t / R < C := (Nat.div_lt_iff_lt_mul hR).2 (by rw [Nat.mul_comm]; exact h)
  unfold turP
  have h3 : (t % R + 1) * C ≤ R * C := Nat.mul_le_mul_right _ h1
  rw [Nat.add_mul, Nat.one_mul] at h3
  omega

/-- .. and each stood at a place of its own. -/
theorem turP_one (R C r c t : Nat) (hr : r < R) (hc : c < C) (ht : t < R * C) : turP R C t = r * C + c ↔ t = c * R + r := by
  have hR : 0 < R := by omega
  have h1 := Nat.mod_lt t hR
  have h2 : t / R < C := (Nat.div_lt_iff_lt_mul hR).2 (by rw [Nat.mul_comm]; exact ht)
  unfold turP
  constructor
  · intro e
    have e1 : t % R = r := by
      have a : (t % R * C + t / R) / C = (r * C + c) / C := by rw [e]
      have hC : 0 < C := by omega
      rw [Nat.mul_comm, Nat.mul_add_div hC, Nat.div_eq_of_lt h2, Nat.mul_comm, Nat.mul_add_div hC, Nat.div_eq_of_lt hc] at a
      omega
    rw [e1] at e
    have e2 : t / R = c := by omega
    have := Nat.div_add_mod t R
    rw [e1, e2, Nat.mul_comm] at this
    omega
  · rintro rfl
    rw [Nat.mul_comm c R, Nat.mul_add_mod, Nat.mod_eq_of_lt hr, Nat.mul_add_div hR, Nat.div_eq_of_lt hr]
    omega

theorem turS_bd (R C : Nat) (g : Nat → Int) (n I t : Nat) (hn : R * C ≤ n) (h : ∀ i, i < n → 0 ≤ g i ∧ g i ≤ 4294967295) : 0 ≤ turS R C g I t ∧ turS R C g I t ≤ 4294967295 := by
  unfold turS
  split
  · next c => exact h _ (by have := turP_lt R C t c.1; omega)
  · omega

theorem turS_zero (R C : Nat) (g : Nat → Int) (t : Nat) : turS R C g 0 t = 0 := by unfold turS; rw [if_neg (by omega)]

theorem turS_all (R C : Nat) (g : Nat → Int) (t : Nat) (h : t < R * C) : turS R C g (R * C) t = g (turP R C t) := by unfold turS; rw [if_pos ⟨h, turP_lt R C t h⟩]

theorem turS_next (R C : Nat) (g : Nat → Int) (r c : Nat) (hr : r < R) (hc : c < C) : c * R + r < R * C ∧ turS R C g (r * C + c + 1) (c * R + r) = g (r * C + c) ∧ ∀ t, t ≠ c * R + r → turS R C g (r * C + c + 1) t = turS R C g (r * C + c) t := by
  have hj : c * R + r < R * C := by
    have : (c + 1) * R ≤ C * R := Nat.mul_le_mul_right _ hc
    rw [Nat.add_mul, Nat.one_mul, Nat.mul_comm C R] at this
    omega
  have hp := (turP_one R C r c _ hr hc hj).2 rfl
  refine ⟨hj, ?_, fun t ht => ?_⟩
  · unfold turS; rw [hp, if_pos ⟨hj, by omega⟩]
  · unfold turS
    by_cases a : t < R * C
    · have hne : turP R C t ≠ r * C + c := fun e => ht ((turP_one R C r c t hr hc a).1 e)
      by_cases b : turP R C t < r * C + c
      · rw [if_pos ⟨a, by omega⟩, if_pos ⟨a, b⟩]
      · rw [if_neg (by omega), if_neg (by omega)]
    · rw [if_neg (by omega), if_neg (by omega)]

theorem Filled.whole0 {b M : Nat} {G : Nat → Int} {W : World} (h : Filled b M G 0 W) (R C : Nat) (g : Nat → Int) : Filled b M (turS R C g 0) M W :=
  ⟨h.lies, fun t ht => by rw [h.cell t ht, if_neg (Nat.not_lt_zero t), if_pos ht, turS_zero], h.free⟩

/-- .. whose slice is sound. -/
def TenS (t : PT) (E : Int) (w : World) (e : Ending) (w' : World) : Prop :=
  ∃ (ad : Option Addr) (c : Nat), e = .returned (.tuple #[.agg #[.int .i64 t.R, .int .i64 t.C, .int .i64 t.F, .slice ad t.n c], .int .i64 E]) ∧ Reads ad t.n t.g w' ∧ t.n ≤ 9223372036854775807 ∧ Fresh ad w ∧ Grown w w' ∧ Sound ad t.n c

theorem at_nums (i j k cN n : Nat) (hk : i * cN + j = k) (hi : k < n) (hn : n ≤ 16777216) : ∃ q : Nat, (i : Int) * (cN : Int) = (q : Int) ∧ IntKind.i64.wrap ((i : Int) * (cN : Int)) = (q : Int) ∧ IntKind.i64.wrap ((q : Int) + (j : Int)) = (k : Int)
    ∧ wrap64 (q : Int) = (q : Int) ∧ (q : Int) + (j : Int) = (k : Int) ∧ wrap64 (k : Int) = (k : Int) := by
  obtain ⟨q, hq⟩ : ∃ q : Nat, i * cN = q := ⟨_, rfl⟩
  rw [hq] at hk
  have hq1 : (i : Int) * (cN : Int) = (q : Int) := by rw [← hq, Int.natCast_mul]
  refine ⟨q, hq1, by rw [hq1, IntKind.wrap_i64]; omega, by rw [IntKind.wrap_i64]; omega, by rw [wrap64_is, IntKind.wrap_i64]; omega, by omega, by rw [wrap64_is, IntKind.wrap_i64]; omega⟩

def rturT (t : PT) : PT := if t.right then ⟨t.C, t.R, t.F, t.n, fun i => t.g (turP t.R.toNat t.C.toNat i)⟩ else PT.bad

def rturX (t : PT) : Int := if t.right then 0 else 21

end Go.Proofs.YtmipefapjehkaaaGreat
