/- The contract of annealref13's product. The contracts of annealref13's Plain, Rows, Cols. -/
import Derived.Test.YtmipefapjehkaaaRKern
namespace Go.Proofs.Ytmipefapjehkaaa
open Go.RowKit
set_option linter.unusedVariables false
set_option linter.unusedSimpArgs false

/-- Where the numbers of a row or a column lie. -/
def ixI (t : Bool) (C i x : Nat) : Nat := if t then x * C + i else i * C + x

/-- The number at i, j of a product. -/
def prodV (a b : PT) (ta tb : Bool) (k i j : Nat) : Int :=
  dotV (fun x => widV a.F a.g (ixI ta a.C.toNat i x)) (fun x => widV b.F b.g (ixI (!tb) b.C.toNat j x)) k

def prodM (a : PT) (ta : Bool) : Int := if ta then a.C else a.R

def prodK (a : PT) (ta : Bool) : Int := if ta then a.R else a.C

def prodOk (a b : PT) (ta tb : Bool) : Bool := a.right && b.right && (prodK a ta == prodM b tb)

def prodT (a b : PT) (ta tb : Bool) : PT :=
  if prodOk a b ta tb then ⟨prodM a ta, prodK b tb, 2, (prodM a ta).toNat * (prodK b tb).toNat, fun t => prodV a b ta tb (prodK a ta).toNat (t / (prodK b tb).toNat) (t % (prodK b tb).toNat)⟩ else PT.bad

def prodX (a b : PT) (ta tb : Bool) : Int := if prodOk a b ta tb then 0 else 21

/-- What holds of the product's memory: its two tensors', its result's, its own tensor's blocks, its row with k numbers reckoned. -/
structure PS (w : World) (B nb ob M : Nat) (a0 a1 a2 a3 b0 b1 b2 b3 m n fv : Value) (G : Nat → Int) (k : Nat) (W : World) : Prop where
  g : Grown w W
  t1 : TenAt B a0 a1 a2 a3 W
  t2 : TenAt (B + 1) b0 b1 b2 b3 W
  t3 : TenAt (B + 1 + 1) (.int .i64 0) (.int .i64 0) (.int .i64 0) (.slice none 0 0) W
  t4 : TenAt ob m n fv (.slice (some ⟨nb, 0, none⟩) M M) W
  f : Filled nb M G k W
  o : B + 1 + 1 < nb
  o2 : B + 1 + 1 < ob
  ne : nb ≠ ob
  s : w.heap.size ≤ B

section
variable {w : World} {B nb ob M : Nat} {a0 a1 a2 a3 b0 b1 b2 b3 m n fv : Value} {G : Nat → Int} {k : Nat} {W : World}

theorem PS.grown {W' : World} (h : PS w B nb ob M a0 a1 a2 a3 b0 b1 b2 b3 m n fv G k W) (g : Grown W W') : PS w B nb ob M a0 a1 a2 a3 b0 b1 b2 b3 m n fv G k W' :=
  ⟨grown_trans h.g g, h.t1.grown g, h.t2.grown g, h.t3.grown g, h.t4.grown g, h.f.grown g, h.o, h.o2, h.ne, h.s⟩

theorem PS.set (h : PS w B nb ob M a0 a1 a2 a3 b0 b1 b2 b3 m n fv G k W) (hk : k < M) : PS w B nb ob M a0 a1 a2 a3 b0 b1 b2 b3 m n fv G (k + 1) (W.setCell ⟨nb, k, none⟩ (.int .u32 (G k))) :=
  ⟨Grown.setCell h.g (by have := h.o; have := h.s; show w.heap.size ≤ nb; omega) _, h.t1.set (by have := h.o; show B ≠ nb; omega) _, h.t2.set (by have := h.o; show B + 1 ≠ nb; omega) _, h.t3.set (by have := h.o; show B + 1 + 1 ≠ nb; omega) _,
    h.t4.set (by have := h.ne; show ob ≠ nb; omega) _, h.f.set hk, h.o, h.o2, h.ne, h.s⟩
end

set_option maxHeartbeats 1000000 in
theorem rprod_bad1 (aR aC aF bR bC bF : Int) (ad bd : Option Addr) (an bn ca cb : Nat) (g h : Nat → Int) (ta tb : Bool) (w : World) (hn : an ≤ 9223372036854775807) (hn' : bn ≤ 9223372036854775807) (h1 : Reads ad an g w) (h2 : Reads bd bn h w) (hr : rightB aR aC aF an g = false) :
    Calls Try.prog 30 #[.agg #[.int .i64 aR, .int .i64 aC, .int .i64 aF, .slice ad an ca], .agg #[.int .i64 bR, .int .i64 bC, .int .i64 bF, .slice bd bn cb], .bool ta, .bool tb] w (TenE PT.bad 21 w) := by
  have H1 := Lib.hid h1
  have K1 := Lib.hid (show Ending.returned (.bool (rightB aR aC aF an g)) = .returned (.bool false) by rw [hr])
  clear h1 h2 hr
  have HT1 := Lib.hid ((ten_new w (.int .i64 aR) (.int .i64 aC) (.int .i64 aF) (.slice ad an ca) 24).grown (Grown.alloc (Grown.alloc (Grown.refl _) #[.int .i64 bR, .int .i64 bC, .int .i64 bF, .slice bd bn cb] 24) #[.int .i64 0, .int .i64 0, .int .i64 0, .slice none 0 0] 24))
  have HT2 := Lib.hid ((ten_new (w.alloc (.cells #[.int .i64 aR, .int .i64 aC, .int .i64 aF, .slice ad an ca] 24)) (.int .i64 bR) (.int .i64 bC) (.int .i64 bF) (.slice bd bn cb) 24).grown (Grown.alloc (Grown.refl _) #[.int .i64 0, .int .i64 0, .int .i64 0, .slice none 0 0] 24))
  have HT3 := Lib.hid (ten_new ((w.alloc (.cells #[.int .i64 aR, .int .i64 aC, .int .i64 aF, .slice ad an ca] 24)).alloc (.cells #[.int .i64 bR, .int .i64 bC, .int .i64 bF, .slice bd bn cb] 24)) (.int .i64 0) (.int .i64 0) (.int .i64 0) (.slice none 0 0) 24)
  have HG := Lib.hid (Grown.alloc (Grown.alloc (Grown.alloc (Grown.refl w) #[.int .i64 aR, .int .i64 aC, .int .i64 aF, .slice ad an ca] 24) #[.int .i64 bR, .int .i64 bC, .int .i64 bF, .slice bd bn cb] 24) #[.int .i64 0, .int .i64 0, .int .i64 0, .slice none 0 0] 24)
  go_enter Try.func30, Try.ntmps30
  go_wp2_with fail
  simp only [World.size_alloc] at HT2 HT3
  generalize ((w.alloc _).alloc _).alloc _ = W0 at HT1 HT2 HT3 HG ⊢
  refine (rright_any _ _ _ _ _ _ _ _ (by assumption) (H1.out.grown HG.out)).mono ?_
  rintro e W1 ⟨he, hW⟩
  rw [K1.out] at he
  subst he
  replace HT1 := Lib.hid (HT1.out.grown hW)
  replace HT2 := Lib.hid (HT2.out.grown hW)
  replace HT3 := Lib.hid (HT3.out.grown hW)
  replace HG := Lib.hid (grown_trans HG.out hW)
  clear hW
  obtain ⟨p0, p1, p2, p3, p4, _, _, _, _⟩ := HT1.out
  obtain ⟨q0, q1, q2, q3, q4, _, _, _, _⟩ := HT2.out
  obtain ⟨r0, r1, r2, r3, r4, r5, r6, r7, r8⟩ := HT3.out
  go_wp2
  (try simp only [Exit.inBlock, Exit.then])
  refine bodyPost_ret (v := .tuple #[.agg #[.int .i64 0, .int .i64 0, .int .i64 0, .slice none 0 0], .int .i64 21]) ?_ rfl ⟨none, 0, rfl, Reads.nil _ _ _, by decide, fresh_none _, gr⟩
  rw [results_cell_tmp rfl]
  go_simp

set_option maxHeartbeats 1000000 in
theorem rprod_bad2 (aR aC aF bR bC bF : Int) (ad bd : Option Addr) (an bn ca cb : Nat) (g h : Nat → Int) (ta tb : Bool) (w : World) (hn : an ≤ 9223372036854775807) (hn' : bn ≤ 9223372036854775807) (h1 : Reads ad an g w) (h2 : Reads bd bn h w) (hr : rightB aR aC aF an g = true) (hr2 : rightB bR bC bF bn h = false) :
    Calls Try.prog 30 #[.agg #[.int .i64 aR, .int .i64 aC, .int .i64 aF, .slice ad an ca], .agg #[.int .i64 bR, .int .i64 bC, .int .i64 bF, .slice bd bn cb], .bool ta, .bool tb] w (TenE PT.bad 21 w) := by
  have H1 := Lib.hid h1
  have H2 := Lib.hid h2
  have K1 := Lib.hid (show Ending.returned (.bool (rightB aR aC aF an g)) = .returned (.bool true) by rw [hr])
  have K2 := Lib.hid (show Ending.returned (.bool (rightB bR bC bF bn h)) = .returned (.bool false) by rw [hr2])
  clear h1 h2 hr hr2
  have HT1 := Lib.hid ((ten_new w (.int .i64 aR) (.int .i64 aC) (.int .i64 aF) (.slice ad an ca) 24).grown (Grown.alloc (Grown.alloc (Grown.refl _) #[.int .i64 bR, .int .i64 bC, .int .i64 bF, .slice bd bn cb] 24) #[.int .i64 0, .int .i64 0, .int .i64 0, .slice none 0 0] 24))
  have HT2 := Lib.hid ((ten_new (w.alloc (.cells #[.int .i64 aR, .int .i64 aC, .int .i64 aF, .slice ad an ca] 24)) (.int .i64 bR) (.int .i64 bC) (.int .i64 bF) (.slice bd bn cb) 24).grown (Grown.alloc (Grown.refl _) #[.int .i64 0, .int .i64 0, .int .i64 0, .slice none 0 0] 24))
  have HT3 := Lib.hid (ten_new ((w.alloc (.cells #[.int .i64 aR, .int .i64 aC, .int .i64 aF, .slice ad an ca] 24)).alloc (.cells #[.int .i64 bR, .int .i64 bC, .int .i64 bF, .slice bd bn cb] 24)) (.int .i64 0) (.int .i64 0) (.int .i64 0) (.slice none 0 0) 24)
  have HG := Lib.hid (Grown.alloc (Grown.alloc (Grown.alloc (Grown.refl w) #[.int .i64 aR, .int .i64 aC, .int .i64 aF, .slice ad an ca] 24) #[.int .i64 bR, .int .i64 bC, .int .i64 bF, .slice bd bn cb] 24) #[.int .i64 0, .int .i64 0, .int .i64 0, .slice none 0 0] 24)
  go_enter Try.func30, Try.ntmps30
  go_wp2_with fail
  simp only [World.size_alloc] at HT2 HT3
  generalize ((w.alloc _).alloc _).alloc _ = W0 at HT1 HT2 HT3 HG ⊢
  refine (rright_any _ _ _ _ _ _ _ _ (by assumption) (H1.out.grown HG.out)).mono ?_
  rintro e W1 ⟨he, hW⟩
  rw [K1.out] at he
  subst he
  replace HT1 := Lib.hid (HT1.out.grown hW)
  replace HT2 := Lib.hid (HT2.out.grown hW)
  replace HT3 := Lib.hid (HT3.out.grown hW)
  replace HG := Lib.hid (grown_trans HG.out hW)
  clear hW
  obtain ⟨p0, p1, p2, p3, p4, _, _, _, _⟩ := HT1.out
  obtain ⟨q0, q1, q2, q3, q4, _, _, _, _⟩ := HT2.out
  obtain ⟨r0, r1, r2, r3, r4, r5, r6, r7, r8⟩ := HT3.out
  go_wp2_with fail
  refine (rright_any _ _ _ _ _ _ _ _ (by assumption) (H2.out.grown HG.out)).mono ?_
  rintro e W2 ⟨he, hW⟩
  rw [K2.out] at he
  subst he
  replace HT1 := Lib.hid (HT1.out.grown hW)
  replace HT2 := Lib.hid (HT2.out.grown hW)
  replace HT3 := Lib.hid (HT3.out.grown hW)
  replace HG := Lib.hid (grown_trans HG.out hW)
  clear hW
  clear p0 p1 p2 p3 p4 q0 q1 q2 q3 q4 r0 r1 r2 r3 r4 r5 r6 r7 r8
  obtain ⟨p0, p1, p2, p3, p4, _, _, _, _⟩ := HT1.out
  obtain ⟨q0, q1, q2, q3, q4, _, _, _, _⟩ := HT2.out
  obtain ⟨r0, r1, r2, r3, r4, r5, r6, r7, r8⟩ := HT3.out
  go_wp2
  (try simp only [Exit.inBlock, Exit.then])
  refine bodyPost_ret (v := .tuple #[.agg #[.int .i64 0, .int .i64 0, .int .i64 0, .slice none 0 0], .int .i64 21]) ?_ rfl ⟨none, 0, rfl, Reads.nil _ _ _, by decide, fresh_none _, gr⟩
  rw [results_cell_tmp rfl]
  go_simp

set_option maxHeartbeats 1000000 in
theorem rprod_bad3 (aR aC aF bR bC bF : Int) (ad bd : Option Addr) (an bn ca cb : Nat) (g h : Nat → Int) (ta tb : Bool) (w : World) (hn : an ≤ 9223372036854775807) (hn' : bn ≤ 9223372036854775807) (h1 : Reads ad an g w) (h2 : Reads bd bn h w) (hr : rightB aR aC aF an g = true) (hr2 : rightB bR bC bF bn h = true) (hk : (if ta then aR else aC) ≠ (if tb then bC else bR)) :
    Calls Try.prog 30 #[.agg #[.int .i64 aR, .int .i64 aC, .int .i64 aF, .slice ad an ca], .agg #[.int .i64 bR, .int .i64 bC, .int .i64 bF, .slice bd bn cb], .bool ta, .bool tb] w (TenE PT.bad 21 w) := by
  have H1 := Lib.hid h1
  have H2 := Lib.hid h2
  have K1 := Lib.hid (show Ending.returned (.bool (rightB aR aC aF an g)) = .returned (.bool true) by rw [hr])
  have K2 := Lib.hid (show Ending.returned (.bool (rightB bR bC bF bn h)) = .returned (.bool true) by rw [hr2])
  clear h1 h2 hr hr2
  have HT1 := Lib.hid ((ten_new w (.int .i64 aR) (.int .i64 aC) (.int .i64 aF) (.slice ad an ca) 24).grown (Grown.alloc (Grown.alloc (Grown.refl _) #[.int .i64 bR, .int .i64 bC, .int .i64 bF, .slice bd bn cb] 24) #[.int .i64 0, .int .i64 0, .int .i64 0, .slice none 0 0] 24))
  have HT2 := Lib.hid ((ten_new (w.alloc (.cells #[.int .i64 aR, .int .i64 aC, .int .i64 aF, .slice ad an ca] 24)) (.int .i64 bR) (.int .i64 bC) (.int .i64 bF) (.slice bd bn cb) 24).grown (Grown.alloc (Grown.refl _) #[.int .i64 0, .int .i64 0, .int .i64 0, .slice none 0 0] 24))
  have HT3 := Lib.hid (ten_new ((w.alloc (.cells #[.int .i64 aR, .int .i64 aC, .int .i64 aF, .slice ad an ca] 24)).alloc (.cells #[.int .i64 bR, .int .i64 bC, .int .i64 bF, .slice bd bn cb] 24)) (.int .i64 0) (.int .i64 0) (.int .i64 0) (.slice none 0 0) 24)
  have HG := Lib.hid (Grown.alloc (Grown.alloc (Grown.alloc (Grown.refl w) #[.int .i64 aR, .int .i64 aC, .int .i64 aF, .slice ad an ca] 24) #[.int .i64 bR, .int .i64 bC, .int .i64 bF, .slice bd bn cb] 24) #[.int .i64 0, .int .i64 0, .int .i64 0, .slice none 0 0] 24)
  cases ta <;> cases tb
  all_goals
    simp only [Bool.false_eq_true, if_true, if_false] at hk
    first
      | (have e1 : (aC == bR) = false := by simpa using hk
         have e2 : (aC != bR) = true := by rw [bne, e1]; rfl
         have e3 := e1)
      | (have e1 : (aC == bC) = false := by simpa using hk
         have e2 : (aC != bC) = true := by rw [bne, e1]; rfl
         have e3 := e1)
      | (have e1 : (aR == bR) = false := by simpa using hk
         have e2 : (aR != bR) = true := by rw [bne, e1]; rfl
         have e3 := e1)
      | (have e1 : (aR == bC) = false := by simpa using hk
         have e2 : (aR != bC) = true := by rw [bne, e1]; rfl
         have e3 := e1)
    clear hk e3
    go_enter Try.func30, Try.ntmps30
    go_wp2_with fail
    simp only [World.size_alloc] at HT2 HT3
    generalize ((w.alloc _).alloc _).alloc _ = W0 at HT1 HT2 HT3 HG ⊢
    refine (rright_any _ _ _ _ _ _ _ _ (by assumption) (H1.out.grown HG.out)).mono ?_
    rintro e W1 ⟨he, hW⟩
    rw [K1.out] at he
    subst he
    replace HT1 := Lib.hid (HT1.out.grown hW)
    replace HT2 := Lib.hid (HT2.out.grown hW)
    replace HT3 := Lib.hid (HT3.out.grown hW)
    replace HG := Lib.hid (grown_trans HG.out hW)
    clear hW
    obtain ⟨p0, p1, p2, p3, p4, _, _, _, _⟩ := HT1.out
    obtain ⟨q0, q1, q2, q3, q4, _, _, _, _⟩ := HT2.out
    obtain ⟨r0, r1, r2, r3, r4, r5, r6, r7, r8⟩ := HT3.out
    go_wp2_with fail
    refine (rright_any _ _ _ _ _ _ _ _ (by assumption) (H2.out.grown HG.out)).mono ?_
    rintro e W2 ⟨he, hW⟩
    rw [K2.out] at he
    subst he
    replace HT1 := Lib.hid (HT1.out.grown hW)
    replace HT2 := Lib.hid (HT2.out.grown hW)
    replace HT3 := Lib.hid (HT3.out.grown hW)
    replace HG := Lib.hid (grown_trans HG.out hW)
    clear hW
    clear p0 p1 p2 p3 p4 q0 q1 q2 q3 q4 r0 r1 r2 r3 r4 r5 r6 r7 r8
    obtain ⟨p0, p1, p2, p3, p4, _, _, _, _⟩ := HT1.out
    obtain ⟨q0, q1, q2, q3, q4, _, _, _, _⟩ := HT2.out
    obtain ⟨r0, r1, r2, r3, r4, r5, r6, r7, r8⟩ := HT3.out
    go_wp2
    go_quiet (fail)
    go_wp2
    go_quiet (fail)
    go_wp2
    (try simp only [Exit.inBlock, Exit.then])
    refine bodyPost_ret (v := .tuple #[.agg #[.int .i64 0, .int .i64 0, .int .i64 0, .slice none 0 0], .int .i64 21]) ?_ rfl ⟨none, 0, rfl, Reads.nil _ _ _, by decide, fresh_none _, gr⟩
    rw [results_cell_tmp rfl]
    go_simp

def ProdOut (P : Nat → World → Prop) (m n : Nat) (i : Value) (wr : World) : Prop := ∃ I : Nat, I ≤ m ∧ i = .int .i64 I ∧ P (I * n) wr

def ProdIn (P : Nat → World → Prop) (n d : Nat) (j : Value) (wr : World) : Prop := ∃ J : Nat, J ≤ n ∧ j = .int .i64 J ∧ P (d + J) wr

def ProdDot (P : World → Prop) (g h : Nat → Int) (k : Nat) (s x : Value) (wr : World) : Prop :=
  ∃ X : Nat, X ≤ k ∧ x = .int .i64 X ∧ s = .int .u32 (dotV g h X) ∧ 0 ≤ dotV g h X ∧ dotV g h X ≤ 4294967295 ∧ P wr

set_option maxRecDepth 100000 in
set_option maxHeartbeats 4000000 in
theorem rprod_ff (aR aC bR bC : Nat) (aF bF : Int) (ad bd : Option Addr) (an bn ca cb : Nat) (g h : Nat → Int) (w : World) (ha1 : aR ≤ 4096) (ha2 : aC ≤ 4096) (hb1 : bR ≤ 4096) (hb2 : bC ≤ 4096) (han : aR * aC = an) (hbn : bR * bC = bn) (h1 : Reads ad an g w) (h2 : Reads bd bn h w)
    (hr : rightB aR aC aF an g = true) (hr2 : rightB bR bC bF bn h = true) (hk : aC = bR) :
    Calls Try.prog 30 #[.agg #[.int .i64 aR, .int .i64 aC, .int .i64 aF, .slice ad an ca], .agg #[.int .i64 bR, .int .i64 bC, .int .i64 bF, .slice bd bn cb], .bool false, .bool false] w
      (TenE ⟨(aR : Nat), (bC : Nat), 2, aR * bC, fun t => dotV (fun x => widV aF g (ixI false aC (t / bC) x)) (fun x => widV bF h (ixI true bC (t % bC) x)) aC⟩ 0 w) := by
  have H1 := Lib.hid h1
  have H2 := Lib.hid h2
  have K1 := Lib.hid (show Ending.returned (.bool (rightB aR aC aF an g)) = .returned (.bool true) by rw [hr])
  have K2 := Lib.hid (show Ending.returned (.bool (rightB bR bC bF bn h)) = .returned (.bool true) by rw [hr2])
  have hn := (wrap_mul aR aC an ha1 ha2 han).2
  have hn' := (wrap_mul bR bC bn hb1 hb2 hbn).2
  have hn : an ≤ 9223372036854775807 := by omega
  have hn' : bn ≤ 9223372036854775807 := by omega
  have Ha := Lib.hid han
  have Hb := Lib.hid hbn
  have HK := Lib.hid hk
  clear h1 h2 hr hr2 han hbn
  obtain ⟨M, hM⟩ : ∃ M : Nat, aR * bC = M := ⟨_, rfl⟩
  obtain ⟨hw1, hw2⟩ := wrap_mul _ _ M (by assumption) (by assumption) hM
  rw [hM]
  have HM := Lib.hid hM
  clear hM
  obtain ⟨G, hG⟩ : ∃ G : Nat → Int, G = fun t => dotV (fun x => widV aF g (ixI false aC (t / bC) x)) (fun x => widV bF h (ixI true bC (t % bC) x)) aC := ⟨_, rfl⟩
  rw [← hG]
  have HGG := Lib.hid hG
  clear hG
  have HT1 := Lib.hid ((ten_new w (.int .i64 (aR : Int)) (.int .i64 (aC : Int)) (.int .i64 aF) (.slice ad an ca) 24).grown (Grown.alloc (Grown.alloc (Grown.refl _) #[.int .i64 (bR : Int), .int .i64 (bC : Int), .int .i64 bF, .slice bd bn cb] 24) #[.int .i64 0, .int .i64 0, .int .i64 0, .slice none 0 0] 24))
  have HT2 := Lib.hid ((ten_new (w.alloc (.cells #[.int .i64 (aR : Int), .int .i64 (aC : Int), .int .i64 aF, .slice ad an ca] 24)) (.int .i64 (bR : Int)) (.int .i64 (bC : Int)) (.int .i64 bF) (.slice bd bn cb) 24).grown (Grown.alloc (Grown.refl _) #[.int .i64 0, .int .i64 0, .int .i64 0, .slice none 0 0] 24))
  have HT3 := Lib.hid (ten_new ((w.alloc (.cells #[.int .i64 (aR : Int), .int .i64 (aC : Int), .int .i64 aF, .slice ad an ca] 24)).alloc (.cells #[.int .i64 (bR : Int), .int .i64 (bC : Int), .int .i64 bF, .slice bd bn cb] 24)) (.int .i64 0) (.int .i64 0) (.int .i64 0) (.slice none 0 0) 24)
  have HG := Lib.hid (Grown.alloc (Grown.alloc (Grown.alloc (Grown.refl w) #[.int .i64 (aR : Int), .int .i64 (aC : Int), .int .i64 aF, .slice ad an ca] 24) #[.int .i64 (bR : Int), .int .i64 (bC : Int), .int .i64 bF, .slice bd bn cb] 24) #[.int .i64 0, .int .i64 0, .int .i64 0, .slice none 0 0] 24)
  have hne : ((aC : Int) == bR) = true := by rw [hk]; simp
  have hne2 : ((aC : Int) != bR) = false := by rw [bne, hne]; rfl
  clear hk
  go_enter Try.func30, Try.ntmps30
  go_wp2_with fail
  simp only [World.size_alloc] at HT2 HT3
  generalize ((w.alloc _).alloc _).alloc _ = W0 at HT1 HT2 HT3 HG ⊢
  refine (rright_any _ _ _ _ _ _ _ _ (by assumption) (H1.out.grown HG.out)).mono ?_
  rintro e W1 ⟨he, hW⟩
  rw [K1.out] at he
  subst he
  replace HT1 := Lib.hid (HT1.out.grown hW)
  replace HT2 := Lib.hid (HT2.out.grown hW)
  replace HT3 := Lib.hid (HT3.out.grown hW)
  replace HG := Lib.hid (grown_trans HG.out hW)
  clear hW
  obtain ⟨p0, p1, p2, p3, p4, _, _, _, _⟩ := HT1.out
  obtain ⟨q0, q1, q2, q3, q4, _, _, _, _⟩ := HT2.out
  obtain ⟨r0, r1, r2, r3, r4, r5, r6, r7, r8⟩ := HT3.out
  go_wp2_with fail
  refine (rright_any _ _ _ _ _ _ _ _ (by assumption) (H2.out.grown HG.out)).mono ?_
  rintro e W2 ⟨he, hW⟩
  rw [K2.out] at he
  subst he
  replace HT1 := Lib.hid (HT1.out.grown hW)
  replace HT2 := Lib.hid (HT2.out.grown hW)
  replace HT3 := Lib.hid (HT3.out.grown hW)
  replace HG := Lib.hid (grown_trans HG.out hW)
  clear hW
  clear p0 p1 p2 p3 p4 q0 q1 q2 q3 q4 r0 r1 r2 r3 r4 r5 r6 r7 r8
  obtain ⟨p0, p1, p2, p3, p4, _, _, _, _⟩ := HT1.out
  obtain ⟨q0, q1, q2, q3, q4, _, _, _, _⟩ := HT2.out
  obtain ⟨r0, r1, r2, r3, r4, r5, r6, r7, r8⟩ := HT3.out
  go_wp2
  go_quiet (fail)
  go_wp2
  go_quiet (fail)
  have hmk := run_make_row' (P := Try.prog) 22 37 (.int .u32 0) 4 Try.underlying22 (by kernel_rfl) rfl .i64 .i64 M (by omega) (by omega)
  go_wp2_with fail
  clear hmk hne hne2 p0 p1 p2 p3 p4 q0 q1 q2 q3 q4 r1 r2 r3 r4 r5 r6 r7 r8
  have HP : ∀ d, PS w w.heap.size W2.heap.size (W2.heap.size + 1) M (.int .i64 aR) (.int .i64 aC) (.int .i64 aF) (.slice ad an ca) (.int .i64 bR) (.int .i64 bC) (.int .i64 bF) (.slice bd bn cb) (.int .i64 aR) (.int .i64 bC) (.int .i64 2) G 0 (((W2.drewN d).alloc (.cells (madeCells #[.int .u32 0] M) 37)).alloc (.cells #[.int .i64 (aR : Int), .int .i64 (bC : Int), .int .i64 2, .slice (some ⟨W2.heap.size, 0, none⟩) M M] 24)) := fun d =>
    ⟨gr, HT1.out.grown gr, HT2.out.grown gr, HT3.out.grown gr, by simpa only [World.size_alloc, World.heap_drewN] using ten_new ((W2.drewN d).alloc (.cells (madeCells #[.int .u32 0] M) 37)) (.int .i64 (aR : Int)) (.int .i64 (bC : Int)) (.int .i64 2) (.slice (some ⟨W2.heap.size, 0, none⟩) M M) 24, (Filled.new (W2.drewN d) M G 37).grown (Grown.alloc (Grown.refl _) _ _), r0, Nat.lt_succ_of_lt r0, by omega, Nat.le_refl _⟩
  generalize hW3 : ((W2.drewN _).alloc _).alloc _ = W3
  replace HP := hW3 ▸ HP _
  clear hW3
  replace HP := Lib.hid HP
  generalize W2.heap.size = nb at HP ⊢
  clear HT1 HT2 HT3 HG r0
  go_loopw [15] (fun i wr => ProdOut (PS w w.heap.size nb (nb + 1) M (.int .i64 aR) (.int .i64 aC) (.int .i64 aF) (.slice ad an ca) (.int .i64 bR) (.int .i64 bC) (.int .i64 bF) (.slice bd bn cb) (.int .i64 aR) (.int .i64 bC) (.int .i64 2) G) aR bC i wr) (fun i _ => aR - (intOf i).toNat)
  case atStart => exact ⟨0, Nat.zero_le _, rfl, by rw [Nat.zero_mul]; exact HP.out⟩
  case round =>
    rename World => wr1
    clear HP
    obtain ⟨I, hI, rfl, hP⟩ := hrel
    have HP := Lib.hid hP
    clear hP
    by_cases hI2 : I < aR
    · go_wp2_with fail
      go_loopw [16] (fun j wr => ProdIn (PS w w.heap.size nb (nb + 1) M (.int .i64 aR) (.int .i64 aC) (.int .i64 aF) (.slice ad an ca) (.int .i64 bR) (.int .i64 bC) (.int .i64 bF) (.slice bd bn cb) (.int .i64 aR) (.int .i64 bC) (.int .i64 2) G) bC (I * bC) j wr) (fun j _ => bC - (intOf j).toNat)
      case atStart => exact ⟨0, Nat.zero_le _, rfl, HP.out⟩
      case round =>
        rename World => wr2
        clear HP
        obtain ⟨J, hJ, rfl, hP⟩ := hrel
        have HP := Lib.hid hP
        clear hP
        by_cases hJ2 : J < bC
        · go_wp2_with fail
          obtain ⟨T1, T, et1, et2, hTM, hT⟩ := ix_any I J aR bC hI2 hJ2 (by assumption) (by assumption)
          have HIJ := Lib.hid hT
          have hTM2 : T < M := by rw [← HM.out]; exact hTM
          have HET := Lib.hid (show IntKind.i64.wrap ((I : Int) * (bC : Int)) = (T1 : Int) ∧ IntKind.i64.wrap ((T1 : Int) + (J : Int)) = (T : Int) from ⟨et1, et2⟩)
          have HP1 : Hid (PS w w.heap.size nb (nb + 1) M (.int .i64 aR) (.int .i64 aC) (.int .i64 aF) (.slice ad an ca) (.int .i64 bR) (.int .i64 bC) (.int .i64 bF) (.slice bd bn cb) (.int .i64 aR) (.int .i64 bC) (.int .i64 2) G T wr2) := Lib.hid (hT ▸ HP.out)
          clear hT hTM HP et1 et2
          go_loopw [17, 18] (fun s x wr => ProdDot (PS w w.heap.size nb (nb + 1) M (.int .i64 aR) (.int .i64 aC) (.int .i64 aF) (.slice ad an ca) (.int .i64 bR) (.int .i64 bC) (.int .i64 bF) (.slice bd bn cb) (.int .i64 aR) (.int .i64 bC) (.int .i64 2) G T) (fun x => widV aF g (ixI false aC I x)) (fun x => widV bF h (ixI true bC J x)) aC s x wr) (fun _ x _ => aC - (intOf x).toNat)
          case atStart => exact ⟨0, Nat.zero_le _, rfl, rfl, Int.le_refl _, by show (0 : Int) ≤ 4294967295; decide, HP1.out⟩
          case round =>
            rename World => wr3
            clear HP1
            obtain ⟨X, hX, rfl, rfl, s0, s1, hP⟩ := hrel
            have HP := Lib.hid hP
            clear hP
            obtain ⟨s, hs⟩ : ∃ s, dotV (fun x => widV aF g (ixI false aC I x)) (fun x => widV bF h (ixI true bC J x)) X = s := ⟨_, rfl⟩
            rw [hs] at s0 s1 ⊢
            have HS := Lib.hid hs
            clear hs
            by_cases hX2 : X < aC
            · obtain ⟨P1, P, e1, e2, hPn, hPe⟩ := ix_any I X aR aC hI2 (by have := hX2; omega) ha1 ha2
              obtain ⟨Q1, Q, f1, f2, hQn, hQe⟩ := ix_any X J bR bC (by have := HK.out; omega) hJ2 hb1 hb2
              rw [Ha.out] at hPn
              rw [Hb.out] at hQn
              have HD := Lib.hid (show dotV (fun x => widV aF g (ixI false aC I x)) (fun x => widV bF h (ixI true bC J x)) (X + 1) = fmaV (widV aF g P) (widV bF h Q) s by rw [← HS.out, ← hPe, ← hQe]; rfl)
              have B1 := wid_bd aF g P
              have B2 := wid_bd bF h Q
              clear hPe hQe
              obtain ⟨u, hu⟩ : ∃ u, widV aF g P = u := ⟨_, rfl⟩
              obtain ⟨v, hv⟩ : ∃ v, widV bF h Q = v := ⟨_, rfl⟩
              rw [hu, hv] at HD
              rw [hu] at B1
              rw [hv] at B2
              have HU := Lib.hid hu
              have HV := Lib.hid hv
              have HG := Lib.hid HP.out.g
              clear hu hv
              obtain ⟨p0, p1, p2, p3, p4, _, _, _, _⟩ := HP.out.t1
              obtain ⟨q0, q1, q2, q3, q4, _, _, _, _⟩ := HP.out.t2
              go_wp2_with fail
              go_quiet (fail)
              go_wp2_with fail
              clear e1 e2 f1 f2
              go_region_held3 (fun w' => w'.cell? ⟨w.heap.size, 0, none⟩ = some (.int .i64 aR) ∧ w'.cell? ⟨w.heap.size, 1, none⟩ = some (.int .i64 aC) ∧ w'.cell? ⟨w.heap.size, 2, none⟩ = some (.int .i64 aF) ∧ w'.cell? ⟨w.heap.size, 3, none⟩ = some (.slice ad an ca) ∧ w'.cell? ⟨w.heap.size + 1, 0, none⟩ = some (.int .i64 bR) ∧ w'.cell? ⟨w.heap.size + 1, 1, none⟩ = some (.int .i64 bC) ∧ w'.cell? ⟨w.heap.size + 1, 2, none⟩ = some (.int .i64 bF) ∧ w'.cell? ⟨w.heap.size + 1, 3, none⟩ = some (.slice bd bn cb)) (go_keep) (first
                | (go_at_call 44; ((with_reducible refine (twide_any aR aC aF ad an ca P g _ hn hPn (H1.out.grown gr)).mono ?_); rintro e W4 ⟨he, hW⟩; rw [HU.out] at he; subst he; replace HG := Lib.hid (show Grown w W4 from grown_trans gr hW); replace HP := Lib.hid (HP.out.grown hW); clear hW p0 p1 p2 p3 p4 q0 q1 q2 q3 q4; obtain ⟨p0, p1, p2, p3, p4, _, _, _, _⟩ := HP.out.t1; obtain ⟨q0, q1, q2, q3, q4, _, _, _, _⟩ := HP.out.t2))
                | (go_at_call 44; ((with_reducible refine (twide_any bR bC bF bd bn cb Q h _ hn' hQn (H2.out.grown gr)).mono ?_); rintro e W5 ⟨he, hW⟩; rw [HV.out] at he; subst he; replace HG := Lib.hid (show Grown w W5 from grown_trans gr hW); replace HP := Lib.hid (HP.out.grown hW); clear hW p0 p1 p2 p3 p4 q0 q1 q2 q3 q4; obtain ⟨p0, p1, p2, p3, p4, _, _, _, _⟩ := HP.out.t1; obtain ⟨q0, q1, q2, q3, q4, _, _, _, _⟩ := HP.out.t2))
                | (go_at_call 35; refine (nfma_any u v s _ B1.1 B1.2 B2.1 B2.2 s0 s1).mono ?_; rintro e W6 ⟨rfl, h0, h1, hW⟩; replace HG := Lib.hid (show Grown w W6 from grown_trans gr hW); replace HP := Lib.hid (HP.out.grown hW); clear hW p0 p1 p2 p3 p4 q0 q1 q2 q3 q4; obtain ⟨p0, p1, p2, p3, p4, _, _, _, _⟩ := HP.out.t1; obtain ⟨q0, q1, q2, q3, q4, _, _, _, _⟩ := HP.out.t2))
              go_wp2
              go_roundw
              case rel => exact ⟨X + 1, by omega, by go_num, by rw [HD.out], by rw [HD.out]; exact h0, by rw [HD.out]; exact h1, HP.out.grown gr⟩
              case measure => simp [intOf]; omega
            · have hX3 : aC = X := by omega
              subst hX3
              have HGT := Lib.hid (show G T = s by
                rw [HGG.out, ← HS.out, ← HIJ.out]
                simp only [(ix_back I J bC hJ2).1, (ix_back I J bC hJ2).2])
              obtain ⟨et1, et2⟩ := HET.out
              obtain ⟨p0, p1, p2, p3, p4, _, _, _, _⟩ := HP.out.t4
              have y := HP.out.f.cell T hTM2
              rw [if_neg (Nat.lt_irrefl T)] at y
              have z := HP.out.f.free T
              go_wp2
              go_roundw
              case rel => exact ⟨J + 1, by omega, by go_num, by
                have := HP.out.set hTM2
                rw [HGT.out] at this
                rw [show I * bC + (J + 1) = T + 1 by have := HIJ.out; omega]
                exact this⟩
              case measure => simp [intOf]; omega
        · have hJ3 : bC = J := by omega
          subst hJ3
          go_wp2
          go_roundw
          case rel => exact ⟨I + 1, by omega, by go_num, by rw [Nat.add_mul, Nat.one_mul]; exact HP.out⟩
          case measure => simp [intOf]; omega
    · have hI3 : aR = I := by omega
      subst hI3
      obtain ⟨p0, p1, p2, p3, p4, _, _, _, _⟩ := HP.out.t4
      obtain ⟨q0, q1, q2, q3, q4, q5, q6, q7, q8⟩ := HP.out.t3
      have HF := HP.out.f
      rw [HM.out] at HF
      have HF := Lib.hid HF
      have ho : w.heap.size + 1 + 1 < nb := HP.out.o
      have HG := Lib.hid HP.out.g
      have HS := HP.out.s
      go_wp2
      (try simp only [Exit.inBlock, Exit.then])
      refine bodyPost_ret (v := .tuple #[.agg #[.int .i64 (aR : Int), .int .i64 (bC : Int), .int .i64 2, .slice (some ⟨nb, 0, none⟩) M M], .int .i64 0]) ?_ rfl ⟨_, _, rfl, ?_, show M ≤ 9223372036854775807 by omega, fun x hx => by cases hx; show w.heap.size ≤ nb; omega, ?_⟩
      · rw [results_cell_tmp rfl]
        go_simp
      · have hne : nb ≠ w.heap.size + 1 + 1 := by omega
        exact ((((HF.out.other (a := ⟨w.heap.size + 1 + 1, 0, none⟩) hne _).other (a := ⟨w.heap.size + 1 + 1, 1, none⟩) hne _).other (a := ⟨w.heap.size + 1 + 1, 2, none⟩) hne _).other (a := ⟨w.heap.size + 1 + 1, 3, none⟩) hne _).reads fun t _ => by rw [HGG.out]; exact dotV_bd _ _ _
      · exact gr

set_option maxRecDepth 100000 in
set_option maxHeartbeats 4000000 in
theorem rprod_ft (aR aC bR bC : Nat) (aF bF : Int) (ad bd : Option Addr) (an bn ca cb : Nat) (g h : Nat → Int) (w : World) (ha1 : aR ≤ 4096) (ha2 : aC ≤ 4096) (hb1 : bR ≤ 4096) (hb2 : bC ≤ 4096) (han : aR * aC = an) (hbn : bR * bC = bn) (h1 : Reads ad an g w) (h2 : Reads bd bn h w)
    (hr : rightB aR aC aF an g = true) (hr2 : rightB bR bC bF bn h = true) (hk : aC = bC) :
    Calls Try.prog 30 #[.agg #[.int .i64 aR, .int .i64 aC, .int .i64 aF, .slice ad an ca], .agg #[.int .i64 bR, .int .i64 bC, .int .i64 bF, .slice bd bn cb], .bool false, .bool true] w
      (TenE ⟨(aR : Nat), (bR : Nat), 2, aR * bR, fun t => dotV (fun x => widV aF g (ixI false aC (t / bR) x)) (fun x => widV bF h (ixI false bC (t % bR) x)) aC⟩ 0 w) := by
  have H1 := Lib.hid h1
  have H2 := Lib.hid h2
  have K1 := Lib.hid (show Ending.returned (.bool (rightB aR aC aF an g)) = .returned (.bool true) by rw [hr])
  have K2 := Lib.hid (show Ending.returned (.bool (rightB bR bC bF bn h)) = .returned (.bool true) by rw [hr2])
  have hn := (wrap_mul aR aC an ha1 ha2 han).2
  have hn' := (wrap_mul bR bC bn hb1 hb2 hbn).2
  have hn : an ≤ 9223372036854775807 := by omega
  have hn' : bn ≤ 9223372036854775807 := by omega
  have Ha := Lib.hid han
  have Hb := Lib.hid hbn
  have HK := Lib.hid hk
  clear h1 h2 hr hr2 han hbn
  obtain ⟨M, hM⟩ : ∃ M : Nat, aR * bR = M := ⟨_, rfl⟩
  obtain ⟨hw1, hw2⟩ := wrap_mul _ _ M (by assumption) (by assumption) hM
  rw [hM]
  have HM := Lib.hid hM
  clear hM
  obtain ⟨G, hG⟩ : ∃ G : Nat → Int, G = fun t => dotV (fun x => widV aF g (ixI false aC (t / bR) x)) (fun x => widV bF h (ixI false bC (t % bR) x)) aC := ⟨_, rfl⟩
  rw [← hG]
  have HGG := Lib.hid hG
  clear hG
  have HT1 := Lib.hid ((ten_new w (.int .i64 (aR : Int)) (.int .i64 (aC : Int)) (.int .i64 aF) (.slice ad an ca) 24).grown (Grown.alloc (Grown.alloc (Grown.refl _) #[.int .i64 (bR : Int), .int .i64 (bC : Int), .int .i64 bF, .slice bd bn cb] 24) #[.int .i64 0, .int .i64 0, .int .i64 0, .slice none 0 0] 24))
  have HT2 := Lib.hid ((ten_new (w.alloc (.cells #[.int .i64 (aR : Int), .int .i64 (aC : Int), .int .i64 aF, .slice ad an ca] 24)) (.int .i64 (bR : Int)) (.int .i64 (bC : Int)) (.int .i64 bF) (.slice bd bn cb) 24).grown (Grown.alloc (Grown.refl _) #[.int .i64 0, .int .i64 0, .int .i64 0, .slice none 0 0] 24))
  have HT3 := Lib.hid (ten_new ((w.alloc (.cells #[.int .i64 (aR : Int), .int .i64 (aC : Int), .int .i64 aF, .slice ad an ca] 24)).alloc (.cells #[.int .i64 (bR : Int), .int .i64 (bC : Int), .int .i64 bF, .slice bd bn cb] 24)) (.int .i64 0) (.int .i64 0) (.int .i64 0) (.slice none 0 0) 24)
  have HG := Lib.hid (Grown.alloc (Grown.alloc (Grown.alloc (Grown.refl w) #[.int .i64 (aR : Int), .int .i64 (aC : Int), .int .i64 aF, .slice ad an ca] 24) #[.int .i64 (bR : Int), .int .i64 (bC : Int), .int .i64 bF, .slice bd bn cb] 24) #[.int .i64 0, .int .i64 0, .int .i64 0, .slice none 0 0] 24)
  have hne : ((aC : Int) == bC) = true := by rw [hk]; simp
  have hne2 : ((aC : Int) != bC) = false := by rw [bne, hne]; rfl
  clear hk
  go_enter Try.func30, Try.ntmps30
  go_wp2_with fail
  simp only [World.size_alloc] at HT2 HT3
  generalize ((w.alloc _).alloc _).alloc _ = W0 at HT1 HT2 HT3 HG ⊢
  refine (rright_any _ _ _ _ _ _ _ _ (by assumption) (H1.out.grown HG.out)).mono ?_
  rintro e W1 ⟨he, hW⟩
  rw [K1.out] at he
  subst he
  replace HT1 := Lib.hid (HT1.out.grown hW)
  replace HT2 := Lib.hid (HT2.out.grown hW)
  replace HT3 := Lib.hid (HT3.out.grown hW)
  replace HG := Lib.hid (grown_trans HG.out hW)
  clear hW
  obtain ⟨p0, p1, p2, p3, p4, _, _, _, _⟩ := HT1.out
  obtain ⟨q0, q1, q2, q3, q4, _, _, _, _⟩ := HT2.out
  obtain ⟨r0, r1, r2, r3, r4, r5, r6, r7, r8⟩ := HT3.out
  go_wp2_with fail
  refine (rright_any _ _ _ _ _ _ _ _ (by assumption) (H2.out.grown HG.out)).mono ?_
  rintro e W2 ⟨he, hW⟩
  rw [K2.out] at he
  subst he
  replace HT1 := Lib.hid (HT1.out.grown hW)
  replace HT2 := Lib.hid (HT2.out.grown hW)
  replace HT3 := Lib.hid (HT3.out.grown hW)
  replace HG := Lib.hid (grown_trans HG.out hW)
  clear hW
  clear p0 p1 p2 p3 p4 q0 q1 q2 q3 q4 r0 r1 r2 r3 r4 r5 r6 r7 r8
  obtain ⟨p0, p1, p2, p3, p4, _, _, _, _⟩ := HT1.out
  obtain ⟨q0, q1, q2, q3, q4, _, _, _, _⟩ := HT2.out
  obtain ⟨r0, r1, r2, r3, r4, r5, r6, r7, r8⟩ := HT3.out
  go_wp2
  go_quiet (fail)
  go_wp2
  go_quiet (fail)
  have hmk := run_make_row' (P := Try.prog) 22 37 (.int .u32 0) 4 Try.underlying22 (by kernel_rfl) rfl .i64 .i64 M (by omega) (by omega)
  go_wp2_with fail
  clear hmk hne hne2 p0 p1 p2 p3 p4 q0 q1 q2 q3 q4 r1 r2 r3 r4 r5 r6 r7 r8
  have HP : ∀ d, PS w w.heap.size W2.heap.size (W2.heap.size + 1) M (.int .i64 aR) (.int .i64 aC) (.int .i64 aF) (.slice ad an ca) (.int .i64 bR) (.int .i64 bC) (.int .i64 bF) (.slice bd bn cb) (.int .i64 aR) (.int .i64 bR) (.int .i64 2) G 0 (((W2.drewN d).alloc (.cells (madeCells #[.int .u32 0] M) 37)).alloc (.cells #[.int .i64 (aR : Int), .int .i64 (bR : Int), .int .i64 2, .slice (some ⟨W2.heap.size, 0, none⟩) M M] 24)) := fun d =>
    ⟨gr, HT1.out.grown gr, HT2.out.grown gr, HT3.out.grown gr, by simpa only [World.size_alloc, World.heap_drewN] using ten_new ((W2.drewN d).alloc (.cells (madeCells #[.int .u32 0] M) 37)) (.int .i64 (aR : Int)) (.int .i64 (bR : Int)) (.int .i64 2) (.slice (some ⟨W2.heap.size, 0, none⟩) M M) 24, (Filled.new (W2.drewN d) M G 37).grown (Grown.alloc (Grown.refl _) _ _), r0, Nat.lt_succ_of_lt r0, by omega, Nat.le_refl _⟩
  generalize hW3 : ((W2.drewN _).alloc _).alloc _ = W3
  replace HP := hW3 ▸ HP _
  clear hW3
  replace HP := Lib.hid HP
  generalize W2.heap.size = nb at HP ⊢
  clear HT1 HT2 HT3 HG r0
  go_loopw [15] (fun i wr => ProdOut (PS w w.heap.size nb (nb + 1) M (.int .i64 aR) (.int .i64 aC) (.int .i64 aF) (.slice ad an ca) (.int .i64 bR) (.int .i64 bC) (.int .i64 bF) (.slice bd bn cb) (.int .i64 aR) (.int .i64 bR) (.int .i64 2) G) aR bR i wr) (fun i _ => aR - (intOf i).toNat)
  case atStart => exact ⟨0, Nat.zero_le _, rfl, by rw [Nat.zero_mul]; exact HP.out⟩
  case round =>
    rename World => wr1
    clear HP
    obtain ⟨I, hI, rfl, hP⟩ := hrel
    have HP := Lib.hid hP
    clear hP
    by_cases hI2 : I < aR
    · go_wp2_with fail
      go_loopw [16] (fun j wr => ProdIn (PS w w.heap.size nb (nb + 1) M (.int .i64 aR) (.int .i64 aC) (.int .i64 aF) (.slice ad an ca) (.int .i64 bR) (.int .i64 bC) (.int .i64 bF) (.slice bd bn cb) (.int .i64 aR) (.int .i64 bR) (.int .i64 2) G) bR (I * bR) j wr) (fun j _ => bR - (intOf j).toNat)
      case atStart => exact ⟨0, Nat.zero_le _, rfl, HP.out⟩
      case round =>
        rename World => wr2
        clear HP
        obtain ⟨J, hJ, rfl, hP⟩ := hrel
        have HP := Lib.hid hP
        clear hP
        by_cases hJ2 : J < bR
        · go_wp2_with fail
          obtain ⟨T1, T, et1, et2, hTM, hT⟩ := ix_any I J aR bR hI2 hJ2 (by assumption) (by assumption)
          have HIJ := Lib.hid hT
          have hTM2 : T < M := by rw [← HM.out]; exact hTM
          have HET := Lib.hid (show IntKind.i64.wrap ((I : Int) * (bR : Int)) = (T1 : Int) ∧ IntKind.i64.wrap ((T1 : Int) + (J : Int)) = (T : Int) from ⟨et1, et2⟩)
          have HP1 : Hid (PS w w.heap.size nb (nb + 1) M (.int .i64 aR) (.int .i64 aC) (.int .i64 aF) (.slice ad an ca) (.int .i64 bR) (.int .i64 bC) (.int .i64 bF) (.slice bd bn cb) (.int .i64 aR) (.int .i64 bR) (.int .i64 2) G T wr2) := Lib.hid (hT ▸ HP.out)
          clear hT hTM HP et1 et2
          go_loopw [17, 18] (fun s x wr => ProdDot (PS w w.heap.size nb (nb + 1) M (.int .i64 aR) (.int .i64 aC) (.int .i64 aF) (.slice ad an ca) (.int .i64 bR) (.int .i64 bC) (.int .i64 bF) (.slice bd bn cb) (.int .i64 aR) (.int .i64 bR) (.int .i64 2) G T) (fun x => widV aF g (ixI false aC I x)) (fun x => widV bF h (ixI false bC J x)) aC s x wr) (fun _ x _ => aC - (intOf x).toNat)
          case atStart => exact ⟨0, Nat.zero_le _, rfl, rfl, Int.le_refl _, by show (0 : Int) ≤ 4294967295; decide, HP1.out⟩
          case round =>
            rename World => wr3
            clear HP1
            obtain ⟨X, hX, rfl, rfl, s0, s1, hP⟩ := hrel
            have HP := Lib.hid hP
            clear hP
            obtain ⟨s, hs⟩ : ∃ s, dotV (fun x => widV aF g (ixI false aC I x)) (fun x => widV bF h (ixI false bC J x)) X = s := ⟨_, rfl⟩
            rw [hs] at s0 s1 ⊢
            have HS := Lib.hid hs
            clear hs
            by_cases hX2 : X < aC
            · obtain ⟨P1, P, e1, e2, hPn, hPe⟩ := ix_any I X aR aC hI2 (by have := hX2; omega) ha1 ha2
              obtain ⟨Q1, Q, f1, f2, hQn, hQe⟩ := ix_any J X bR bC hJ2 (by have := HK.out; omega) hb1 hb2
              rw [Ha.out] at hPn
              rw [Hb.out] at hQn
              have HD := Lib.hid (show dotV (fun x => widV aF g (ixI false aC I x)) (fun x => widV bF h (ixI false bC J x)) (X + 1) = fmaV (widV aF g P) (widV bF h Q) s by rw [← HS.out, ← hPe, ← hQe]; rfl)
              have B1 := wid_bd aF g P
              have B2 := wid_bd bF h Q
              clear hPe hQe
              obtain ⟨u, hu⟩ : ∃ u, widV aF g P = u := ⟨_, rfl⟩
              obtain ⟨v, hv⟩ : ∃ v, widV bF h Q = v := ⟨_, rfl⟩
              rw [hu, hv] at HD
              rw [hu] at B1
              rw [hv] at B2
              have HU := Lib.hid hu
              have HV := Lib.hid hv
              have HG := Lib.hid HP.out.g
              clear hu hv
              obtain ⟨p0, p1, p2, p3, p4, _, _, _, _⟩ := HP.out.t1
              obtain ⟨q0, q1, q2, q3, q4, _, _, _, _⟩ := HP.out.t2
              go_wp2_with fail
              go_quiet (fail)
              go_wp2_with fail
              clear e1 e2 f1 f2
              go_region_held3 (fun w' => w'.cell? ⟨w.heap.size, 0, none⟩ = some (.int .i64 aR) ∧ w'.cell? ⟨w.heap.size, 1, none⟩ = some (.int .i64 aC) ∧ w'.cell? ⟨w.heap.size, 2, none⟩ = some (.int .i64 aF) ∧ w'.cell? ⟨w.heap.size, 3, none⟩ = some (.slice ad an ca) ∧ w'.cell? ⟨w.heap.size + 1, 0, none⟩ = some (.int .i64 bR) ∧ w'.cell? ⟨w.heap.size + 1, 1, none⟩ = some (.int .i64 bC) ∧ w'.cell? ⟨w.heap.size + 1, 2, none⟩ = some (.int .i64 bF) ∧ w'.cell? ⟨w.heap.size + 1, 3, none⟩ = some (.slice bd bn cb)) (go_keep) (first
                | (go_at_call 44; ((with_reducible refine (twide_any aR aC aF ad an ca P g _ hn hPn (H1.out.grown gr)).mono ?_); rintro e W4 ⟨he, hW⟩; rw [HU.out] at he; subst he; replace HG := Lib.hid (show Grown w W4 from grown_trans gr hW); replace HP := Lib.hid (HP.out.grown hW); clear hW p0 p1 p2 p3 p4 q0 q1 q2 q3 q4; obtain ⟨p0, p1, p2, p3, p4, _, _, _, _⟩ := HP.out.t1; obtain ⟨q0, q1, q2, q3, q4, _, _, _, _⟩ := HP.out.t2))
                | (go_at_call 44; ((with_reducible refine (twide_any bR bC bF bd bn cb Q h _ hn' hQn (H2.out.grown gr)).mono ?_); rintro e W5 ⟨he, hW⟩; rw [HV.out] at he; subst he; replace HG := Lib.hid (show Grown w W5 from grown_trans gr hW); replace HP := Lib.hid (HP.out.grown hW); clear hW p0 p1 p2 p3 p4 q0 q1 q2 q3 q4; obtain ⟨p0, p1, p2, p3, p4, _, _, _, _⟩ := HP.out.t1; obtain ⟨q0, q1, q2, q3, q4, _, _, _, _⟩ := HP.out.t2))
                | (go_at_call 35; refine (nfma_any u v s _ B1.1 B1.2 B2.1 B2.2 s0 s1).mono ?_; rintro e W6 ⟨rfl, h0, h1, hW⟩; replace HG := Lib.hid (show Grown w W6 from grown_trans gr hW); replace HP := Lib.hid (HP.out.grown hW); clear hW p0 p1 p2 p3 p4 q0 q1 q2 q3 q4; obtain ⟨p0, p1, p2, p3, p4, _, _, _, _⟩ := HP.out.t1; obtain ⟨q0, q1, q2, q3, q4, _, _, _, _⟩ := HP.out.t2))
              go_wp2
              go_roundw
              case rel => exact ⟨X + 1, by omega, by go_num, by rw [HD.out], by rw [HD.out]; exact h0, by rw [HD.out]; exact h1, HP.out.grown gr⟩
              case measure => simp [intOf]; omega
            · have hX3 : aC = X := by omega
              subst hX3
              have HGT := Lib.hid (show G T = s by
                rw [HGG.out, ← HS.out, ← HIJ.out]
                simp only [(ix_back I J bR hJ2).1, (ix_back I J bR hJ2).2])
              obtain ⟨et1, et2⟩ := HET.out
              obtain ⟨p0, p1, p2, p3, p4, _, _, _, _⟩ := HP.out.t4
              have y := HP.out.f.cell T hTM2
              rw [if_neg (Nat.lt_irrefl T)] at y
              have z := HP.out.f.free T
              go_wp2
              go_roundw
              case rel => exact ⟨J + 1, by omega, by go_num, by
                have := HP.out.set hTM2
                rw [HGT.out] at this
                rw [show I * bR + (J + 1) = T + 1 by have := HIJ.out; omega]
                exact this⟩
              case measure => simp [intOf]; omega
        · have hJ3 : bR = J := by omega
          subst hJ3
          go_wp2
          go_roundw
          case rel => exact ⟨I + 1, by omega, by go_num, by rw [Nat.add_mul, Nat.one_mul]; exact HP.out⟩
          case measure => simp [intOf]; omega
    · have hI3 : aR = I := by omega
      subst hI3
      obtain ⟨p0, p1, p2, p3, p4, _, _, _, _⟩ := HP.out.t4
      obtain ⟨q0, q1, q2, q3, q4, q5, q6, q7, q8⟩ := HP.out.t3
      have HF := HP.out.f
      rw [HM.out] at HF
      have HF := Lib.hid HF
      have ho : w.heap.size + 1 + 1 < nb := HP.out.o
      have HG := Lib.hid HP.out.g
      have HS := HP.out.s
      go_wp2
      (try simp only [Exit.inBlock, Exit.then])
      refine bodyPost_ret (v := .tuple #[.agg #[.int .i64 (aR : Int), .int .i64 (bR : Int), .int .i64 2, .slice (some ⟨nb, 0, none⟩) M M], .int .i64 0]) ?_ rfl ⟨_, _, rfl, ?_, show M ≤ 9223372036854775807 by omega, fun x hx => by cases hx; show w.heap.size ≤ nb; omega, ?_⟩
      · rw [results_cell_tmp rfl]
        go_simp
      · have hne : nb ≠ w.heap.size + 1 + 1 := by omega
        exact ((((HF.out.other (a := ⟨w.heap.size + 1 + 1, 0, none⟩) hne _).other (a := ⟨w.heap.size + 1 + 1, 1, none⟩) hne _).other (a := ⟨w.heap.size + 1 + 1, 2, none⟩) hne _).other (a := ⟨w.heap.size + 1 + 1, 3, none⟩) hne _).reads fun t _ => by rw [HGG.out]; exact dotV_bd _ _ _
      · exact gr

set_option maxRecDepth 100000 in
set_option maxHeartbeats 4000000 in
theorem rprod_tf (aR aC bR bC : Nat) (aF bF : Int) (ad bd : Option Addr) (an bn ca cb : Nat) (g h : Nat → Int) (w : World) (ha1 : aR ≤ 4096) (ha2 : aC ≤ 4096) (hb1 : bR ≤ 4096) (hb2 : bC ≤ 4096) (han : aR * aC = an) (hbn : bR * bC = bn) (h1 : Reads ad an g w) (h2 : Reads bd bn h w)
    (hr : rightB aR aC aF an g = true) (hr2 : rightB bR bC bF bn h = true) (hk : aR = bR) :
    Calls Try.prog 30 #[.agg #[.int .i64 aR, .int .i64 aC, .int .i64 aF, .slice ad an ca], .agg #[.int .i64 bR, .int .i64 bC, .int .i64 bF, .slice bd bn cb], .bool true, .bool false] w
      (TenE ⟨(aC : Nat), (bC : Nat), 2, aC * bC, fun t => dotV (fun x => widV aF g (ixI true aC (t / bC) x)) (fun x => widV bF h (ixI true bC (t % bC) x)) aR⟩ 0 w) := by
  have H1 := Lib.hid h1
  have H2 := Lib.hid h2
  have K1 := Lib.hid (show Ending.returned (.bool (rightB aR aC aF an g)) = .returned (.bool true) by rw [hr])
  have K2 := Lib.hid (show Ending.returned (.bool (rightB bR bC bF bn h)) = .returned (.bool true) by rw [hr2])
  have hn := (wrap_mul aR aC an ha1 ha2 han).2
  have hn' := (wrap_mul bR bC bn hb1 hb2 hbn).2
  have hn : an ≤ 9223372036854775807 := by omega
  have hn' : bn ≤ 9223372036854775807 := by omega
  have Ha := Lib.hid han
  have Hb := Lib.hid hbn
  have HK := Lib.hid hk
  clear h1 h2 hr hr2 han hbn
  obtain ⟨M, hM⟩ : ∃ M : Nat, aC * bC = M := ⟨_, rfl⟩
  obtain ⟨hw1, hw2⟩ := wrap_mul _ _ M (by assumption) (by assumption) hM
  rw [hM]
  have HM := Lib.hid hM
  clear hM
  obtain ⟨G, hG⟩ : ∃ G : Nat → Int, G = fun t => dotV (fun x => widV aF g (ixI true aC (t / bC) x)) (fun x => widV bF h (ixI true bC (t % bC) x)) aR := ⟨_, rfl⟩
  rw [← hG]
  have HGG := Lib.hid hG
  clear hG
  have HT1 := Lib.hid ((ten_new w (.int .i64 (aR : Int)) (.int .i64 (aC : Int)) (.int .i64 aF) (.slice ad an ca) 24).grown (Grown.alloc (Grown.alloc (Grown.refl _) #[.int .i64 (bR : Int), .int .i64 (bC : Int), .int .i64 bF, .slice bd bn cb] 24) #[.int .i64 0, .int .i64 0, .int .i64 0, .slice none 0 0] 24))
  have HT2 := Lib.hid ((ten_new (w.alloc (.cells #[.int .i64 (aR : Int), .int .i64 (aC : Int), .int .i64 aF, .slice ad an ca] 24)) (.int .i64 (bR : Int)) (.int .i64 (bC : Int)) (.int .i64 bF) (.slice bd bn cb) 24).grown (Grown.alloc (Grown.refl _) #[.int .i64 0, .int .i64 0, .int .i64 0, .slice none 0 0] 24))
  have HT3 := Lib.hid (ten_new ((w.alloc (.cells #[.int .i64 (aR : Int), .int .i64 (aC : Int), .int .i64 aF, .slice ad an ca] 24)).alloc (.cells #[.int .i64 (bR : Int), .int .i64 (bC : Int), .int .i64 bF, .slice bd bn cb] 24)) (.int .i64 0) (.int .i64 0) (.int .i64 0) (.slice none 0 0) 24)
  have HG := Lib.hid (Grown.alloc (Grown.alloc (Grown.alloc (Grown.refl w) #[.int .i64 (aR : Int), .int .i64 (aC : Int), .int .i64 aF, .slice ad an ca] 24) #[.int .i64 (bR : Int), .int .i64 (bC : Int), .int .i64 bF, .slice bd bn cb] 24) #[.int .i64 0, .int .i64 0, .int .i64 0, .slice none 0 0] 24)
  have hne : ((aR : Int) == bR) = true := by rw [hk]; simp
  have hne2 : ((aR : Int) != bR) = false := by rw [bne, hne]; rfl
  clear hk
  go_enter Try.func30, Try.ntmps30
  go_wp2_with fail
  simp only [World.size_alloc] at HT2 HT3
  generalize ((w.alloc _).alloc _).alloc _ = W0 at HT1 HT2 HT3 HG ⊢
  refine (rright_any _ _ _ _ _ _ _ _ (by assumption) (H1.out.grown HG.out)).mono ?_
  rintro e W1 ⟨he, hW⟩
  rw [K1.out] at he
  subst he
  replace HT1 := Lib.hid (HT1.out.grown hW)
  replace HT2 := Lib.hid (HT2.out.grown hW)
  replace HT3 := Lib.hid (HT3.out.grown hW)
  replace HG := Lib.hid (grown_trans HG.out hW)
  clear hW
  obtain ⟨p0, p1, p2, p3, p4, _, _, _, _⟩ := HT1.out
  obtain ⟨q0, q1, q2, q3, q4, _, _, _, _⟩ := HT2.out
  obtain ⟨r0, r1, r2, r3, r4, r5, r6, r7, r8⟩ := HT3.out
  go_wp2_with fail
  refine (rright_any _ _ _ _ _ _ _ _ (by assumption) (H2.out.grown HG.out)).mono ?_
  rintro e W2 ⟨he, hW⟩
  rw [K2.out] at he
  subst he
  replace HT1 := Lib.hid (HT1.out.grown hW)
  replace HT2 := Lib.hid (HT2.out.grown hW)
  replace HT3 := Lib.hid (HT3.out.grown hW)
  replace HG := Lib.hid (grown_trans HG.out hW)
  clear hW
  clear p0 p1 p2 p3 p4 q0 q1 q2 q3 q4 r0 r1 r2 r3 r4 r5 r6 r7 r8
  obtain ⟨p0, p1, p2, p3, p4, _, _, _, _⟩ := HT1.out
  obtain ⟨q0, q1, q2, q3, q4, _, _, _, _⟩ := HT2.out
  obtain ⟨r0, r1, r2, r3, r4, r5, r6, r7, r8⟩ := HT3.out
  go_wp2
  go_quiet (fail)
  go_wp2
  go_quiet (fail)
  have hmk := run_make_row' (P := Try.prog) 22 37 (.int .u32 0) 4 Try.underlying22 (by kernel_rfl) rfl .i64 .i64 M (by omega) (by omega)
  go_wp2_with fail
  clear hmk hne hne2 p0 p1 p2 p3 p4 q0 q1 q2 q3 q4 r1 r2 r3 r4 r5 r6 r7 r8
  have HP : ∀ d, PS w w.heap.size W2.heap.size (W2.heap.size + 1) M (.int .i64 aR) (.int .i64 aC) (.int .i64 aF) (.slice ad an ca) (.int .i64 bR) (.int .i64 bC) (.int .i64 bF) (.slice bd bn cb) (.int .i64 aC) (.int .i64 bC) (.int .i64 2) G 0 (((W2.drewN d).alloc (.cells (madeCells #[.int .u32 0] M) 37)).alloc (.cells #[.int .i64 (aC : Int), .int .i64 (bC : Int), .int .i64 2, .slice (some ⟨W2.heap.size, 0, none⟩) M M] 24)) := fun d =>
    ⟨gr, HT1.out.grown gr, HT2.out.grown gr, HT3.out.grown gr, by simpa only [World.size_alloc, World.heap_drewN] using ten_new ((W2.drewN d).alloc (.cells (madeCells #[.int .u32 0] M) 37)) (.int .i64 (aC : Int)) (.int .i64 (bC : Int)) (.int .i64 2) (.slice (some ⟨W2.heap.size, 0, none⟩) M M) 24, (Filled.new (W2.drewN d) M G 37).grown (Grown.alloc (Grown.refl _) _ _), r0, Nat.lt_succ_of_lt r0, by omega, Nat.le_refl _⟩
  generalize hW3 : ((W2.drewN _).alloc _).alloc _ = W3
  replace HP := hW3 ▸ HP _
  clear hW3
  replace HP := Lib.hid HP
  generalize W2.heap.size = nb at HP ⊢
  clear HT1 HT2 HT3 HG r0
  go_loopw [15] (fun i wr => ProdOut (PS w w.heap.size nb (nb + 1) M (.int .i64 aR) (.int .i64 aC) (.int .i64 aF) (.slice ad an ca) (.int .i64 bR) (.int .i64 bC) (.int .i64 bF) (.slice bd bn cb) (.int .i64 aC) (.int .i64 bC) (.int .i64 2) G) aC bC i wr) (fun i _ => aC - (intOf i).toNat)
  case atStart => exact ⟨0, Nat.zero_le _, rfl, by rw [Nat.zero_mul]; exact HP.out⟩
  case round =>
    rename World => wr1
    clear HP
    obtain ⟨I, hI, rfl, hP⟩ := hrel
    have HP := Lib.hid hP
    clear hP
    by_cases hI2 : I < aC
    · go_wp2_with fail
      go_loopw [16] (fun j wr => ProdIn (PS w w.heap.size nb (nb + 1) M (.int .i64 aR) (.int .i64 aC) (.int .i64 aF) (.slice ad an ca) (.int .i64 bR) (.int .i64 bC) (.int .i64 bF) (.slice bd bn cb) (.int .i64 aC) (.int .i64 bC) (.int .i64 2) G) bC (I * bC) j wr) (fun j _ => bC - (intOf j).toNat)
      case atStart => exact ⟨0, Nat.zero_le _, rfl, HP.out⟩
      case round =>
        rename World => wr2
        clear HP
        obtain ⟨J, hJ, rfl, hP⟩ := hrel
        have HP := Lib.hid hP
        clear hP
        by_cases hJ2 : J < bC
        · go_wp2_with fail
          obtain ⟨T1, T, et1, et2, hTM, hT⟩ := ix_any I J aC bC hI2 hJ2 (by assumption) (by assumption)
          have HIJ := Lib.hid hT
          have hTM2 : T < M := by rw [← HM.out]; exact hTM
          have HET := Lib.hid (show IntKind.i64.wrap ((I : Int) * (bC : Int)) = (T1 : Int) ∧ IntKind.i64.wrap ((T1 : Int) + (J : Int)) = (T : Int) from ⟨et1, et2⟩)
          have HP1 : Hid (PS w w.heap.size nb (nb + 1) M (.int .i64 aR) (.int .i64 aC) (.int .i64 aF) (.slice ad an ca) (.int .i64 bR) (.int .i64 bC) (.int .i64 bF) (.slice bd bn cb) (.int .i64 aC) (.int .i64 bC) (.int .i64 2) G T wr2) := Lib.hid (hT ▸ HP.out)
          clear hT hTM HP et1 et2
          go_loopw [17, 18] (fun s x wr => ProdDot (PS w w.heap.size nb (nb + 1) M (.int .i64 aR) (.int .i64 aC) (.int .i64 aF) (.slice ad an ca) (.int .i64 bR) (.int .i64 bC) (.int .i64 bF) (.slice bd bn cb) (.int .i64 aC) (.int .i64 bC) (.int .i64 2) G T) (fun x => widV aF g (ixI true aC I x)) (fun x => widV bF h (ixI true bC J x)) aR s x wr) (fun _ x _ => aR - (intOf x).toNat)
          case atStart => exact ⟨0, Nat.zero_le _, rfl, rfl, Int.le_refl _, by show (0 : Int) ≤ 4294967295; decide, HP1.out⟩
          case round =>
            rename World => wr3
            clear HP1
            obtain ⟨X, hX, rfl, rfl, s0, s1, hP⟩ := hrel
            have HP := Lib.hid hP
            clear hP
            obtain ⟨s, hs⟩ : ∃ s, dotV (fun x => widV aF g (ixI true aC I x)) (fun x => widV bF h (ixI true bC J x)) X = s := ⟨_, rfl⟩
            rw [hs] at s0 s1 ⊢
            have HS := Lib.hid hs
            clear hs
            by_cases hX2 : X < aR
            · obtain ⟨P1, P, e1, e2, hPn, hPe⟩ := ix_any X I aR aC (by have := hX2; omega) hI2 ha1 ha2
              obtain ⟨Q1, Q, f1, f2, hQn, hQe⟩ := ix_any X J bR bC (by have := HK.out; omega) hJ2 hb1 hb2
              rw [Ha.out] at hPn
              rw [Hb.out] at hQn
              have HD := Lib.hid (show dotV (fun x => widV aF g (ixI true aC I x)) (fun x => widV bF h (ixI true bC J x)) (X + 1) = fmaV (widV aF g P) (widV bF h Q) s by rw [← HS.out, ← hPe, ← hQe]; rfl)
              have B1 := wid_bd aF g P
              have B2 := wid_bd bF h Q
              clear hPe hQe
              obtain ⟨u, hu⟩ : ∃ u, widV aF g P = u := ⟨_, rfl⟩
              obtain ⟨v, hv⟩ : ∃ v, widV bF h Q = v := ⟨_, rfl⟩
              rw [hu, hv] at HD
              rw [hu] at B1
              rw [hv] at B2
              have HU := Lib.hid hu
              have HV := Lib.hid hv
              have HG := Lib.hid HP.out.g
              clear hu hv
              obtain ⟨p0, p1, p2, p3, p4, _, _, _, _⟩ := HP.out.t1
              obtain ⟨q0, q1, q2, q3, q4, _, _, _, _⟩ := HP.out.t2
              go_wp2_with fail
              go_quiet (fail)
              go_wp2_with fail
              clear e1 e2 f1 f2
              go_region_held3 (fun w' => w'.cell? ⟨w.heap.size, 0, none⟩ = some (.int .i64 aR) ∧ w'.cell? ⟨w.heap.size, 1, none⟩ = some (.int .i64 aC) ∧ w'.cell? ⟨w.heap.size, 2, none⟩ = some (.int .i64 aF) ∧ w'.cell? ⟨w.heap.size, 3, none⟩ = some (.slice ad an ca) ∧ w'.cell? ⟨w.heap.size + 1, 0, none⟩ = some (.int .i64 bR) ∧ w'.cell? ⟨w.heap.size + 1, 1, none⟩ = some (.int .i64 bC) ∧ w'.cell? ⟨w.heap.size + 1, 2, none⟩ = some (.int .i64 bF) ∧ w'.cell? ⟨w.heap.size + 1, 3, none⟩ = some (.slice bd bn cb)) (go_keep) (first
                | (go_at_call 44; ((with_reducible refine (twide_any aR aC aF ad an ca P g _ hn hPn (H1.out.grown gr)).mono ?_); rintro e W4 ⟨he, hW⟩; rw [HU.out] at he; subst he; replace HG := Lib.hid (show Grown w W4 from grown_trans gr hW); replace HP := Lib.hid (HP.out.grown hW); clear hW p0 p1 p2 p3 p4 q0 q1 q2 q3 q4; obtain ⟨p0, p1, p2, p3, p4, _, _, _, _⟩ := HP.out.t1; obtain ⟨q0, q1, q2, q3, q4, _, _, _, _⟩ := HP.out.t2))
                | (go_at_call 44; ((with_reducible refine (twide_any bR bC bF bd bn cb Q h _ hn' hQn (H2.out.grown gr)).mono ?_); rintro e W5 ⟨he, hW⟩; rw [HV.out] at he; subst he; replace HG := Lib.hid (show Grown w W5 from grown_trans gr hW); replace HP := Lib.hid (HP.out.grown hW); clear hW p0 p1 p2 p3 p4 q0 q1 q2 q3 q4; obtain ⟨p0, p1, p2, p3, p4, _, _, _, _⟩ := HP.out.t1; obtain ⟨q0, q1, q2, q3, q4, _, _, _, _⟩ := HP.out.t2))
                | (go_at_call 35; refine (nfma_any u v s _ B1.1 B1.2 B2.1 B2.2 s0 s1).mono ?_; rintro e W6 ⟨rfl, h0, h1, hW⟩; replace HG := Lib.hid (show Grown w W6 from grown_trans gr hW); replace HP := Lib.hid (HP.out.grown hW); clear hW p0 p1 p2 p3 p4 q0 q1 q2 q3 q4; obtain ⟨p0, p1, p2, p3, p4, _, _, _, _⟩ := HP.out.t1; obtain ⟨q0, q1, q2, q3, q4, _, _, _, _⟩ := HP.out.t2))
              go_wp2
              go_roundw
              case rel => exact ⟨X + 1, by omega, by go_num, by rw [HD.out], by rw [HD.out]; exact h0, by rw [HD.out]; exact h1, HP.out.grown gr⟩
              case measure => simp [intOf]; omega
            · have hX3 : aR = X := by omega
              subst hX3
              have HGT := Lib.hid (show G T = s by
                rw [HGG.out, ← HS.out, ← HIJ.out]
                simp only [(ix_back I J bC hJ2).1, (ix_back I J bC hJ2).2])
              obtain ⟨et1, et2⟩ := HET.out
              obtain ⟨p0, p1, p2, p3, p4, _, _, _, _⟩ := HP.out.t4
              have y := HP.out.f.cell T hTM2
              rw [if_neg (Nat.lt_irrefl T)] at y
              have z := HP.out.f.free T
              go_wp2
              go_roundw
              case rel => exact ⟨J + 1, by omega, by go_num, by
                have := HP.out.set hTM2
                rw [HGT.out] at this
                rw [show I * bC + (J + 1) = T + 1 by have := HIJ.out; omega]
                exact this⟩
              case measure => simp [intOf]; omega
        · have hJ3 : bC = J := by omega
          subst hJ3
          go_wp2
          go_roundw
          case rel => exact ⟨I + 1, by omega, by go_num, by rw [Nat.add_mul, Nat.one_mul]; exact HP.out⟩
          case measure => simp [intOf]; omega
    · have hI3 : aC = I := by omega
      subst hI3
      obtain ⟨p0, p1, p2, p3, p4, _, _, _, _⟩ := HP.out.t4
      obtain ⟨q0, q1, q2, q3, q4, q5, q6, q7, q8⟩ := HP.out.t3
      have HF := HP.out.f
      rw [HM.out] at HF
      have HF := Lib.hid HF
      have ho : w.heap.size + 1 + 1 < nb := HP.out.o
      have HG := Lib.hid HP.out.g
      have HS := HP.out.s
      go_wp2
      (try simp only [Exit.inBlock, Exit.then])
      refine bodyPost_ret (v := .tuple #[.agg #[.int .i64 (aC : Int), .int .i64 (bC : Int), .int .i64 2, .slice (some ⟨nb, 0, none⟩) M M], .int .i64 0]) ?_ rfl ⟨_, _, rfl, ?_, show M ≤ 9223372036854775807 by omega, fun x hx => by cases hx; show w.heap.size ≤ nb; omega, ?_⟩
      · rw [results_cell_tmp rfl]
        go_simp
      · have hne : nb ≠ w.heap.size + 1 + 1 := by omega
        exact ((((HF.out.other (a := ⟨w.heap.size + 1 + 1, 0, none⟩) hne _).other (a := ⟨w.heap.size + 1 + 1, 1, none⟩) hne _).other (a := ⟨w.heap.size + 1 + 1, 2, none⟩) hne _).other (a := ⟨w.heap.size + 1 + 1, 3, none⟩) hne _).reads fun t _ => by rw [HGG.out]; exact dotV_bd _ _ _
      · exact gr

theorem prod_no (a b : PT) (ta tb : Bool) (h : prodOk a b ta tb = false) : prodT a b ta tb = PT.bad ∧ prodX a b ta tb = 21 := by
  unfold prodT prodX; rw [h]; exact ⟨rfl, rfl⟩

theorem prod_yes (a b : PT) (ta tb : Bool) (h : prodOk a b ta tb = true) (m n k : Nat) (hm : prodM a ta = m) (hn : prodK b tb = n) (hk : prodK a ta = k) :
    prodT a b ta tb = ⟨m, n, 2, m * n, fun t => dotV (fun x => widV a.F a.g (ixI ta a.C.toNat (t / n) x)) (fun x => widV b.F b.g (ixI (!tb) b.C.toNat (t % n) x)) k⟩ ∧ prodX a b ta tb = 0 := by
  unfold prodT prodX; rw [h, hm, hn, hk]; exact ⟨rfl, rfl⟩

set_option maxHeartbeats 1000000 in
theorem rprod_any (aR aC aF bR bC bF : Int) (ad bd : Option Addr) (an bn ca cb : Nat) (g h : Nat → Int) (ta tb : Bool) (w : World) (hn : an ≤ 9223372036854775807) (hn' : bn ≤ 9223372036854775807) (h1 : Reads ad an g w) (h2 : Reads bd bn h w) (hab : (ta && tb) = false) :
    Calls Try.prog 30 #[.agg #[.int .i64 aR, .int .i64 aC, .int .i64 aF, .slice ad an ca], .agg #[.int .i64 bR, .int .i64 bC, .int .i64 bF, .slice bd bn cb], .bool ta, .bool tb] w (TenE (prodT ⟨aR, aC, aF, an, g⟩ ⟨bR, bC, bF, bn, h⟩ ta tb) (prodX ⟨aR, aC, aF, an, g⟩ ⟨bR, bC, bF, bn, h⟩ ta tb) w) := by
  cases hr : rightB aR aC aF an g
  · have hno : prodOk ⟨aR, aC, aF, an, g⟩ ⟨bR, bC, bF, bn, h⟩ ta tb = false := by unfold prodOk PT.right; rw [hr]; rfl
    rw [(prod_no _ _ _ _ hno).1, (prod_no _ _ _ _ hno).2]
    exact rprod_bad1 aR aC aF bR bC bF ad bd an bn ca cb g h ta tb w hn hn' h1 h2 hr
  · cases hr2 : rightB bR bC bF bn h
    · have hno : prodOk ⟨aR, aC, aF, an, g⟩ ⟨bR, bC, bF, bn, h⟩ ta tb = false := by unfold prodOk PT.right; rw [hr, hr2]; rfl
      rw [(prod_no _ _ _ _ hno).1, (prod_no _ _ _ _ hno).2]
      exact rprod_bad2 aR aC aF bR bC bF ad bd an bn ca cb g h ta tb w hn hn' h1 h2 hr hr2
    · by_cases hk : (if ta then aR else aC) = (if tb then bC else bR)
      · have hok : prodOk ⟨aR, aC, aF, an, g⟩ ⟨bR, bC, bF, bn, h⟩ ta tb = true := by
          unfold prodOk PT.right prodK prodM; rw [hr, hr2]; simpa using hk
        obtain ⟨r, c, e1, e2, l1, l2, e3⟩ := right_nat (t := ⟨aR, aC, aF, an, g⟩) hr
        obtain ⟨r', c', f1, f2, l3, l4, f3⟩ := right_nat (t := ⟨bR, bC, bF, bn, h⟩) hr2
        simp only at e1 e2 e3 f1 f2 f3
        subst e1 e2 f1 f2
        cases ta <;> cases tb
        · rw [(prod_yes _ _ _ _ hok r c' c rfl rfl rfl).1, (prod_yes _ _ _ _ hok r c' c rfl rfl rfl).2]
          exact rprod_ff r c r' c' aF bF ad bd an bn ca cb g h w l1 l2 l3 l4 e3.symm f3.symm h1 h2 hr hr2 (Int.ofNat_inj.1 (by simpa using hk))
        · rw [(prod_yes _ _ _ _ hok r r' c rfl rfl rfl).1, (prod_yes _ _ _ _ hok r r' c rfl rfl rfl).2]
          exact rprod_ft r c r' c' aF bF ad bd an bn ca cb g h w l1 l2 l3 l4 e3.symm f3.symm h1 h2 hr hr2 (Int.ofNat_inj.1 (by simpa using hk))
        · rw [(prod_yes _ _ _ _ hok c c' r rfl rfl rfl).1, (prod_yes _ _ _ _ hok c c' r rfl rfl rfl).2]
          exact rprod_tf r c r' c' aF bF ad bd an bn ca cb g h w l1 l2 l3 l4 e3.symm f3.symm h1 h2 hr hr2 (Int.ofNat_inj.1 (by simpa using hk))
        · exact absurd hab (by decide)
      · have hno : prodOk ⟨aR, aC, aF, an, g⟩ ⟨bR, bC, bF, bn, h⟩ ta tb = false := by
          unfold prodOk PT.right prodK prodM; rw [hr, hr2]; simpa using hk
        rw [(prod_no _ _ _ _ hno).1, (prod_no _ _ _ _ hno).2]
        exact rprod_bad3 aR aC aF bR bC bF ad bd an bn ca cb g h ta tb w hn hn' h1 h2 hr hr2 hk

theorem rplain_any (aR aC aF bR bC bF : Int) (ad bd : Option Addr) (an bn ca cb : Nat) (g h : Nat → Int) (w : World) (hn : an ≤ 9223372036854775807) (hn' : bn ≤ 9223372036854775807) (h1 : Reads ad an g w) (h2 : Reads bd bn h w) :
    Calls Try.prog 12 #[.agg #[.int .i64 aR, .int .i64 aC, .int .i64 aF, .slice ad an ca], .agg #[.int .i64 bR, .int .i64 bC, .int .i64 bF, .slice bd bn cb]] w (TenE (prodT ⟨aR, aC, aF, an, g⟩ ⟨bR, bC, bF, bn, h⟩ false false) (prodX ⟨aR, aC, aF, an, g⟩ ⟨bR, bC, bF, bn, h⟩ false false) w) := by
  have H1 := Lib.hid h1
  have H2 := Lib.hid h2
  have HX := Lib.hid hn
  have HY := Lib.hid hn'
  clear h1 h2 hn hn'
  obtain ⟨T, hT⟩ : ∃ T, prodT ⟨aR, aC, aF, an, g⟩ ⟨bR, bC, bF, bn, h⟩ false false = T := ⟨_, rfl⟩
  obtain ⟨X, hX⟩ : ∃ X, prodX ⟨aR, aC, aF, an, g⟩ ⟨bR, bC, bF, bn, h⟩ false false = X := ⟨_, rfl⟩
  rw [hT, hX]
  obtain ⟨tR, tC, tF, tn, tg⟩ := T
  have HTT := Lib.hid hT
  have HXX := Lib.hid hX
  clear hT hX
  go_enter Try.func12, Try.ntmps12
  go_wp2_with fail
  have HT3 := Lib.hid (ten_new ((w.alloc (.cells #[.int .i64 aR, .int .i64 aC, .int .i64 aF, .slice ad an ca] 24)).alloc (.cells #[.int .i64 bR, .int .i64 bC, .int .i64 bF, .slice bd bn cb] 24)) (.int .i64 0) (.int .i64 0) (.int .i64 0) (.slice none 0 0) 24)
  have HG := Lib.hid (Grown.alloc (Grown.alloc (Grown.alloc (Grown.refl w) #[.int .i64 aR, .int .i64 aC, .int .i64 aF, .slice ad an ca] 24) #[.int .i64 bR, .int .i64 bC, .int .i64 bF, .slice bd bn cb] 24) #[.int .i64 0, .int .i64 0, .int .i64 0, .slice none 0 0] 24)
  simp only [World.size_alloc] at HT3
  generalize ((w.alloc _).alloc _).alloc _ = W0 at HT3 HG ⊢
  refine (rprod_any aR aC aF bR bC bF ad bd an bn ca cb g h _ _ _ HX.out HY.out (H1.out.grown gr) (H2.out.grown gr) rfl).mono ?_
  rw [HTT.out, HXX.out]
  rintro e W1 ⟨xd, xc, rfl, hR, hn, hf, hW⟩
  dsimp only at hR hn ⊢
  have HF := Lib.hid (hf.off HT3.out.lies)
  have HF2 := Lib.hid (hf.back HG.out)
  have HR := Lib.hid hR
  have HN := Lib.hid hn
  obtain ⟨r0, r1, r2, r3, r4, r5, r6, r7, r8⟩ := HT3.out.grown hW
  replace HG := Lib.hid (grown_trans HG.out hW)
  clear hW hf hR hn
  go_wp2
  (try simp only [Exit.inBlock, Exit.then])
  refine bodyPost_ret (v := .tuple #[.agg #[.int .i64 tR, .int .i64 tC, .int .i64 tF, .slice xd tn xc], .int .i64 X]) ?_ rfl ⟨_, _, rfl, ?_, HN.out, HF2.out, gr⟩
  · rw [results_cell_tmp rfl]
    go_simp
  · exact (((HR.out.set HF.out _).set HF.out _).set HF.out _).set HF.out _

theorem rrows_any (aR aC aF bR bC bF : Int) (ad bd : Option Addr) (an bn ca cb : Nat) (g h : Nat → Int) (w : World) (hn : an ≤ 9223372036854775807) (hn' : bn ≤ 9223372036854775807) (h1 : Reads ad an g w) (h2 : Reads bd bn h w) :
    Calls Try.prog 14 #[.agg #[.int .i64 aR, .int .i64 aC, .int .i64 aF, .slice ad an ca], .agg #[.int .i64 bR, .int .i64 bC, .int .i64 bF, .slice bd bn cb]] w (TenE (prodT ⟨aR, aC, aF, an, g⟩ ⟨bR, bC, bF, bn, h⟩ false true) (prodX ⟨aR, aC, aF, an, g⟩ ⟨bR, bC, bF, bn, h⟩ false true) w) := by
  have H1 := Lib.hid h1
  have H2 := Lib.hid h2
  have HX := Lib.hid hn
  have HY := Lib.hid hn'
  clear h1 h2 hn hn'
  obtain ⟨T, hT⟩ : ∃ T, prodT ⟨aR, aC, aF, an, g⟩ ⟨bR, bC, bF, bn, h⟩ false true = T := ⟨_, rfl⟩
  obtain ⟨X, hX⟩ : ∃ X, prodX ⟨aR, aC, aF, an, g⟩ ⟨bR, bC, bF, bn, h⟩ false true = X := ⟨_, rfl⟩
  rw [hT, hX]
  obtain ⟨tR, tC, tF, tn, tg⟩ := T
  have HTT := Lib.hid hT
  have HXX := Lib.hid hX
  clear hT hX
  go_enter Try.func14, Try.ntmps14
  go_wp2_with fail
  have HT3 := Lib.hid (ten_new ((w.alloc (.cells #[.int .i64 aR, .int .i64 aC, .int .i64 aF, .slice ad an ca] 24)).alloc (.cells #[.int .i64 bR, .int .i64 bC, .int .i64 bF, .slice bd bn cb] 24)) (.int .i64 0) (.int .i64 0) (.int .i64 0) (.slice none 0 0) 24)
  have HG := Lib.hid (Grown.alloc (Grown.alloc (Grown.alloc (Grown.refl w) #[.int .i64 aR, .int .i64 aC, .int .i64 aF, .slice ad an ca] 24) #[.int .i64 bR, .int .i64 bC, .int .i64 bF, .slice bd bn cb] 24) #[.int .i64 0, .int .i64 0, .int .i64 0, .slice none 0 0] 24)
  simp only [World.size_alloc] at HT3
  generalize ((w.alloc _).alloc _).alloc _ = W0 at HT3 HG ⊢
  refine (rprod_any aR aC aF bR bC bF ad bd an bn ca cb g h _ _ _ HX.out HY.out (H1.out.grown gr) (H2.out.grown gr) rfl).mono ?_
  rw [HTT.out, HXX.out]
  rintro e W1 ⟨xd, xc, rfl, hR, hn, hf, hW⟩
  dsimp only at hR hn ⊢
  have HF := Lib.hid (hf.off HT3.out.lies)
  have HF2 := Lib.hid (hf.back HG.out)
  have HR := Lib.hid hR
  have HN := Lib.hid hn
  obtain ⟨r0, r1, r2, r3, r4, r5, r6, r7, r8⟩ := HT3.out.grown hW
  replace HG := Lib.hid (grown_trans HG.out hW)
  clear hW hf hR hn
  go_wp2
  (try simp only [Exit.inBlock, Exit.then])
  refine bodyPost_ret (v := .tuple #[.agg #[.int .i64 tR, .int .i64 tC, .int .i64 tF, .slice xd tn xc], .int .i64 X]) ?_ rfl ⟨_, _, rfl, ?_, HN.out, HF2.out, gr⟩
  · rw [results_cell_tmp rfl]
    go_simp
  · exact (((HR.out.set HF.out _).set HF.out _).set HF.out _).set HF.out _

theorem rcols_any (aR aC aF bR bC bF : Int) (ad bd : Option Addr) (an bn ca cb : Nat) (g h : Nat → Int) (w : World) (hn : an ≤ 9223372036854775807) (hn' : bn ≤ 9223372036854775807) (h1 : Reads ad an g w) (h2 : Reads bd bn h w) :
    Calls Try.prog 16 #[.agg #[.int .i64 aR, .int .i64 aC, .int .i64 aF, .slice ad an ca], .agg #[.int .i64 bR, .int .i64 bC, .int .i64 bF, .slice bd bn cb]] w (TenE (prodT ⟨aR, aC, aF, an, g⟩ ⟨bR, bC, bF, bn, h⟩ true false) (prodX ⟨aR, aC, aF, an, g⟩ ⟨bR, bC, bF, bn, h⟩ true false) w) := by
  have H1 := Lib.hid h1
  have H2 := Lib.hid h2
  have HX := Lib.hid hn
  have HY := Lib.hid hn'
  clear h1 h2 hn hn'
  obtain ⟨T, hT⟩ : ∃ T, prodT ⟨aR, aC, aF, an, g⟩ ⟨bR, bC, bF, bn, h⟩ true false = T := ⟨_, rfl⟩
  obtain ⟨X, hX⟩ : ∃ X, prodX ⟨aR, aC, aF, an, g⟩ ⟨bR, bC, bF, bn, h⟩ true false = X := ⟨_, rfl⟩
  rw [hT, hX]
  obtain ⟨tR, tC, tF, tn, tg⟩ := T
  have HTT := Lib.hid hT
  have HXX := Lib.hid hX
  clear hT hX
  go_enter Try.func16, Try.ntmps16
  go_wp2_with fail
  have HT3 := Lib.hid (ten_new ((w.alloc (.cells #[.int .i64 aR, .int .i64 aC, .int .i64 aF, .slice ad an ca] 24)).alloc (.cells #[.int .i64 bR, .int .i64 bC, .int .i64 bF, .slice bd bn cb] 24)) (.int .i64 0) (.int .i64 0) (.int .i64 0) (.slice none 0 0) 24)
  have HG := Lib.hid (Grown.alloc (Grown.alloc (Grown.alloc (Grown.refl w) #[.int .i64 aR, .int .i64 aC, .int .i64 aF, .slice ad an ca] 24) #[.int .i64 bR, .int .i64 bC, .int .i64 bF, .slice bd bn cb] 24) #[.int .i64 0, .int .i64 0, .int .i64 0, .slice none 0 0] 24)
  simp only [World.size_alloc] at HT3
  generalize ((w.alloc _).alloc _).alloc _ = W0 at HT3 HG ⊢
  refine (rprod_any aR aC aF bR bC bF ad bd an bn ca cb g h _ _ _ HX.out HY.out (H1.out.grown gr) (H2.out.grown gr) rfl).mono ?_
  rw [HTT.out, HXX.out]
  rintro e W1 ⟨xd, xc, rfl, hR, hn, hf, hW⟩
  dsimp only at hR hn ⊢
  have HF := Lib.hid (hf.off HT3.out.lies)
  have HF2 := Lib.hid (hf.back HG.out)
  have HR := Lib.hid hR
  have HN := Lib.hid hn
  obtain ⟨r0, r1, r2, r3, r4, r5, r6, r7, r8⟩ := HT3.out.grown hW
  replace HG := Lib.hid (grown_trans HG.out hW)
  clear hW hf hR hn
  go_wp2
  (try simp only [Exit.inBlock, Exit.then])
  refine bodyPost_ret (v := .tuple #[.agg #[.int .i64 tR, .int .i64 tC, .int .i64 tF, .slice xd tn xc], .int .i64 X]) ?_ rfl ⟨_, _, rfl, ?_, HN.out, HF2.out, gr⟩
  · rw [results_cell_tmp rfl]
    go_simp
  · exact (((HR.out.set HF.out _).set HF.out _).set HF.out _).set HF.out _
end Go.Proofs.Ytmipefapjehkaaa
