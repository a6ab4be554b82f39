/- The walk of KernShapes, where y has one row or not, as many as x or not: one way of four. (Written by gen55.py.) -/
import Derived.Test.YtmipefapjehkaaaKeShape
namespace Go.Proofs.Ytmipefapjehkaaa
open Go Go.RowKit
set_option linter.unusedVariables false
set_option linter.unusedSimpArgs false

set_option maxRecDepth 100000 in
set_option maxHeartbeats 60000000 in
theorem kshapes_TF (w : World) (a b c d : Int) (na0 : 0 ≤ a) (na1 : a ≤ 255) (nb0 : 0 ≤ b) (nb1 : b ≤ 255) (nc0 : 0 ≤ c) (nc1 : c ≤ 255) (nd0 : 0 ≤ d) (nd1 : d ≤ 255) (x y z u : Nat) (hx : a % 4 = (x : Int)) (hy : b % 4 = (y : Int)) (hz : c % 4 = (z : Int)) (hu : d % 4 = (u : Int)) (v4 : ((z : Int) == 1) = true) (v5 : ((x : Int) == (z : Int)) = false) :
    Calls Try.prog 7 #[.int .u8 a, .int .u8 b, .int .u8 c, .int .u8 d] w fun e w' => e = .returned (.bool true) ∧ Grown w w' := by
  have lx : x ≤ 3 := by omega
  have ly : y ≤ 3 := by omega
  have lz : z ≤ 3 := by omega
  have lu : u ≤ 3 := by omega
  obtain ⟨M1, hM1⟩ : ∃ M1, x * y = M1 := ⟨_, rfl⟩
  obtain ⟨M2, hM2⟩ : ∃ M2, z * u = M2 := ⟨_, rfl⟩
  have X1 : Hid ((x : Int) * (y : Int) = (M1 : Int)) := Lib.hid (by rw [← hM1, Int.natCast_mul])
  have X2 : Hid ((z : Int) * (u : Int) = (M2 : Int)) := Lib.hid (by rw [← hM2, Int.natCast_mul])
  have B1 : Hid (M1 ≤ 9 ∧ M2 ≤ 9) := Lib.hid ⟨by have := Nat.mul_le_mul lx ly; omega, by have := Nat.mul_le_mul lz lu; omega⟩
  have HM1 := Lib.hid hM1.symm
  have HM2 := Lib.hid hM2.symm
  clear hM1 hM2
  go_enter Try.func7, Try.ntmps7
  go_wp2_with fail
  refine (known14_any _).mono ?_
  rintro e W1 ⟨rfl, hW1⟩
  have HK := Lib.hid ((Lot.nil W1).add (f := .gr w) hW1)
  clear hW1
  go_wp2_with fail
  refine (seatt_any x y 0 M1 none 0 0 (fun _ => 0) true _ (by omega) (Reads.nil _ _ _) (by omega) (by omega) (by omega) (by omega) X1.out).mono ?_
  rintro e Wa ⟨da, ca, ga, rfl, hR, hf, hW, hm, hs⟩
  have Sa := Lib.hid hs
  have Va : Hid (∀ i, i < M1 → ga i ≤ msk 0) := Lib.hid fun i hi => by
    obtain ⟨q, q0, _, hq⟩ := hm rfl i hi
    rw [hq]; exact mil_le 0 q q0
  replace HK := Lib.hid ((HK.out.grown hW).add (f := .rd da M1 ga) hR)
  clear hR hf hW hm hs
  go_wp2_with fail
  replace HK := Lib.hid ((HK.out.grown (Grown.alloc (Grown.refl Wa) #[.int .i64 x, .int .i64 y, .int .i64 0, .slice da M1 ca] 24)).add (f := .ten Wa.heap.size (.int .i64 x) (.int .i64 y) (.int .i64 0) (.slice da M1 ca)) (ten_new Wa _ _ _ _ _))
  generalize Wa.alloc _ = Ua at HK ⊢
  generalize Wa.heap.size = oa at HK ⊢
  refine (seatt_any z u 1 M2 none 0 0 (fun _ => 0) true _ (by omega) (Reads.nil _ _ _) (by omega) (by omega) (by omega) (by omega) X2.out).mono ?_
  rintro e Wb ⟨db, cb, gb, rfl, hR, hf, hW, hm, hs⟩
  have Sb := Lib.hid hs
  have Vb : Hid (∀ i, i < M2 → gb i ≤ msk 1) := Lib.hid fun i hi => by
    obtain ⟨q, q0, _, hq⟩ := hm rfl i hi
    rw [hq]; exact mil_le 1 q q0
  replace HK := Lib.hid ((HK.out.grown hW).add (f := .rd db M2 gb) hR)
  clear hR hf hW hm hs
  obtain ⟨p0, p1, p2, p3, p4, -, -, -, -⟩ := (HK.out.ten 1 rfl)
  go_wp2_with fail
  clear p0 p1 p2 p3 p4
  replace HK := Lib.hid ((HK.out.grown (Grown.alloc (Grown.refl Wb) #[.int .i64 z, .int .i64 u, .int .i64 1, .slice db M2 cb] 24)).add (f := .ten Wb.heap.size (.int .i64 z) (.int .i64 u) (.int .i64 1) (.slice db M2 cb)) (ten_new Wb _ _ _ _ _))
  generalize Wb.alloc _ = Ub at HK ⊢
  generalize Wb.heap.size = ob at HK ⊢
  have ra : PT.right ⟨x, y, 0, M1, ga⟩ = true := ten_right (by omega) (by omega) rfl HM1.out Va.out
  have rb : PT.right ⟨z, u, 1, M2, gb⟩ = true := ten_right (by omega) (by omega) rfl HM2.out Vb.out
  obtain ⟨hc1, hs1⟩ := prod_shape ⟨x, y, 0, M1, ga⟩ ⟨z, u, 1, M2, gb⟩ false false ra rb
  obtain ⟨T1, hT1⟩ : ∃ T, prodT ⟨x, y, 0, M1, ga⟩ ⟨z, u, 1, M2, gb⟩ false false = T := ⟨_, rfl⟩
  obtain ⟨Y1, hY1⟩ : ∃ X, prodX ⟨x, y, 0, M1, ga⟩ ⟨z, u, 1, M2, gb⟩ false false = X := ⟨_, rfl⟩
  rw [hY1] at hc1
  rw [hY1, hT1] at hs1
  have HT1 := Lib.hid hT1
  have HY1 := Lib.hid hY1
  have HS1 : Hid ((Y1 = 0 ∧ T1.R = (x : Int) ∧ T1.C = (u : Int) ∧ (T1.n : Int) = (x : Int) * (u : Int) ∧ 0 ≤ (x : Int) ∧ (x : Int) ≤ 4096 ∧ 0 ≤ (u : Int) ∧ (u : Int) ≤ 4096) ∨ (Y1 = 21 ∧ T1.n = 0)) := Lib.hid hs1
  have HC1 : Hid (Ending.returned (.int .i64 (if ((y : Int) == (z : Int)) then 0 else 21)) = .returned (.int .i64 Y1)) := Lib.hid (by rw [show (if ((y : Int) == (z : Int)) then (0 : Int) else 21) = Y1 from hc1.symm])
  clear hT1 hY1 hs1 hc1
  obtain ⟨hc2, hs2⟩ := prod_shape ⟨x, y, 0, M1, ga⟩ ⟨z, u, 1, M2, gb⟩ false true ra rb
  obtain ⟨T2, hT2⟩ : ∃ T, prodT ⟨x, y, 0, M1, ga⟩ ⟨z, u, 1, M2, gb⟩ false true = T := ⟨_, rfl⟩
  obtain ⟨Y2, hY2⟩ : ∃ X, prodX ⟨x, y, 0, M1, ga⟩ ⟨z, u, 1, M2, gb⟩ false true = X := ⟨_, rfl⟩
  rw [hY2] at hc2
  rw [hY2, hT2] at hs2
  have HT2 := Lib.hid hT2
  have HY2 := Lib.hid hY2
  have HS2 : Hid ((Y2 = 0 ∧ T2.R = (x : Int) ∧ T2.C = (z : Int) ∧ (T2.n : Int) = (x : Int) * (z : Int) ∧ 0 ≤ (x : Int) ∧ (x : Int) ≤ 4096 ∧ 0 ≤ (z : Int) ∧ (z : Int) ≤ 4096) ∨ (Y2 = 21 ∧ T2.n = 0)) := Lib.hid hs2
  have HC2 : Hid (Ending.returned (.int .i64 (if ((y : Int) == (u : Int)) then 0 else 21)) = .returned (.int .i64 Y2)) := Lib.hid (by rw [show (if ((y : Int) == (u : Int)) then (0 : Int) else 21) = Y2 from hc2.symm])
  clear hT2 hY2 hs2 hc2
  obtain ⟨hc3, hs3⟩ := prod_shape ⟨x, y, 0, M1, ga⟩ ⟨z, u, 1, M2, gb⟩ true false ra rb
  obtain ⟨T3, hT3⟩ : ∃ T, prodT ⟨x, y, 0, M1, ga⟩ ⟨z, u, 1, M2, gb⟩ true false = T := ⟨_, rfl⟩
  obtain ⟨Y3, hY3⟩ : ∃ X, prodX ⟨x, y, 0, M1, ga⟩ ⟨z, u, 1, M2, gb⟩ true false = X := ⟨_, rfl⟩
  rw [hY3] at hc3
  rw [hY3, hT3] at hs3
  have HT3 := Lib.hid hT3
  have HY3 := Lib.hid hY3
  have HS3 : Hid ((Y3 = 0 ∧ T3.R = (y : Int) ∧ T3.C = (u : Int) ∧ (T3.n : Int) = (y : Int) * (u : Int) ∧ 0 ≤ (y : Int) ∧ (y : Int) ≤ 4096 ∧ 0 ≤ (u : Int) ∧ (u : Int) ≤ 4096) ∨ (Y3 = 21 ∧ T3.n = 0)) := Lib.hid hs3
  have HC3 : Hid (Ending.returned (.int .i64 (if ((x : Int) == (z : Int)) then 0 else 21)) = .returned (.int .i64 Y3)) := Lib.hid (by rw [show (if ((x : Int) == (z : Int)) then (0 : Int) else 21) = Y3 from hc3.symm])
  clear hT3 hY3 hs3 hc3
  have h4 : browX ⟨x, y, 0, M1, ga⟩ ⟨z, u, 1, M2, gb⟩ = (if ((z : Int) == 1) && ((u : Int) == (y : Int)) then 0 else 21) := by
    unfold browX
    rw [ra, rb]
    rfl
  have h5 : each0X ⟨x, y, 0, M1, ga⟩ ⟨z, u, 1, M2, gb⟩ = (if ((x : Int) == (z : Int)) && ((y : Int) == (u : Int)) then 0 else 21) := by
    unfold each0X
    rw [ra, rb]
    rfl
  obtain ⟨T4, hT4⟩ : ∃ T, browT ⟨x, y, 0, M1, ga⟩ ⟨z, u, 1, M2, gb⟩ = T := ⟨_, rfl⟩
  obtain ⟨T5, hT5⟩ : ∃ T, each0T ⟨x, y, 0, M1, ga⟩ ⟨z, u, 1, M2, gb⟩ = T := ⟨_, rfl⟩
  obtain ⟨Y4, hY4⟩ : ∃ T, browX ⟨x, y, 0, M1, ga⟩ ⟨z, u, 1, M2, gb⟩ = T := ⟨_, rfl⟩
  obtain ⟨Y5, hY5⟩ : ∃ T, each0X ⟨x, y, 0, M1, ga⟩ ⟨z, u, 1, M2, gb⟩ = T := ⟨_, rfl⟩
  have HT4 := Lib.hid hT4
  have HT5 := Lib.hid hT5
  have HY4 := Lib.hid hY4
  have HY5 := Lib.hid hY5
  have HC4 := Lib.hid (h4.symm.trans hY4)
  have HC5 := Lib.hid (h5.symm.trans hY5)
  clear ra rb h4 h5 hT4 hT5 hY4 hY5
  obtain ⟨p0, p1, p2, p3, p4, -, -, -, -⟩ := (HK.out.ten 2 rfl)
  obtain ⟨q0, q1, q2, q3, q4, -, -, -, -⟩ := (HK.out.ten 0 rfl)
  refine (kplain_any x y 0 z u 1 da db M1 M2 ca cb ga gb _ (by have := B1.out; omega) (by have := B1.out; omega) (HK.out.rd 3 rfl) (HK.out.rd 1 rfl)).mono ?_
  rw [HT1.out, HY1.out]
  rintro e W19 ⟨d1, c1, rfl, hR, hn, hf, hW⟩
  replace HK := Lib.hid (HK.out.grown hW)
  clear hR hn hf hW
  obtain ⟨p0, p1, p2, p3, p4, -, -, -, -⟩ := (HK.out.ten 2 rfl)
  obtain ⟨q0, q1, q2, q3, q4, -, -, -, -⟩ := (HK.out.ten 0 rfl)
  go_wp2_with fail
  clear p0 p1 p2 p3 p4 q0 q1 q2 q3 q4
  replace HK := Lib.hid ((HK.out.grown (Grown.alloc (Grown.refl W19) #[.int .i64 T1.R, .int .i64 T1.C, .int .i64 T1.F, .slice d1 T1.n c1] 24)).add (f := .ten W19.heap.size (.int .i64 T1.R) (.int .i64 T1.C) (.int .i64 T1.F) (.slice d1 T1.n c1)) (ten_new W19 _ _ _ _ _))
  generalize W19.alloc _ = U1 at HK ⊢
  generalize W19.heap.size = o1 at HK ⊢
  refine (krows_any x y 0 z u 1 da db M1 M2 ca cb ga gb _ (by have := B1.out; omega) (by have := B1.out; omega) (HK.out.rd 4 rfl) (HK.out.rd 2 rfl)).mono ?_
  rw [HT2.out, HY2.out]
  rintro e W29 ⟨d2, c2, rfl, hR, hn, hf, hW⟩
  replace HK := Lib.hid (HK.out.grown hW)
  clear hR hn hf hW
  obtain ⟨p0, p1, p2, p3, p4, -, -, -, -⟩ := (HK.out.ten 3 rfl)
  obtain ⟨q0, q1, q2, q3, q4, -, -, -, -⟩ := (HK.out.ten 1 rfl)
  go_wp2_with fail
  clear p0 p1 p2 p3 p4 q0 q1 q2 q3 q4
  replace HK := Lib.hid ((HK.out.grown (Grown.alloc (Grown.refl W29) #[.int .i64 T2.R, .int .i64 T2.C, .int .i64 T2.F, .slice d2 T2.n c2] 24)).add (f := .ten W29.heap.size (.int .i64 T2.R) (.int .i64 T2.C) (.int .i64 T2.F) (.slice d2 T2.n c2)) (ten_new W29 _ _ _ _ _))
  generalize W29.alloc _ = U2 at HK ⊢
  generalize W29.heap.size = o2 at HK ⊢
  refine (kcols_any x y 0 z u 1 da db M1 M2 ca cb ga gb _ (by have := B1.out; omega) (by have := B1.out; omega) (HK.out.rd 5 rfl) (HK.out.rd 3 rfl)).mono ?_
  rw [HT3.out, HY3.out]
  rintro e W39 ⟨d3, c3, rfl, hR, hn, hf, hW⟩
  replace HK := Lib.hid (HK.out.grown hW)
  clear hR hn hf hW
  obtain ⟨p0, p1, p2, p3, p4, -, -, -, -⟩ := (HK.out.ten 4 rfl)
  obtain ⟨q0, q1, q2, q3, q4, -, -, -, -⟩ := (HK.out.ten 2 rfl)
  go_wp2_with fail
  clear p0 p1 p2 p3 p4 q0 q1 q2 q3 q4
  replace HK := Lib.hid ((HK.out.grown (Grown.alloc (Grown.refl W39) #[.int .i64 T3.R, .int .i64 T3.C, .int .i64 T3.F, .slice d3 T3.n c3] 24)).add (f := .ten W39.heap.size (.int .i64 T3.R) (.int .i64 T3.C) (.int .i64 T3.F) (.slice d3 T3.n c3)) (ten_new W39 _ _ _ _ _))
  generalize W39.alloc _ = U3 at HK ⊢
  generalize W39.heap.size = o3 at HK ⊢
  refine (kbias_any x y 0 z u 1 da db M1 M2 ca cb ga gb _ (by have := B1.out; omega) (by have := B1.out; omega) (HK.out.rd 6 rfl) (HK.out.rd 4 rfl)).mono ?_
  rw [HT4.out, HY4.out]
  rintro e W49 ⟨d4, c4, rfl, hR, hn, hf, hW⟩
  replace HK := Lib.hid (HK.out.grown hW)
  clear hR hn hf hW
  obtain ⟨p0, p1, p2, p3, p4, -, -, -, -⟩ := (HK.out.ten 5 rfl)
  obtain ⟨q0, q1, q2, q3, q4, -, -, -, -⟩ := (HK.out.ten 3 rfl)
  go_wp2_with fail
  clear p0 p1 p2 p3 p4 q0 q1 q2 q3 q4
  replace HK := Lib.hid ((HK.out.grown (Grown.alloc (Grown.refl W49) #[.int .i64 T4.R, .int .i64 T4.C, .int .i64 T4.F, .slice d4 T4.n c4] 24)).add (f := .ten W49.heap.size (.int .i64 T4.R) (.int .i64 T4.C) (.int .i64 T4.F) (.slice d4 T4.n c4)) (ten_new W49 _ _ _ _ _))
  generalize W49.alloc _ = U4 at HK ⊢
  generalize W49.heap.size = o4 at HK ⊢
  refine (kadd_any x y 0 z u 1 da db M1 M2 ca cb ga gb _ (by have := B1.out; omega) (by have := B1.out; omega) (HK.out.rd 7 rfl) (HK.out.rd 5 rfl)).mono ?_
  rw [HT5.out, HY5.out]
  rintro e W59 ⟨d5, c5, rfl, hR, hn, hf, hW⟩
  replace HK := Lib.hid (HK.out.grown hW)
  clear hR hn hf hW
  obtain ⟨p0, p1, p2, p3, p4, -, -, -, -⟩ := (HK.out.ten 6 rfl)
  obtain ⟨q0, q1, q2, q3, q4, -, -, -, -⟩ := (HK.out.ten 4 rfl)
  obtain ⟨r10, r11, r12, r13, r14, -, -, -, -⟩ := (HK.out.ten 3 rfl)
  obtain ⟨r20, r21, r22, r23, r24, -, -, -, -⟩ := (HK.out.ten 2 rfl)
  obtain ⟨r30, r31, r32, r33, r34, -, -, -, -⟩ := (HK.out.ten 1 rfl)
  rw [v4] at HC4
  rw [v5] at HC5
  have h3 : (21 : Int) = Y3 := by
    have q := HC3.out
    rw [v5] at q
    injection q with q
    injection q with _ q
  subst h3
  have h5 : (21 : Int) = Y5 := HC5.out
  subst h5
  have HD4 : Hid (Ending.returned (.int .i64 (if ((u : Int) == (y : Int)) then 0 else 21)) = .returned (.int .i64 Y4)) := Lib.hid (congrArg (fun q => Ending.returned (.int .i64 q)) HC4.out)
  have kHS1 : Kept _ := ⟨HS1.out⟩
  have kHS2 : Kept _ := ⟨HS2.out⟩
  have kHS3 : Kept _ := ⟨HS3.out⟩
  have kHC1 : Kept _ := ⟨HC1.out⟩
  have kHC2 : Kept _ := ⟨HC2.out⟩
  have kHD4 : Kept _ := ⟨HD4.out⟩
  clear HS1 HS2 HS3 HC1 HC2 HC3 HD4 HC4 HC5
  go_wp2_with fail
  generalize hV9 : W59.alloc _ = V9
  have HW9 : Hid (Grown W59 V9) := Lib.hid (hV9 ▸ (Grown.alloc (Grown.refl _) _ _))
  have E0 : ∀ d : Later V9, d.w.cell? ⟨oa, 0, none⟩ = some (.int .i64 x) := fun d => grown_cell (grown_trans HW9.out d.g) p1 p0
  have E1 : ∀ d : Later V9, d.w.cell? ⟨oa, 1, none⟩ = some (.int .i64 y) := fun d => grown_cell (grown_trans HW9.out d.g) p2 p0
  have E2 : ∀ d : Later V9, d.w.cell? ⟨ob, 0, none⟩ = some (.int .i64 z) := fun d => grown_cell (grown_trans HW9.out d.g) q1 q0
  have E3 : ∀ d : Later V9, d.w.cell? ⟨ob, 1, none⟩ = some (.int .i64 u) := fun d => grown_cell (grown_trans HW9.out d.g) q2 q0
  have E4 : ∀ d : Later V9, d.w.cell? ⟨o1, 0, none⟩ = some (.int .i64 T1.R) := fun d => grown_cell (grown_trans HW9.out d.g) r11 r10
  have E5 : ∀ d : Later V9, d.w.cell? ⟨o1, 1, none⟩ = some (.int .i64 T1.C) := fun d => grown_cell (grown_trans HW9.out d.g) r12 r10
  have E6 : ∀ d : Later V9, d.w.cell? ⟨o1, 2, none⟩ = some (.int .i64 T1.F) := fun d => grown_cell (grown_trans HW9.out d.g) r13 r10
  have E7 : ∀ d : Later V9, d.w.cell? ⟨o1, 3, none⟩ = some (.slice d1 T1.n c1) := fun d => grown_cell (grown_trans HW9.out d.g) r14 r10
  have E8 : ∀ d : Later V9, d.w.cell? ⟨o2, 0, none⟩ = some (.int .i64 T2.R) := fun d => grown_cell (grown_trans HW9.out d.g) r21 r20
  have E9 : ∀ d : Later V9, d.w.cell? ⟨o2, 1, none⟩ = some (.int .i64 T2.C) := fun d => grown_cell (grown_trans HW9.out d.g) r22 r20
  have E10 : ∀ d : Later V9, d.w.cell? ⟨o2, 2, none⟩ = some (.int .i64 T2.F) := fun d => grown_cell (grown_trans HW9.out d.g) r23 r20
  have E11 : ∀ d : Later V9, d.w.cell? ⟨o2, 3, none⟩ = some (.slice d2 T2.n c2) := fun d => grown_cell (grown_trans HW9.out d.g) r24 r20
  have E12 : ∀ d : Later V9, d.w.cell? ⟨o3, 0, none⟩ = some (.int .i64 T3.R) := fun d => grown_cell (grown_trans HW9.out d.g) r31 r30
  have E13 : ∀ d : Later V9, d.w.cell? ⟨o3, 1, none⟩ = some (.int .i64 T3.C) := fun d => grown_cell (grown_trans HW9.out d.g) r32 r30
  have E14 : ∀ d : Later V9, d.w.cell? ⟨o3, 2, none⟩ = some (.int .i64 T3.F) := fun d => grown_cell (grown_trans HW9.out d.g) r33 r30
  have E15 : ∀ d : Later V9, d.w.cell? ⟨o3, 3, none⟩ = some (.slice d3 T3.n c3) := fun d => grown_cell (grown_trans HW9.out d.g) r34 r30
  clear p0 p1 p2 p3 p4 q0 q1 q2 q3 q4 r10 r11 r12 r13 r14 r20 r21 r22 r23 r24 r30 r31 r32 r33 r34 X1 X2 B1 HM1 HM2 Va Vb HT1 HT2 HT3 HT4 HT5 HY1 HY2 HY3 HY4 HY5 hx hy hz hu lx ly lz lu na0 na1 nb0 nb1 nc0 nc1 nd0 nd1 hV9
  have kHK : Kept _ := ⟨HK.out⟩
  have kHW9 : Kept _ := ⟨HW9.out⟩
  clear HK HW9
  simp only [List.append_eq, List.cons_append, List.nil_append]
  refine region_later V9 (by kernel_rfl) (by kernel_rfl) (Grown.refl _) ?_
  repeat (go_big_quiet_step ((first
      | (go_at_call 25; with_reducible exact later_call (kcode_no _) (fun e w q => ⟨q.1, q.2 ▸ Grown.refl _⟩))
      | (go_at_call 25; with_reducible exact later_call (kcode_yes _) (fun e w q => ⟨q.1, q.2 ▸ Grown.refl _⟩))
      | (go_at_call 25; exact later_call (kcode_any _ _) (fun e w q => ⟨q.1.trans (by first | with_reducible exact kHC1.out | with_reducible exact kHC2.out | with_reducible exact kHD4.out), q.2 ▸ Grown.refl _⟩))
      | (go_at_call 24; with_reducible exact later_call (kok_any Y1 T1.R T1.C T1.F d1 T1.n c1 x u _ kHS1.out) (fun e w q => q))
      | (go_at_call 24; with_reducible exact later_call (kok_any Y2 T2.R T2.C T2.F d2 T2.n c2 x z _ kHS2.out) (fun e w q => q))
      | (go_at_call 24; with_reducible exact later_call (kok_any 21 T3.R T3.C T3.F d3 T3.n c3 y u _ kHS3.out) (fun e w q => q)))))
  refine wpQuiet_nil ?_
  rintro ⟨W8, hW8⟩
  have HK := Lib.hid (kHK.out.grown (show Grown W59 W8 from grown_trans kHW9.out hW8))
  have HG := Lib.hid (HK.out.gr 8 rfl)
  go_wp2
  go_ret
  exact ⟨by simp, HG.out⟩
end Go.Proofs.Ytmipefapjehkaaa
