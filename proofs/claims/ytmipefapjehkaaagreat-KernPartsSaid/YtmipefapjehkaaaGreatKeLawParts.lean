/- The walk of KernParts. (Written by gen51.py.) -/
import Derived.Test.YtmipefapjehkaaaGreatFrame
import Derived.Test.YtmipefapjehkaaaGreatSeatT
import Derived.Test.YtmipefapjehkaaaGreatKern
import Derived.Test.YtmipefapjehkaaaGreatKeLawTells
import Derived.Deep.RegionHeld3
namespace Go.Proofs.YtmipefapjehkaaaGreat
open Go Go.RowKit
set_option linter.unusedVariables false
set_option linter.unusedSimpArgs false

set_option maxRecDepth 100000 in
set_option maxHeartbeats 8000000 in
theorem kparts_go (w : World) (aR aC aF bR bC bF m n f g by_ : Int) (ad bd ld rd : Option Addr) (an ca bn cb ln lc rn rc : Nat) (ga gb lg rg : Nat → Int)
    (ha : lightB aR aC an = true) (hb : lightB bR bC bn = true) (hl : ln ≤ 30) (hr : rn ≤ 30) (Ra : Reads ad an ga w) (Rb : Reads bd bn gb w) (Rl : Reads ld ln lg w) (Rr : Reads rd rn rg w) (Sa : Sound ad an ca) (Sb : Sound bd bn cb)
    (m0 : 0 ≤ m) (m1 : m ≤ 255) (n0 : 0 ≤ n) (n1 : n ≤ 255) (f0 : 0 ≤ f) (f1 : f ≤ 255) (g0 : 0 ≤ g) (g1 : g ≤ 255) (y0 : 0 ≤ by_) (y1 : by_ ≤ 4294967295) :
    Calls Tryz.prog 3 #[.agg #[.int .i64 aR, .int .i64 aC, .int .i64 aF, .slice ad an ca], .agg #[.int .i64 bR, .int .i64 bC, .int .i64 bF, .slice bd bn cb], .int .u8 m, .int .u8 n, .int .u8 f, .int .u8 g, .slice ld ln lc, .slice rd rn rc, .int .u32 by_] w fun e w' => e = .returned (.bool true) ∧ Grown w w' := by
  have HA := Lib.hid ha
  have HB := Lib.hid hb
  have t1 : ¬ (30 : Int) < (ln : Int) := by omega
  have t2 : ¬ (30 : Int) < (rn : Int) := by omega
  have HL := Lib.hid ((((((((Lot.nil w).add (f := .rd rd rn rg) Rr).add (f := .rd ld ln lg) Rl).add (f := .rd bd bn gb) Rb).add (f := .rd ad an ga) Ra).add (f := .gr w) (Grown.refl w)).grown (Grown.alloc (Grown.alloc (Grown.refl w) #[.int .i64 aR, .int .i64 aC, .int .i64 aF, .slice ad an ca] 24) #[.int .i64 bR, .int .i64 bC, .int .i64 bF, .slice bd bn cb] 24)).add (f := .ten w.heap.size (.int .i64 aR) (.int .i64 aC) (.int .i64 aF) (.slice ad an ca)) ((ten_new w _ _ _ _ _).grown (Grown.alloc (Grown.refl _) _ _))
    |>.add (f := .ten (w.heap.size + 1) (.int .i64 bR) (.int .i64 bC) (.int .i64 bF) (.slice bd bn cb)) (ten_new2 w _ _ _ _ _ _ _))
  obtain ⟨x, hx⟩ : ∃ x : Nat, m % 5 = (x : Int) := ⟨(m % 5).toNat, by omega⟩
  obtain ⟨y, hy⟩ : ∃ y : Nat, n % 5 = (y : Int) := ⟨(n % 5).toNat, by omega⟩
  obtain ⟨F, hF⟩ : ∃ F, f % 3 = F := ⟨_, rfl⟩
  obtain ⟨G, hG⟩ : ∃ G, g.tmod 3 = G := ⟨_, rfl⟩
  have hwG : IntKind.i64.wrap G = G := by rw [← hG, IntKind.wrap_i64, Int.tmod_eq_emod_of_nonneg g0]; omega
  have lx : x ≤ 4 := by omega
  have ly : y ≤ 4 := by omega
  have mxy : (x : Int) * (y : Int) = ((x * y : Nat) : Int) := (Int.natCast_mul x y).symm
  obtain ⟨M1, hM1⟩ : ∃ M1, x * y = M1 := ⟨_, rfl⟩
  rw [hM1] at mxy
  have X1 := Lib.hid mxy
  have X2 : Hid ((1 : Int) * (y : Int) = (y : Int)) := Lib.hid (Int.one_mul _)
  have B1 : Hid (M1 ≤ 16) := Lib.hid (by have := Nat.mul_le_mul lx ly; omega)
  have B0 : Hid (an ≤ 60 ∧ bn ≤ 60) := Lib.hid (by unfold lightB at ha hb; simp only [Bool.and_eq_true, decide_eq_true_eq] at ha hb; omega)
  obtain ⟨mild, hmild⟩ : ∃ b, (by_ % 2 == 0) = b := ⟨_, rfl⟩
  clear mxy hM1
  clear ha hb Ra Rb Rl Rr
  go_enter Tryz.func3, Tryz.ntmps3
  go_wp2_with fail
  generalize (w.alloc _).alloc _ = W0 at HL ⊢
  refine (known14_any _).mono ?_
  rintro e W1 ⟨rfl, hW1⟩
  replace HL := Lib.hid (HL.out.grown hW1)
  clear hW1
  obtain ⟨p0, p1, p2, p3, p4, _, _, _, _⟩ := HL.out.ten 1 rfl
  obtain ⟨q0, q1, q2, q3, q4, _, _, _, _⟩ := HL.out.ten 0 rfl
  go_wp2_with fail
  refine (hlight_any _ _ _ _ _ _ _).mono ?_
  rw [HA.out]
  rintro e W2 ⟨rfl, hW2⟩
  replace HL := Lib.hid (HL.out.grown hW2)
  clear hW2 p0 p1 p2 p3 p4 q0 q1 q2 q3 q4
  obtain ⟨q0, q1, q2, q3, q4, _, _, _, _⟩ := HL.out.ten 0 rfl
  go_wp2_with fail
  refine (hlight_any _ _ _ _ _ _ _).mono ?_
  rw [HB.out]
  rintro e W3 ⟨rfl, hW3⟩
  replace HL := Lib.hid (HL.out.grown hW3)
  clear hW3 q0 q1 q2 q3 q4
  go_wp2_with fail
  refine (seatt_any x y F M1 ld ln lc lg mild _ (by omega) (HL.out.rd 5 rfl) (by omega) (by omega) (by omega) (by omega) X1.out).mono ?_
  rintro e W4 ⟨td, tc, tg, rfl, hR1, hf1, hW4, hm1, hs1⟩
  have St := Lib.hid hs1
  replace HL := Lib.hid ((HL.out.grown hW4).add (f := .rd td M1 tg) hR1)
  clear hR1 hf1 hm1 hs1 hW4
  replace HL := Lib.hid ((HL.out.grown (Grown.alloc (Grown.refl W4) #[.int .i64 x, .int .i64 y, .int .i64 F, .slice td M1 tc] 24)).add (f := .ten W4.heap.size (.int .i64 x) (.int .i64 y) (.int .i64 F) (.slice td M1 tc)) (ten_new W4 _ _ _ _ _))
  go_wp2_with fail
  generalize W4.alloc _ = W5 at HL ⊢
  generalize W4.heap.size = tb at HL ⊢
  replace HL := Lib.hid (HL.out.grown (show Grown W5 W5.drew from Grown.drew (Grown.refl _)))
  have HN := Lib.hid (Lot.nil W5.drew)
  obtain ⟨p0, p1, p2, p3, p4, _, _, _, _⟩ := HL.out.ten 3 rfl
  obtain ⟨q0, q1, q2, q3, q4, _, _, _, _⟩ := HL.out.ten 2 rfl
  obtain ⟨r0, r1, r2, r3, r4, _, _, _, _⟩ := HL.out.ten 0 rfl
  go_region_held3 (fun w' => w'.cell? ⟨w.heap.size, 0, none⟩ = some (.int .i64 aR) ∧ w'.cell? ⟨w.heap.size, 1, none⟩ = some (.int .i64 aC) ∧ w'.cell? ⟨w.heap.size, 2, none⟩ = some (.int .i64 aF) ∧ w'.cell? ⟨w.heap.size, 3, none⟩ = some (.slice ad an ca) ∧ w'.cell? ⟨w.heap.size + 1, 0, none⟩ = some (.int .i64 bR) ∧ w'.cell? ⟨w.heap.size + 1, 1, none⟩ = some (.int .i64 bC) ∧ w'.cell? ⟨w.heap.size + 1, 2, none⟩ = some (.int .i64 bF) ∧ w'.cell? ⟨w.heap.size + 1, 3, none⟩ = some (.slice bd bn cb) ∧ w'.cell? ⟨tb, 0, none⟩ = some (.int .i64 x) ∧ w'.cell? ⟨tb, 1, none⟩ = some (.int .i64 y) ∧ w'.cell? ⟨tb, 2, none⟩ = some (.int .i64 F) ∧ w'.cell? ⟨tb, 3, none⟩ = some (.slice td M1 tc)) (go_keep) (first
    | (go_at_call 6; (with_reducible refine (seatt_any 1 y G y rd rn rc rg true _ (by omega) (HL.out.rd 8 rfl) (by omega) (by omega) (by omega) (by omega) X2.out).mono ?_); rintro e W6 ⟨ad1, c1, G1, rfl, hR1, hf1, hW4, hm1, hs1⟩; replace HL := Lib.hid (HL.out.grown hW4); replace HN := Lib.hid (((HN.out.grown hW4).add (f := .rd ad1 y G1) hR1).add (f := .any (Sound ad1 y c1)) hs1); clear hR1 hf1 hm1 hs1 hW4 p0 p1 p2 p3 p4 q0 q1 q2 q3 q4 r0 r1 r2 r3 r4; obtain ⟨p0, p1, p2, p3, p4, _, _, _, _⟩ := HL.out.ten 3 rfl; obtain ⟨q0, q1, q2, q3, q4, _, _, _, _⟩ := HL.out.ten 2 rfl; obtain ⟨r0, r1, r2, r3, r4, _, _, _, _⟩ := HL.out.ten 0 rfl)
    | (go_at_call 6; (with_reducible refine (seatt_any x y G M1 rd rn rc rg false _ (by omega) (HL.out.rd 8 rfl) (by omega) (by omega) (by omega) (by omega) X1.out).mono ?_); rintro e W6 ⟨ad1, c1, G1, rfl, hR1, hf1, hW4, hm1, hs1⟩; replace HL := Lib.hid (HL.out.grown hW4); replace HN := Lib.hid (((HN.out.grown hW4).add (f := .rd ad1 M1 G1) hR1).add (f := .any (Sound ad1 M1 c1)) hs1); clear hR1 hf1 hm1 hs1 hW4 p0 p1 p2 p3 p4 q0 q1 q2 q3 q4 r0 r1 r2 r3 r4; obtain ⟨p0, p1, p2, p3, p4, _, _, _, _⟩ := HL.out.ten 3 rfl; obtain ⟨q0, q1, q2, q3, q4, _, _, _, _⟩ := HL.out.ten 2 rfl; obtain ⟨r0, r1, r2, r3, r4, _, _, _, _⟩ := HL.out.ten 0 rfl))
  have HP : Hid (PairsAt W6.heap.size 4 (W6.alloc (.cells #[.int .i64 aR, .int .i64 aC, .int .i64 aF, .slice ad an ca, .int .i64 bR, .int .i64 bC, .int .i64 bF, .slice bd bn cb,
      .int .i64 x, .int .i64 y, .int .i64 F, .slice td M1 tc, .int .i64 1, .int .i64 y, .int .i64 G, .slice _ y _, .int .i64 x, .int .i64 y, .int .i64 F, .slice td M1 tc, .int .i64 x, .int .i64 y, .int .i64 G, .slice _ M1 _, .int .i64 aR, .int .i64 aC, .int .i64 aF, .slice ad an ca, .int .i64 x, .int .i64 y, .int .i64 F, .slice td M1 tc] 29))) := Lib.hid fun I hI => by
    have u1 := B1.out
    obtain ⟨u5, u6⟩ := B0.out
    match I, hI with
    | 0, _ => exact ⟨TenOk.new rfl rfl rfl rfl (by omega) (HL.out.rd 5 rfl) Sa, TenOk.new rfl rfl rfl rfl (by omega) (HL.out.rd 6 rfl) Sb⟩
    | 1, _ => exact ⟨TenOk.new rfl rfl rfl rfl (by omega) (HL.out.rd 1 rfl) St.out, TenOk.new rfl rfl rfl rfl (by omega) (HN.out.rd 3 rfl) (HN.out.any 2 rfl)⟩
    | 2, _ => exact ⟨TenOk.new rfl rfl rfl rfl (by omega) (HL.out.rd 1 rfl) St.out, TenOk.new rfl rfl rfl rfl (by omega) (HN.out.rd 1 rfl) (HN.out.any 0 rfl)⟩
    | 3, _ => exact ⟨TenOk.new rfl rfl rfl rfl (by omega) (HL.out.rd 5 rfl) Sa, TenOk.new rfl rfl rfl rfl (by omega) (HL.out.rd 1 rfl) St.out⟩
  have HM := Lib.hid (((Lot.nil W6).add (f := .gr w) (HL.out.gr 4 rfl)).grown (Grown.alloc (Grown.refl W6) _ 29) |>.add (f := .pairs W6.heap.size 4) HP.out)
  clear HP HL HN p0 p1 p2 p3 p4 q0 q1 q2 q3 q4 r0 r1 r2 r3 r4
  generalize W6.alloc _ = W7 at HM ⊢
  generalize W6.heap.size = PB at HM ⊢
  go_wp2_with fail
  go_loopw [105] (fun i wr => ∃ I : Nat, I ≤ 4 ∧ i = .int .i64 I ∧ Hid (Lot [.pairs PB 4, .gr w] wr)) (fun i _ => (4 - intOf i).toNat)
  case atStart => exact ⟨0, by omega, rfl, HM⟩
  case round =>
    rename World => wr
    clear HM
    obtain ⟨I, hI, rfl, HL⟩ := hrel
    by_cases hI4 : I < 4
    · obtain ⟨⟨R1, C1, F1, d1, n1, c1, g1, z0, z1, z2, z3, z4, l1, rd1, s1⟩, ⟨R2, C2, F2, d2, n2, c2, g2, z5, z6, z7, z8, z9, l2, rd2, s2⟩⟩ := (HL.out.pairs 0 rfl) I hI4
      have S1 := Lib.hid s1
      have S2 := Lib.hid s2
      have HK := Lib.hid (((((Lot.nil wr).add (f := .gr w) (HL.out.gr 1 rfl)).add (f := .pairs PB 4) (HL.out.pairs 0 rfl)).add (f := .rd d1 n1 g1) rd1).add (f := .rd d2 n2 g2) rd2)
      clear rd1 rd2 s1 s2 HL
      go_wp2_with fail
      replace HK := Lib.hid (((((((((HK.out.grown (Grown.alloc (Grown.refl wr) #[.int .i64 R1, .int .i64 C1, .int .i64 F1, .slice d1 n1 c1, .int .i64 R2, .int .i64 C2, .int .i64 F2, .slice d2 n2 c2] 29)).add (f := .cell wr.heap.size 0 (.int .i64 R1)) (cell_new rfl)).add (f := .cell wr.heap.size 1 (.int .i64 C1)) (cell_new rfl)).add (f := .cell wr.heap.size 2 (.int .i64 F1)) (cell_new rfl)).add (f := .cell wr.heap.size 3 (.slice d1 n1 c1)) (cell_new rfl)).add (f := .cell wr.heap.size 4 (.int .i64 R2)) (cell_new rfl)).add (f := .cell wr.heap.size 5 (.int .i64 C2)) (cell_new rfl)).add (f := .cell wr.heap.size 6 (.int .i64 F2)) (cell_new rfl)).add (f := .cell wr.heap.size 7 (.slice d2 n2 c2)) (cell_new rfl))
      clear z0 z1 z2 z3 z4 z5 z6 z7 z8 z9
      generalize wr.alloc _ = V0 at HK ⊢
      generalize wr.heap.size = qb at HK ⊢
      obtain ⟨T1, hT1⟩ : ∃ T, browT ⟨R1, C1, F1, n1, g1⟩ ⟨R2, C2, F2, n2, g2⟩ = T := ⟨_, rfl⟩
      obtain ⟨X1, hX1⟩ : ∃ X, browX ⟨R1, C1, F1, n1, g1⟩ ⟨R2, C2, F2, n2, g2⟩ = X := ⟨_, rfl⟩
      have HT1 := Lib.hid hT1
      have HX1 := Lib.hid hX1
      clear hT1 hX1
      obtain ⟨T2, hT2⟩ : ∃ T, sumsT ⟨R1, C1, F1, n1, g1⟩ = T := ⟨_, rfl⟩
      obtain ⟨X2, hX2⟩ : ∃ X, sumsX ⟨R1, C1, F1, n1, g1⟩ = X := ⟨_, rfl⟩
      have HT2 := Lib.hid hT2
      have HX2 := Lib.hid hX2
      clear hT2 hX2
      obtain ⟨T3, hT3⟩ : ∃ T, each0T ⟨R1, C1, F1, n1, g1⟩ ⟨R2, C2, F2, n2, g2⟩ = T := ⟨_, rfl⟩
      obtain ⟨X3, hX3⟩ : ∃ X, each0X ⟨R1, C1, F1, n1, g1⟩ ⟨R2, C2, F2, n2, g2⟩ = X := ⟨_, rfl⟩
      have HT3 := Lib.hid hT3
      have HX3 := Lib.hid hX3
      clear hT3 hX3
      obtain ⟨T4, hT4⟩ : ∃ T, each1T ⟨R1, C1, F1, n1, g1⟩ ⟨R2, C2, F2, n2, g2⟩ = T := ⟨_, rfl⟩
      obtain ⟨X4, hX4⟩ : ∃ X, each1X ⟨R1, C1, F1, n1, g1⟩ ⟨R2, C2, F2, n2, g2⟩ = X := ⟨_, rfl⟩
      have HT4 := Lib.hid hT4
      have HX4 := Lib.hid hX4
      clear hT4 hX4
      obtain ⟨T5, hT5⟩ : ∃ T, byT ⟨R1, C1, F1, n1, g1⟩ by_ = T := ⟨_, rfl⟩
      obtain ⟨X5, hX5⟩ : ∃ X, byX ⟨R1, C1, F1, n1, g1⟩ by_ = X := ⟨_, rfl⟩
      have HT5 := Lib.hid hT5
      have HX5 := Lib.hid hX5
      clear hT5 hX5
      refine (kbias_any R1 C1 F1 R2 C2 F2 d1 d2 n1 n2 c1 c2 g1 g2 _ l1 l2 (HK.out.rd 9 rfl) (HK.out.rd 8 rfl)).mono ?_
      rw [HT1.out, HX1.out]
      rintro e V1 ⟨xd1, xc1, rfl, hR1, hn1, hf1, hW1⟩
      replace HK := Lib.hid ((HK.out.grown hW1).add (f := .rd xd1 T1.n T1.g) hR1)
      clear hR1 hf1 hW1
      have zl := HK.out.lies 8 rfl
      have z0 := HK.out.cell 8 rfl
      have z1 := HK.out.cell 7 rfl
      have z2 := HK.out.cell 6 rfl
      have z3 := HK.out.cell 5 rfl
      have z4 := HK.out.cell 4 rfl
      have z5 := HK.out.cell 3 rfl
      have z6 := HK.out.cell 2 rfl
      have z7 := HK.out.cell 1 rfl
      go_wp2_with fail
      clear z0 z1 z2 z3 z4 z5 z6 z7 zl
      replace HK := Lib.hid ((HK.out.grown (Grown.alloc (Grown.refl V1) #[.int .i64 T1.R, .int .i64 T1.C, .int .i64 T1.F, .slice xd1 T1.n xc1] 24)).add (f := .ten V1.heap.size (.int .i64 T1.R) (.int .i64 T1.C) (.int .i64 T1.F) (.slice xd1 T1.n xc1)) (ten_new V1 _ _ _ _ _))
      generalize V1.alloc _ = U1 at HK ⊢
      generalize V1.heap.size = o1 at HK ⊢
      refine (rbrow_any R1 C1 F1 R2 C2 F2 d1 d2 n1 n2 c1 c2 g1 g2 _ l1 l2 (HK.out.rd 11 rfl) (HK.out.rd 10 rfl)).mono ?_
      rw [HT1.out, HX1.out]
      rintro e V2 ⟨xd2, xc2, rfl, hR2, hn2, hf2, hW2⟩
      replace HK := Lib.hid ((HK.out.grown hW2).add (f := .rd xd2 T1.n T1.g) hR2)
      clear hR2 hf2 hW2
      have zl := HK.out.lies 10 rfl
      have z0 := HK.out.cell 10 rfl
      have z1 := HK.out.cell 9 rfl
      have z2 := HK.out.cell 8 rfl
      have z3 := HK.out.cell 7 rfl
      have z4 := HK.out.cell 6 rfl
      have z5 := HK.out.cell 5 rfl
      have z6 := HK.out.cell 4 rfl
      have z7 := HK.out.cell 3 rfl
      go_wp2_with fail
      clear z0 z1 z2 z3 z4 z5 z6 z7 zl
      replace HK := Lib.hid ((HK.out.grown (Grown.alloc (Grown.refl V2) #[.int .i64 T1.R, .int .i64 T1.C, .int .i64 T1.F, .slice xd2 T1.n xc2] 24)).add (f := .ten V2.heap.size (.int .i64 T1.R) (.int .i64 T1.C) (.int .i64 T1.F) (.slice xd2 T1.n xc2)) (ten_new V2 _ _ _ _ _))
      generalize V2.alloc _ = U2 at HK ⊢
      generalize V2.heap.size = o2 at HK ⊢
      refine (ksums_any R1 C1 F1 d1 n1 c1 g1 _ l1 (HK.out.rd 13 rfl)).mono ?_
      rw [HT2.out, HX2.out]
      rintro e V3 ⟨xd3, xc3, rfl, hR3, hn3, hf3, hW3⟩
      replace HK := Lib.hid ((HK.out.grown hW3).add (f := .rd xd3 T2.n T2.g) hR3)
      clear hR3 hf3 hW3
      have zl := HK.out.lies 12 rfl
      have z0 := HK.out.cell 12 rfl
      have z1 := HK.out.cell 11 rfl
      have z2 := HK.out.cell 10 rfl
      have z3 := HK.out.cell 9 rfl
      have z4 := HK.out.cell 8 rfl
      have z5 := HK.out.cell 7 rfl
      have z6 := HK.out.cell 6 rfl
      have z7 := HK.out.cell 5 rfl
      go_wp2_with fail
      clear z0 z1 z2 z3 z4 z5 z6 z7 zl
      replace HK := Lib.hid ((HK.out.grown (Grown.alloc (Grown.refl V3) #[.int .i64 T2.R, .int .i64 T2.C, .int .i64 T2.F, .slice xd3 T2.n xc3] 24)).add (f := .ten V3.heap.size (.int .i64 T2.R) (.int .i64 T2.C) (.int .i64 T2.F) (.slice xd3 T2.n xc3)) (ten_new V3 _ _ _ _ _))
      generalize V3.alloc _ = U3 at HK ⊢
      generalize V3.heap.size = o3 at HK ⊢
      refine (rsums_any R1 C1 F1 d1 n1 c1 g1 _ l1 (HK.out.rd 15 rfl)).mono ?_
      rw [HT2.out, HX2.out]
      rintro e V4 ⟨xd4, xc4, rfl, hR4, hn4, hf4, hW4⟩
      replace HK := Lib.hid ((HK.out.grown hW4).add (f := .rd xd4 T2.n T2.g) hR4)
      clear hR4 hf4 hW4
      have zl := HK.out.lies 14 rfl
      have z0 := HK.out.cell 14 rfl
      have z1 := HK.out.cell 13 rfl
      have z2 := HK.out.cell 12 rfl
      have z3 := HK.out.cell 11 rfl
      have z4 := HK.out.cell 10 rfl
      have z5 := HK.out.cell 9 rfl
      have z6 := HK.out.cell 8 rfl
      have z7 := HK.out.cell 7 rfl
      go_wp2_with fail
      clear z0 z1 z2 z3 z4 z5 z6 z7 zl
      replace HK := Lib.hid ((HK.out.grown (Grown.alloc (Grown.refl V4) #[.int .i64 T2.R, .int .i64 T2.C, .int .i64 T2.F, .slice xd4 T2.n xc4] 24)).add (f := .ten V4.heap.size (.int .i64 T2.R) (.int .i64 T2.C) (.int .i64 T2.F) (.slice xd4 T2.n xc4)) (ten_new V4 _ _ _ _ _))
      generalize V4.alloc _ = U4 at HK ⊢
      generalize V4.heap.size = o4 at HK ⊢
      refine (kadd_any R1 C1 F1 R2 C2 F2 d1 d2 n1 n2 c1 c2 g1 g2 _ l1 l2 (HK.out.rd 17 rfl) (HK.out.rd 16 rfl)).mono ?_
      rw [HT3.out, HX3.out]
      rintro e V5 ⟨xd5, xc5, rfl, hR5, hn5, hf5, hW5⟩
      replace HK := Lib.hid ((HK.out.grown hW5).add (f := .rd xd5 T3.n T3.g) hR5)
      clear hR5 hf5 hW5
      have zl := HK.out.lies 16 rfl
      have z0 := HK.out.cell 16 rfl
      have z1 := HK.out.cell 15 rfl
      have z2 := HK.out.cell 14 rfl
      have z3 := HK.out.cell 13 rfl
      have z4 := HK.out.cell 12 rfl
      have z5 := HK.out.cell 11 rfl
      have z6 := HK.out.cell 10 rfl
      have z7 := HK.out.cell 9 rfl
      go_wp2_with fail
      clear z0 z1 z2 z3 z4 z5 z6 z7 zl
      replace HK := Lib.hid ((HK.out.grown (Grown.alloc (Grown.refl V5) #[.int .i64 T3.R, .int .i64 T3.C, .int .i64 T3.F, .slice xd5 T3.n xc5] 24)).add (f := .ten V5.heap.size (.int .i64 T3.R) (.int .i64 T3.C) (.int .i64 T3.F) (.slice xd5 T3.n xc5)) (ten_new V5 _ _ _ _ _))
      generalize V5.alloc _ = U5 at HK ⊢
      generalize V5.heap.size = o5 at HK ⊢
      refine (reach0_any R1 C1 F1 R2 C2 F2 d1 d2 n1 n2 c1 c2 g1 g2 _ l1 l2 (HK.out.rd 19 rfl) (HK.out.rd 18 rfl)).mono ?_
      rw [HT3.out, HX3.out]
      rintro e V6 ⟨xd6, xc6, rfl, hR6, hn6, hf6, hW6⟩
      replace HK := Lib.hid ((HK.out.grown hW6).add (f := .rd xd6 T3.n T3.g) hR6)
      clear hR6 hf6 hW6
      have zl := HK.out.lies 18 rfl
      have z0 := HK.out.cell 18 rfl
      have z1 := HK.out.cell 17 rfl
      have z2 := HK.out.cell 16 rfl
      have z3 := HK.out.cell 15 rfl
      have z4 := HK.out.cell 14 rfl
      have z5 := HK.out.cell 13 rfl
      have z6 := HK.out.cell 12 rfl
      have z7 := HK.out.cell 11 rfl
      go_wp2_with fail
      clear z0 z1 z2 z3 z4 z5 z6 z7 zl
      replace HK := Lib.hid ((HK.out.grown (Grown.alloc (Grown.refl V6) #[.int .i64 T3.R, .int .i64 T3.C, .int .i64 T3.F, .slice xd6 T3.n xc6] 24)).add (f := .ten V6.heap.size (.int .i64 T3.R) (.int .i64 T3.C) (.int .i64 T3.F) (.slice xd6 T3.n xc6)) (ten_new V6 _ _ _ _ _))
      generalize V6.alloc _ = U6 at HK ⊢
      generalize V6.heap.size = o6 at HK ⊢
      refine (kmul_any R1 C1 F1 R2 C2 F2 d1 d2 n1 n2 c1 c2 g1 g2 _ l1 l2 (HK.out.rd 21 rfl) (HK.out.rd 20 rfl)).mono ?_
      rw [HT4.out, HX4.out]
      rintro e V7 ⟨xd7, xc7, rfl, hR7, hn7, hf7, hW7⟩
      replace HK := Lib.hid ((HK.out.grown hW7).add (f := .rd xd7 T4.n T4.g) hR7)
      clear hR7 hf7 hW7
      have zl := HK.out.lies 20 rfl
      have z0 := HK.out.cell 20 rfl
      have z1 := HK.out.cell 19 rfl
      have z2 := HK.out.cell 18 rfl
      have z3 := HK.out.cell 17 rfl
      have z4 := HK.out.cell 16 rfl
      have z5 := HK.out.cell 15 rfl
      have z6 := HK.out.cell 14 rfl
      have z7 := HK.out.cell 13 rfl
      go_wp2_with fail
      clear z0 z1 z2 z3 z4 z5 z6 z7 zl
      replace HK := Lib.hid ((HK.out.grown (Grown.alloc (Grown.refl V7) #[.int .i64 T4.R, .int .i64 T4.C, .int .i64 T4.F, .slice xd7 T4.n xc7] 24)).add (f := .ten V7.heap.size (.int .i64 T4.R) (.int .i64 T4.C) (.int .i64 T4.F) (.slice xd7 T4.n xc7)) (ten_new V7 _ _ _ _ _))
      generalize V7.alloc _ = U7 at HK ⊢
      generalize V7.heap.size = o7 at HK ⊢
      refine (reach1_any R1 C1 F1 R2 C2 F2 d1 d2 n1 n2 c1 c2 g1 g2 _ l1 l2 (HK.out.rd 23 rfl) (HK.out.rd 22 rfl)).mono ?_
      rw [HT4.out, HX4.out]
      rintro e V8 ⟨xd8, xc8, rfl, hR8, hn8, hf8, hW8⟩
      replace HK := Lib.hid ((HK.out.grown hW8).add (f := .rd xd8 T4.n T4.g) hR8)
      clear hR8 hf8 hW8
      have zl := HK.out.lies 22 rfl
      have z0 := HK.out.cell 22 rfl
      have z1 := HK.out.cell 21 rfl
      have z2 := HK.out.cell 20 rfl
      have z3 := HK.out.cell 19 rfl
      have z4 := HK.out.cell 18 rfl
      have z5 := HK.out.cell 17 rfl
      have z6 := HK.out.cell 16 rfl
      have z7 := HK.out.cell 15 rfl
      go_wp2_with fail
      clear z0 z1 z2 z3 z4 z5 z6 z7 zl
      replace HK := Lib.hid ((HK.out.grown (Grown.alloc (Grown.refl V8) #[.int .i64 T4.R, .int .i64 T4.C, .int .i64 T4.F, .slice xd8 T4.n xc8] 24)).add (f := .ten V8.heap.size (.int .i64 T4.R) (.int .i64 T4.C) (.int .i64 T4.F) (.slice xd8 T4.n xc8)) (ten_new V8 _ _ _ _ _))
      generalize V8.alloc _ = U8 at HK ⊢
      generalize V8.heap.size = o8 at HK ⊢
      refine (kby_any R1 C1 F1 d1 n1 c1 g1 by_ _ l1 (HK.out.rd 25 rfl) y0 y1).mono ?_
      rw [HT5.out, HX5.out]
      rintro e V9 ⟨xd9, xc9, rfl, hR9, hn9, hf9, hW9⟩
      replace HK := Lib.hid ((HK.out.grown hW9).add (f := .rd xd9 T5.n T5.g) hR9)
      clear hR9 hf9 hW9
      have zl := HK.out.lies 24 rfl
      have z0 := HK.out.cell 24 rfl
      have z1 := HK.out.cell 23 rfl
      have z2 := HK.out.cell 22 rfl
      have z3 := HK.out.cell 21 rfl
      have z4 := HK.out.cell 20 rfl
      have z5 := HK.out.cell 19 rfl
      have z6 := HK.out.cell 18 rfl
      have z7 := HK.out.cell 17 rfl
      go_wp2_with fail
      clear z0 z1 z2 z3 z4 z5 z6 z7 zl
      replace HK := Lib.hid ((HK.out.grown (Grown.alloc (Grown.refl V9) #[.int .i64 T5.R, .int .i64 T5.C, .int .i64 T5.F, .slice xd9 T5.n xc9] 24)).add (f := .ten V9.heap.size (.int .i64 T5.R) (.int .i64 T5.C) (.int .i64 T5.F) (.slice xd9 T5.n xc9)) (ten_new V9 _ _ _ _ _))
      generalize V9.alloc _ = U9 at HK ⊢
      generalize V9.heap.size = o9 at HK ⊢
      refine (rby_any R1 C1 F1 d1 n1 c1 g1 by_ _ l1 (HK.out.rd 27 rfl) y0 y1).mono ?_
      rw [HT5.out, HX5.out]
      rintro e V10 ⟨xd10, xc10, rfl, hR10, hn10, hf10, hW10⟩
      replace HK := Lib.hid ((HK.out.grown hW10).add (f := .rd xd10 T5.n T5.g) hR10)
      clear hR10 hf10 hW10
      obtain ⟨p0, p1, p2, p3, p4, _, _, _, _⟩ := (HK.out.ten 17 rfl)
      obtain ⟨q0, q1, q2, q3, q4, _, _, _, _⟩ := (HK.out.ten 15 rfl)
      go_wp2_with fail
      clear p0 p1 p2 p3 p4 q0 q1 q2 q3 q4
      replace HK := Lib.hid ((HK.out.grown (Grown.alloc (Grown.refl V10) #[.int .i64 T5.R, .int .i64 T5.C, .int .i64 T5.F, .slice xd10 T5.n xc10] 24)).add (f := .ten V10.heap.size (.int .i64 T5.R) (.int .i64 T5.C) (.int .i64 T5.F) (.slice xd10 T5.n xc10)) (ten_new V10 _ _ _ _ _))
      generalize V10.alloc _ = U10 at HK ⊢
      generalize V10.heap.size = o10 at HK ⊢
      refine (htensor_any T1.R T1.C T1.F xd1 xd2 T1.n xc1 xc2 T1.g _ hn1 (HK.out.rd 19 rfl) (HK.out.rd 17 rfl)).mono ?_
      rintro e Y1 ⟨rfl, hY⟩
      replace HK := Lib.hid (HK.out.grown hY)
      clear hY
      obtain ⟨p0, p1, p2, p3, p4, _, _, _, _⟩ := (HK.out.ten 14 rfl)
      obtain ⟨q0, q1, q2, q3, q4, _, _, _, _⟩ := (HK.out.ten 12 rfl)
      go_wp2_with fail
      clear p0 p1 p2 p3 p4 q0 q1 q2 q3 q4
      refine (htensor_any T2.R T2.C T2.F xd3 xd4 T2.n xc3 xc4 T2.g _ hn3 (HK.out.rd 15 rfl) (HK.out.rd 13 rfl)).mono ?_
      rintro e Y2 ⟨rfl, hY⟩
      replace HK := Lib.hid (HK.out.grown hY)
      clear hY
      obtain ⟨p0, p1, p2, p3, p4, _, _, _, _⟩ := (HK.out.ten 10 rfl)
      obtain ⟨q0, q1, q2, q3, q4, _, _, _, _⟩ := (HK.out.ten 8 rfl)
      go_wp2_with fail
      clear p0 p1 p2 p3 p4 q0 q1 q2 q3 q4
      refine (htensor_any T3.R T3.C T3.F xd5 xd6 T3.n xc5 xc6 T3.g _ hn5 (HK.out.rd 11 rfl) (HK.out.rd 9 rfl)).mono ?_
      rintro e Y3 ⟨rfl, hY⟩
      replace HK := Lib.hid (HK.out.grown hY)
      clear hY
      obtain ⟨p0, p1, p2, p3, p4, _, _, _, _⟩ := (HK.out.ten 6 rfl)
      obtain ⟨q0, q1, q2, q3, q4, _, _, _, _⟩ := (HK.out.ten 4 rfl)
      go_wp2_with fail
      clear p0 p1 p2 p3 p4 q0 q1 q2 q3 q4
      refine (htensor_any T4.R T4.C T4.F xd7 xd8 T4.n xc7 xc8 T4.g _ hn7 (HK.out.rd 7 rfl) (HK.out.rd 5 rfl)).mono ?_
      rintro e Y4 ⟨rfl, hY⟩
      replace HK := Lib.hid (HK.out.grown hY)
      clear hY
      obtain ⟨p0, p1, p2, p3, p4, _, _, _, _⟩ := (HK.out.ten 2 rfl)
      obtain ⟨q0, q1, q2, q3, q4, _, _, _, _⟩ := (HK.out.ten 0 rfl)
      go_wp2_with fail
      clear p0 p1 p2 p3 p4 q0 q1 q2 q3 q4
      refine (htensor_any T5.R T5.C T5.F xd9 xd10 T5.n xc9 xc10 T5.g _ hn9 (HK.out.rd 3 rfl) (HK.out.rd 1 rfl)).mono ?_
      rintro e Y5 ⟨rfl, hY⟩
      replace HK := Lib.hid (HK.out.grown hY)
      clear hY
      go_wp2
      go_roundw
      case rel => exact ⟨I + 1, by omega, by go_num, Lib.hid (((Lot.nil _).add (f := .gr w) (HK.out.gr 31 rfl)).add (f := .pairs PB 4) (HK.out.pairs 30 rfl))⟩
      case measure => simp [intOf]; omega
    · obtain rfl : I = 4 := by omega
      have HG := Lib.hid (HL.out.gr 1 rfl)
      go_wp2
      go_ret
      exact ⟨rfl, HG.out⟩

set_option maxRecDepth 100000 in
set_option maxHeartbeats 4000000 in
theorem kparts_end (w : World) (aR aC aF bR bC bF : Int) (ad bd ld rd : Option Addr) (an ca bn cb ln lc rn rc : Nat) (m n f g by_ : Int)
    (h : lightB aR aC an = false ∨ (lightB aR aC an = true ∧ lightB bR bC bn = false) ∨ (lightB aR aC an = true ∧ lightB bR bC bn = true ∧ (30 : Int) < (ln : Int)) ∨ (lightB aR aC an = true ∧ lightB bR bC bn = true ∧ ¬ (30 : Int) < (ln : Int) ∧ (30 : Int) < (rn : Int))) :
    Calls Tryz.prog 3 #[.agg #[.int .i64 aR, .int .i64 aC, .int .i64 aF, .slice ad an ca], .agg #[.int .i64 bR, .int .i64 bC, .int .i64 bF, .slice bd bn cb], .int .u8 m, .int .u8 n, .int .u8 f, .int .u8 g, .slice ld ln lc, .slice rd rn rc, .int .u32 by_] w fun e w' => e = .returned (.bool true) ∧ Grown w w' := by
  have HL := Lib.hid ((((Lot.nil w).add (f := .gr w) (Grown.refl w)).grown (Grown.alloc (Grown.alloc (Grown.refl w) #[.int .i64 aR, .int .i64 aC, .int .i64 aF, .slice ad an ca] 24) #[.int .i64 bR, .int .i64 bC, .int .i64 bF, .slice bd bn cb] 24)).add (f := .ten w.heap.size (.int .i64 aR) (.int .i64 aC) (.int .i64 aF) (.slice ad an ca)) ((ten_new w _ _ _ _ _).grown (Grown.alloc (Grown.refl _) _ _))
    |>.add (f := .ten (w.heap.size + 1) (.int .i64 bR) (.int .i64 bC) (.int .i64 bF) (.slice bd bn cb)) (ten_new2 w _ _ _ _ _ _ _))
  rcases h with h1 | ⟨h1, h2⟩ | ⟨h1, h2, h3⟩ | ⟨h1, h2, h3, h4⟩
  · have HA := Lib.hid h1
    clear h1
    go_enter Tryz.func3, Tryz.ntmps3
    go_wp2_with fail
    generalize (w.alloc _).alloc _ = W0 at HL ⊢
    refine (known14_any _).mono ?_
    rintro e W1 ⟨rfl, hW1⟩
    replace HL := Lib.hid (HL.out.grown hW1)
    clear hW1
    obtain ⟨p0, p1, p2, p3, p4, _, _, _, _⟩ := HL.out.ten 1 rfl
    obtain ⟨q0, q1, q2, q3, q4, _, _, _, _⟩ := HL.out.ten 0 rfl
    go_wp2_with fail
    refine (hlight_any _ _ _ _ _ _ _).mono ?_
    rw [HA.out]
    rintro e W2 ⟨rfl, hW2⟩
    replace HL := Lib.hid (HL.out.grown hW2)
    clear hW2 p0 p1 p2 p3 p4 q0 q1 q2 q3 q4
    have HG := Lib.hid (HL.out.gr 2 rfl)
    go_wp2
    go_ret
    exact ⟨rfl, gr⟩
  · have HB := Lib.hid h2
    clear h2
    have HA := Lib.hid h1
    clear h1
    go_enter Tryz.func3, Tryz.ntmps3
    go_wp2_with fail
    generalize (w.alloc _).alloc _ = W0 at HL ⊢
    refine (known14_any _).mono ?_
    rintro e W1 ⟨rfl, hW1⟩
    replace HL := Lib.hid (HL.out.grown hW1)
    clear hW1
    obtain ⟨p0, p1, p2, p3, p4, _, _, _, _⟩ := HL.out.ten 1 rfl
    obtain ⟨q0, q1, q2, q3, q4, _, _, _, _⟩ := HL.out.ten 0 rfl
    go_wp2_with fail
    refine (hlight_any _ _ _ _ _ _ _).mono ?_
    rw [HA.out]
    rintro e W2 ⟨rfl, hW2⟩
    replace HL := Lib.hid (HL.out.grown hW2)
    clear hW2 p0 p1 p2 p3 p4 q0 q1 q2 q3 q4
    obtain ⟨q0, q1, q2, q3, q4, _, _, _, _⟩ := HL.out.ten 0 rfl
    go_wp2_with fail
    refine (hlight_any _ _ _ _ _ _ _).mono ?_
    rw [HB.out]
    rintro e W3 ⟨rfl, hW3⟩
    replace HL := Lib.hid (HL.out.grown hW3)
    clear hW3 q0 q1 q2 q3 q4
    have HG := Lib.hid (HL.out.gr 2 rfl)
    go_wp2
    go_ret
    exact ⟨rfl, gr⟩
  · have HB := Lib.hid h2
    clear h2
    have HA := Lib.hid h1
    clear h1
    go_enter Tryz.func3, Tryz.ntmps3
    go_wp2_with fail
    generalize (w.alloc _).alloc _ = W0 at HL ⊢
    refine (known14_any _).mono ?_
    rintro e W1 ⟨rfl, hW1⟩
    replace HL := Lib.hid (HL.out.grown hW1)
    clear hW1
    obtain ⟨p0, p1, p2, p3, p4, _, _, _, _⟩ := HL.out.ten 1 rfl
    obtain ⟨q0, q1, q2, q3, q4, _, _, _, _⟩ := HL.out.ten 0 rfl
    go_wp2_with fail
    refine (hlight_any _ _ _ _ _ _ _).mono ?_
    rw [HA.out]
    rintro e W2 ⟨rfl, hW2⟩
    replace HL := Lib.hid (HL.out.grown hW2)
    clear hW2 p0 p1 p2 p3 p4 q0 q1 q2 q3 q4
    obtain ⟨q0, q1, q2, q3, q4, _, _, _, _⟩ := HL.out.ten 0 rfl
    go_wp2_with fail
    refine (hlight_any _ _ _ _ _ _ _).mono ?_
    rw [HB.out]
    rintro e W3 ⟨rfl, hW3⟩
    replace HL := Lib.hid (HL.out.grown hW3)
    clear hW3 q0 q1 q2 q3 q4
    have HG := Lib.hid (HL.out.gr 2 rfl)
    go_wp2
    go_ret
    exact ⟨rfl, gr⟩
  · have HB := Lib.hid h2
    clear h2
    have HA := Lib.hid h1
    clear h1
    go_enter Tryz.func3, Tryz.ntmps3
    go_wp2_with fail
    generalize (w.alloc _).alloc _ = W0 at HL ⊢
    refine (known14_any _).mono ?_
    rintro e W1 ⟨rfl, hW1⟩
    replace HL := Lib.hid (HL.out.grown hW1)
    clear hW1
    obtain ⟨p0, p1, p2, p3, p4, _, _, _, _⟩ := HL.out.ten 1 rfl
    obtain ⟨q0, q1, q2, q3, q4, _, _, _, _⟩ := HL.out.ten 0 rfl
    go_wp2_with fail
    refine (hlight_any _ _ _ _ _ _ _).mono ?_
    rw [HA.out]
    rintro e W2 ⟨rfl, hW2⟩
    replace HL := Lib.hid (HL.out.grown hW2)
    clear hW2 p0 p1 p2 p3 p4 q0 q1 q2 q3 q4
    obtain ⟨q0, q1, q2, q3, q4, _, _, _, _⟩ := HL.out.ten 0 rfl
    go_wp2_with fail
    refine (hlight_any _ _ _ _ _ _ _).mono ?_
    rw [HB.out]
    rintro e W3 ⟨rfl, hW3⟩
    replace HL := Lib.hid (HL.out.grown hW3)
    clear hW3 q0 q1 q2 q3 q4
    have HG := Lib.hid (HL.out.gr 2 rfl)
    go_wp2
    go_ret
    exact ⟨rfl, gr⟩

theorem kparts_walk (W : World) (v0 : Value) (T0 : TenIn v0 W) (v1 : Value) (T1 : TenIn v1 W) (m : Int) (wm : (Lit.int .u8 m).wf = true) (n : Int) (wn : (Lit.int .u8 n).wf = true) (f : Int) (wf : (Lit.int .u8 f).wf = true) (g : Int) (wg : (Lit.int .u8 g).wf = true) (l : Value) (Ll : ListIn l W) (r : Value) (Lr : ListIn r W) (by_ : Int) (wy : (Lit.int .u32 by_).wf = true) :
    Calls Tryz.prog 3 #[v0, v1, .int .u8 m, .int .u8 n, .int .u8 f, .int .u8 g, l, r, .int .u32 by_] W fun e w' => e = .returned (.bool true) ∧ Grown W w' := by
  obtain ⟨aR, aC, aF, ad, an, ca, ga, rfl, _, _, _, _, a2, a3, a4⟩ := T0
  obtain ⟨bR, bC, bF, bd, bn, cb, gb, rfl, _, _, _, _, b2, b3, b4⟩ := T1
  obtain ⟨ld, ln, lc, lg, rfl, _, _, _, l4⟩ := Ll
  obtain ⟨rd, rn, rc, rg, rfl, _, _, _, r4⟩ := Lr
  obtain ⟨m0, m1⟩ := bounds_u8 wm
  obtain ⟨n0, n1⟩ := bounds_u8 wn
  obtain ⟨f0, f1⟩ := bounds_u8 wf
  obtain ⟨g0, g1⟩ := bounds_u8 wg
  obtain ⟨y0, y1⟩ := bounds_u32 wy
  by_cases h : lightB aR aC an = true ∧ lightB bR bC bn = true ∧ ln ≤ 30 ∧ rn ≤ 30
  · exact kparts_go W aR aC aF bR bC bF m n f g by_ ad bd ld rd an ca bn cb ln lc rn rc ga gb lg rg h.1 h.2.1 h.2.2.1 h.2.2.2 a4 b4 l4 r4 ⟨a2, a3⟩ ⟨b2, b3⟩ m0 m1 n0 n1 f0 f1 g0 g1 y0 y1
  · exact kparts_end W aR aC aF bR bC bF ad bd ld rd an ca bn cb ln lc rn rc m n f g by_ (light_cases h)
end Go.Proofs.YtmipefapjehkaaaGreat
