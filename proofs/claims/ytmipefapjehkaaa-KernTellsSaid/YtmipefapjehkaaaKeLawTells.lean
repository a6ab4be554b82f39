/- The walk of KernTells. -/
import Derived.Test.YtmipefapjehkaaaFrame
import Derived.Test.YtmipefapjehkaaaSeatT
import Derived.Test.YtmipefapjehkaaaKern
import Derived.Deep.RegionHeld3
namespace Go.Proofs.Ytmipefapjehkaaa
open Go Go.RowKit
set_option linter.unusedVariables false
set_option linter.unusedSimpArgs false

set_option maxRecDepth 100000 in
set_option maxHeartbeats 8000000 in
theorem ktells_go (w : World) (aR aC aF bR bC bF m k n f g : Int) (ad bd ld rd : Option Addr) (an ca bn cb ln lc rn rc : Nat) (ga gb lg rg : Nat → Int) (mild : Bool)
    (ha : lightB aR aC an = true) (hb : lightB bR bC bn = true) (hl : ln ≤ 30) (hr : rn ≤ 30) (Ra : Reads ad an ga w) (Rb : Reads bd bn gb w) (Rl : Reads ld ln lg w) (Rr : Reads rd rn rg w) (Sa : Sound ad an ca) (Sb : Sound bd bn cb)
    (m0 : 0 ≤ m) (m1 : m ≤ 255) (k0 : 0 ≤ k) (k1 : k ≤ 255) (n0 : 0 ≤ n) (n1 : n ≤ 255) (f0 : 0 ≤ f) (f1 : f ≤ 255) (g0 : 0 ≤ g) (g1 : g ≤ 255) :
    Calls Try.prog 3 #[.agg #[.int .i64 aR, .int .i64 aC, .int .i64 aF, .slice ad an ca], .agg #[.int .i64 bR, .int .i64 bC, .int .i64 bF, .slice bd bn cb], .int .u8 m, .int .u8 k, .int .u8 n, .int .u8 f, .int .u8 g, .slice ld ln lc, .slice rd rn rc, .bool mild] w fun e w' => e = .returned (.bool true) ∧ Grown w w' := by
  have HA := Lib.hid ha
  have HB := Lib.hid hb
  have t1 : ¬ (30 : Int) < (ln : Int) := by omega
  have t2 : ¬ (30 : Int) < (rn : Int) := by omega
  have HL := Lib.hid ((((((((Lot.nil w).add (f := .rd rd rn rg) Rr).add (f := .rd ld ln lg) Rl).add (f := .rd bd bn gb) Rb).add (f := .rd ad an ga) Ra).add (f := .gr w) (Grown.refl w)).grown (Grown.alloc (Grown.alloc (Grown.refl w) #[.int .i64 aR, .int .i64 aC, .int .i64 aF, .slice ad an ca] 24) #[.int .i64 bR, .int .i64 bC, .int .i64 bF, .slice bd bn cb] 24)).add (f := .ten w.heap.size (.int .i64 aR) (.int .i64 aC) (.int .i64 aF) (.slice ad an ca)) ((ten_new w _ _ _ _ _).grown (Grown.alloc (Grown.refl _) _ _))
    |>.add (f := .ten (w.heap.size + 1) (.int .i64 bR) (.int .i64 bC) (.int .i64 bF) (.slice bd bn cb)) (ten_new2 w _ _ _ _ _ _ _))
  obtain ⟨x, hx⟩ : ∃ x : Nat, m % 5 = (x : Int) := ⟨(m % 5).toNat, by omega⟩
  obtain ⟨y, hy⟩ : ∃ y : Nat, k % 5 = (y : Int) := ⟨(k % 5).toNat, by omega⟩
  obtain ⟨z, hz⟩ : ∃ z : Nat, n % 5 = (z : Int) := ⟨(n % 5).toNat, by omega⟩
  obtain ⟨F, hF⟩ : ∃ F, f.tmod 3 = F := ⟨_, rfl⟩
  obtain ⟨G, hG⟩ : ∃ G, g.tmod 3 = G := ⟨_, rfl⟩
  have hwF : IntKind.i64.wrap F = F := by rw [← hF, IntKind.wrap_i64, Int.tmod_eq_emod_of_nonneg f0]; omega
  have hwG : IntKind.i64.wrap G = G := by rw [← hG, IntKind.wrap_i64, Int.tmod_eq_emod_of_nonneg g0]; omega
  have lx : x ≤ 4 := by omega
  have ly : y ≤ 4 := by omega
  have lz : z ≤ 4 := by omega
  have mxy : (x : Int) * (y : Int) = ((x * y : Nat) : Int) := (Int.natCast_mul x y).symm
  have myz : (y : Int) * (z : Int) = ((y * z : Nat) : Int) := (Int.natCast_mul y z).symm
  have mzy : (z : Int) * (y : Int) = ((z * y : Nat) : Int) := (Int.natCast_mul z y).symm
  have myx : (y : Int) * (x : Int) = ((y * x : Nat) : Int) := (Int.natCast_mul y x).symm
  obtain ⟨M1, hM1⟩ : ∃ M1, x * y = M1 := ⟨_, rfl⟩
  obtain ⟨M2, hM2⟩ : ∃ M2, y * z = M2 := ⟨_, rfl⟩
  obtain ⟨M3, hM3⟩ : ∃ M3, z * y = M3 := ⟨_, rfl⟩
  obtain ⟨M4, hM4⟩ : ∃ M4, y * x = M4 := ⟨_, rfl⟩
  rw [hM1] at mxy
  rw [hM2] at myz
  rw [hM3] at mzy
  rw [hM4] at myx
  have X1 := Lib.hid mxy
  have X2 := Lib.hid myz
  have X3 := Lib.hid mzy
  have X4 := Lib.hid myx
  have B1 : Hid (M1 ≤ 16 ∧ M2 ≤ 16 ∧ M3 ≤ 16 ∧ M4 ≤ 16) := Lib.hid ⟨by have := Nat.mul_le_mul lx ly; omega, by have := Nat.mul_le_mul ly lz; omega, by have := Nat.mul_le_mul lz ly; omega, by have := Nat.mul_le_mul ly lx; omega⟩
  clear mxy myz mzy myx hM1 hM2 hM3 hM4
  have B0 : Hid (an ≤ 60 ∧ bn ≤ 60) := Lib.hid (by unfold lightB at ha hb; simp only [Bool.and_eq_true, decide_eq_true_eq] at ha hb; omega)
  clear ha hb Ra Rb Rl Rr
  go_enter Try.func3, Try.ntmps3
  go_wp2_with fail
  generalize (w.alloc _).alloc _ = W0 at HL ⊢
  refine (known14_any _).mono ?_
  rintro e W1 ⟨rfl, hW1⟩
  replace HL := Lib.hid (HL.out.grown hW1)
  clear hW1
  obtain ⟨p0, p1, p2, p3, p4, _, _, _, _⟩ := HL.out.ten 1 rfl
  obtain ⟨q0, q1, q2, q3, q4, _, _, _, _⟩ := HL.out.ten 0 rfl
  go_wp2_with fail
  refine (hlight_any _ _ _ _ _ _ _).mono ?_
  rw [HA.out]
  rintro e W2 ⟨rfl, hW2⟩
  replace HL := Lib.hid (HL.out.grown hW2)
  clear hW2 p0 p1 p2 p3 p4 q0 q1 q2 q3 q4
  obtain ⟨p0, p1, p2, p3, p4, _, _, _, _⟩ := HL.out.ten 1 rfl
  obtain ⟨q0, q1, q2, q3, q4, _, _, _, _⟩ := HL.out.ten 0 rfl
  go_wp2_with fail
  refine (hlight_any _ _ _ _ _ _ _).mono ?_
  rw [HB.out]
  rintro e W3 ⟨rfl, hW3⟩
  replace HL := Lib.hid (HL.out.grown hW3)
  clear hW3 p0 p1 p2 p3 p4 q0 q1 q2 q3 q4
  obtain ⟨p0, p1, p2, p3, p4, _, _, _, _⟩ := HL.out.ten 1 rfl
  obtain ⟨q0, q1, q2, q3, q4, _, _, _, _⟩ := HL.out.ten 0 rfl
  go_wp2_with fail
  replace HL := Lib.hid (HL.out.grown (show Grown W3 W3.drew from Grown.drew (Grown.refl _)))
  have HN := Lib.hid (Lot.nil W3.drew)
  go_region_held3 (fun w' => w'.cell? ⟨w.heap.size, 0, none⟩ = some (.int .i64 aR) ∧ w'.cell? ⟨w.heap.size, 1, none⟩ = some (.int .i64 aC) ∧ w'.cell? ⟨w.heap.size, 2, none⟩ = some (.int .i64 aF) ∧ w'.cell? ⟨w.heap.size, 3, none⟩ = some (.slice ad an ca) ∧ w'.cell? ⟨w.heap.size + 1, 0, none⟩ = some (.int .i64 bR) ∧ w'.cell? ⟨w.heap.size + 1, 1, none⟩ = some (.int .i64 bC) ∧ w'.cell? ⟨w.heap.size + 1, 2, none⟩ = some (.int .i64 bF) ∧ w'.cell? ⟨w.heap.size + 1, 3, none⟩ = some (.slice bd bn cb)) (go_keep) (first
    | (go_at_call 10; (with_reducible refine (seatt_any x y F M1 ld ln lc lg mild _ (by omega) (HL.out.rd 5 rfl) (by omega) (by omega) (by omega) (by omega) X1.out).mono ?_); rintro e W4 ⟨ad1, c1, G1, rfl, hR1, hf1, hW4, hm1, hs1⟩; replace HL := Lib.hid (HL.out.grown hW4); replace HN := Lib.hid (((HN.out.grown hW4).add (f := .rd ad1 M1 G1) hR1).add (f := .any (Sound ad1 M1 c1)) hs1); clear hR1 hf1 hm1 hs1 hW4 p0 p1 p2 p3 p4 q0 q1 q2 q3 q4; obtain ⟨p0, p1, p2, p3, p4, _, _, _, _⟩ := HL.out.ten 1 rfl; obtain ⟨q0, q1, q2, q3, q4, _, _, _, _⟩ := HL.out.ten 0 rfl)
    | (go_at_call 10; (with_reducible refine (seatt_any y z G M2 rd rn rc rg mild _ (by omega) (HL.out.rd 6 rfl) (by omega) (by omega) (by omega) (by omega) X2.out).mono ?_); rintro e W4 ⟨ad1, c1, G1, rfl, hR1, hf1, hW4, hm1, hs1⟩; replace HL := Lib.hid (HL.out.grown hW4); replace HN := Lib.hid (((HN.out.grown hW4).add (f := .rd ad1 M2 G1) hR1).add (f := .any (Sound ad1 M2 c1)) hs1); clear hR1 hf1 hm1 hs1 hW4 p0 p1 p2 p3 p4 q0 q1 q2 q3 q4; obtain ⟨p0, p1, p2, p3, p4, _, _, _, _⟩ := HL.out.ten 1 rfl; obtain ⟨q0, q1, q2, q3, q4, _, _, _, _⟩ := HL.out.ten 0 rfl)
    | (go_at_call 10; (with_reducible refine (seatt_any z y G M3 rd rn rc rg mild _ (by omega) (HL.out.rd 6 rfl) (by omega) (by omega) (by omega) (by omega) X3.out).mono ?_); rintro e W4 ⟨ad1, c1, G1, rfl, hR1, hf1, hW4, hm1, hs1⟩; replace HL := Lib.hid (HL.out.grown hW4); replace HN := Lib.hid (((HN.out.grown hW4).add (f := .rd ad1 M3 G1) hR1).add (f := .any (Sound ad1 M3 c1)) hs1); clear hR1 hf1 hm1 hs1 hW4 p0 p1 p2 p3 p4 q0 q1 q2 q3 q4; obtain ⟨p0, p1, p2, p3, p4, _, _, _, _⟩ := HL.out.ten 1 rfl; obtain ⟨q0, q1, q2, q3, q4, _, _, _, _⟩ := HL.out.ten 0 rfl)
    | (go_at_call 10; (with_reducible refine (seatt_any y x F M4 ld ln lc lg mild _ (by omega) (HL.out.rd 5 rfl) (by omega) (by omega) (by omega) (by omega) X4.out).mono ?_); rintro e W4 ⟨ad1, c1, G1, rfl, hR1, hf1, hW4, hm1, hs1⟩; replace HL := Lib.hid (HL.out.grown hW4); replace HN := Lib.hid (((HN.out.grown hW4).add (f := .rd ad1 M4 G1) hR1).add (f := .any (Sound ad1 M4 c1)) hs1); clear hR1 hf1 hm1 hs1 hW4 p0 p1 p2 p3 p4 q0 q1 q2 q3 q4; obtain ⟨p0, p1, p2, p3, p4, _, _, _, _⟩ := HL.out.ten 1 rfl; obtain ⟨q0, q1, q2, q3, q4, _, _, _, _⟩ := HL.out.ten 0 rfl))
  have HP : Hid (PairsAt W4.heap.size 4 (W4.alloc (.cells #[.int .i64 aR, .int .i64 aC, .int .i64 aF, .slice ad an ca, .int .i64 bR, .int .i64 bC, .int .i64 bF, .slice bd bn cb,
      .int .i64 x, .int .i64 y, .int .i64 F, .slice _ M1 _, .int .i64 y, .int .i64 z, .int .i64 G, .slice _ M2 _, .int .i64 x, .int .i64 y, .int .i64 F, .slice _ M1 _, .int .i64 z, .int .i64 y, .int .i64 G, .slice _ M3 _, .int .i64 y, .int .i64 x, .int .i64 F, .slice _ M4 _, .int .i64 y, .int .i64 z, .int .i64 G, .slice _ M2 _] 27))) := Lib.hid fun I hI => by
    obtain ⟨u1, u2, u3, u4⟩ := B1.out
    obtain ⟨u5, u6⟩ := B0.out
    match I, hI with
    | 0, _ => exact ⟨TenOk.new rfl rfl rfl rfl (by omega) (HL.out.rd 3 rfl) Sa, TenOk.new rfl rfl rfl rfl (by omega) (HL.out.rd 4 rfl) Sb⟩
    | 1, _ => exact ⟨TenOk.new rfl rfl rfl rfl (by omega) (HN.out.rd 11 rfl) (HN.out.any 10 rfl), TenOk.new rfl rfl rfl rfl (by omega) (HN.out.rd 9 rfl) (HN.out.any 8 rfl)⟩
    | 2, _ => exact ⟨TenOk.new rfl rfl rfl rfl (by omega) (HN.out.rd 7 rfl) (HN.out.any 6 rfl), TenOk.new rfl rfl rfl rfl (by omega) (HN.out.rd 5 rfl) (HN.out.any 4 rfl)⟩
    | 3, _ => exact ⟨TenOk.new rfl rfl rfl rfl (by omega) (HN.out.rd 3 rfl) (HN.out.any 2 rfl), TenOk.new rfl rfl rfl rfl (by omega) (HN.out.rd 1 rfl) (HN.out.any 0 rfl)⟩
  have HM := Lib.hid (((Lot.nil W4).add (f := .gr w) (HL.out.gr 2 rfl)).grown (Grown.alloc (Grown.refl W4) _ 27) |>.add (f := .pairs W4.heap.size 4) HP.out)
  clear HP HL HN p0 p1 p2 p3 p4 q0 q1 q2 q3 q4
  generalize W4.alloc _ = W5 at HM ⊢
  generalize W4.heap.size = PB at HM ⊢
  go_wp2_with fail
  go_loopw [123] (fun i wr => ∃ I : Nat, I ≤ 4 ∧ i = .int .i64 I ∧ Hid (Lot [.pairs PB 4, .gr w] wr)) (fun i _ => (4 - intOf i).toNat)
  case atStart => exact ⟨0, by omega, rfl, HM⟩
  case round =>
    rename World => wr
    clear HM
    obtain ⟨I, hI, rfl, HL⟩ := hrel
    by_cases hI4 : I < 4
    · obtain ⟨⟨R1, C1, F1, d1, n1, c1, g1, z0, z1, z2, z3, z4, l1, rd1, s1⟩, ⟨R2, C2, F2, d2, n2, c2, g2, z5, z6, z7, z8, z9, l2, rd2, s2⟩⟩ := (HL.out.pairs 0 rfl) I hI4
      have S1 := Lib.hid s1
      have S2 := Lib.hid s2
      have HK := Lib.hid (((((Lot.nil wr).add (f := .gr w) (HL.out.gr 1 rfl)).add (f := .pairs PB 4) (HL.out.pairs 0 rfl)).add (f := .rd d1 n1 g1) rd1).add (f := .rd d2 n2 g2) rd2)
      clear rd1 rd2 s1 s2 HL
      go_wp2_with fail
      replace HK := Lib.hid (((((((((HK.out.grown (Grown.alloc (Grown.refl wr) #[.int .i64 R1, .int .i64 C1, .int .i64 F1, .slice d1 n1 c1, .int .i64 R2, .int .i64 C2, .int .i64 F2, .slice d2 n2 c2] 27)).add (f := .cell wr.heap.size 0 (.int .i64 R1)) (cell_new rfl)).add (f := .cell wr.heap.size 1 (.int .i64 C1)) (cell_new rfl)).add (f := .cell wr.heap.size 2 (.int .i64 F1)) (cell_new rfl)).add (f := .cell wr.heap.size 3 (.slice d1 n1 c1)) (cell_new rfl)).add (f := .cell wr.heap.size 4 (.int .i64 R2)) (cell_new rfl)).add (f := .cell wr.heap.size 5 (.int .i64 C2)) (cell_new rfl)).add (f := .cell wr.heap.size 6 (.int .i64 F2)) (cell_new rfl)).add (f := .cell wr.heap.size 7 (.slice d2 n2 c2)) (cell_new rfl))
      clear z0 z1 z2 z3 z4 z5 z6 z7 z8 z9
      generalize wr.alloc _ = V0 at HK ⊢
      generalize wr.heap.size = qb at HK ⊢
      obtain ⟨T1, hT1⟩ : ∃ T, prodT ⟨R1, C1, F1, n1, g1⟩ ⟨R2, C2, F2, n2, g2⟩ false false = T := ⟨_, rfl⟩
      obtain ⟨X1, hX1⟩ : ∃ X, prodX ⟨R1, C1, F1, n1, g1⟩ ⟨R2, C2, F2, n2, g2⟩ false false = X := ⟨_, rfl⟩
      have HT1 := Lib.hid hT1
      have HX1 := Lib.hid hX1
      clear hT1 hX1
      obtain ⟨T2, hT2⟩ : ∃ T, prodT ⟨R1, C1, F1, n1, g1⟩ ⟨R2, C2, F2, n2, g2⟩ false true = T := ⟨_, rfl⟩
      obtain ⟨X2, hX2⟩ : ∃ X, prodX ⟨R1, C1, F1, n1, g1⟩ ⟨R2, C2, F2, n2, g2⟩ false true = X := ⟨_, rfl⟩
      have HT2 := Lib.hid hT2
      have HX2 := Lib.hid hX2
      clear hT2 hX2
      obtain ⟨T3, hT3⟩ : ∃ T, prodT ⟨R1, C1, F1, n1, g1⟩ ⟨R2, C2, F2, n2, g2⟩ true false = T := ⟨_, rfl⟩
      obtain ⟨X3, hX3⟩ : ∃ X, prodX ⟨R1, C1, F1, n1, g1⟩ ⟨R2, C2, F2, n2, g2⟩ true false = X := ⟨_, rfl⟩
      have HT3 := Lib.hid hT3
      have HX3 := Lib.hid hX3
      clear hT3 hX3
      refine (kplain_any R1 C1 F1 R2 C2 F2 d1 d2 n1 n2 c1 c2 g1 g2 _ l1 l2 (HK.out.rd 9 rfl) (HK.out.rd 8 rfl)).mono ?_
      rw [HT1.out, HX1.out]
      rintro e V1 ⟨xd1, xc1, rfl, hR1, hn1, hf1, hW1⟩
      replace HK := Lib.hid ((HK.out.grown hW1).add (f := .rd xd1 T1.n T1.g) hR1)
      clear hR1 hf1 hW1
      have zl := HK.out.lies 8 rfl
      have z0 := HK.out.cell 8 rfl
      have z1 := HK.out.cell 7 rfl
      have z2 := HK.out.cell 6 rfl
      have z3 := HK.out.cell 5 rfl
      have z4 := HK.out.cell 4 rfl
      have z5 := HK.out.cell 3 rfl
      have z6 := HK.out.cell 2 rfl
      have z7 := HK.out.cell 1 rfl
      go_wp2_with fail
      clear z0 z1 z2 z3 z4 z5 z6 z7 zl
      replace HK := Lib.hid ((HK.out.grown (Grown.alloc (Grown.refl V1) #[.int .i64 T1.R, .int .i64 T1.C, .int .i64 T1.F, .slice xd1 T1.n xc1] 24)).add (f := .ten V1.heap.size (.int .i64 T1.R) (.int .i64 T1.C) (.int .i64 T1.F) (.slice xd1 T1.n xc1)) (ten_new V1 _ _ _ _ _))
      generalize V1.alloc _ = U1 at HK ⊢
      generalize V1.heap.size = o1 at HK ⊢
      refine (rplain_any R1 C1 F1 R2 C2 F2 d1 d2 n1 n2 c1 c2 g1 g2 _ l1 l2 (HK.out.rd 11 rfl) (HK.out.rd 10 rfl)).mono ?_
      rw [HT1.out, HX1.out]
      rintro e V2 ⟨xd2, xc2, rfl, hR2, hn2, hf2, hW2⟩
      replace HK := Lib.hid ((HK.out.grown hW2).add (f := .rd xd2 T1.n T1.g) hR2)
      clear hR2 hf2 hW2
      have zl := HK.out.lies 10 rfl
      have z0 := HK.out.cell 10 rfl
      have z1 := HK.out.cell 9 rfl
      have z2 := HK.out.cell 8 rfl
      have z3 := HK.out.cell 7 rfl
      have z4 := HK.out.cell 6 rfl
      have z5 := HK.out.cell 5 rfl
      have z6 := HK.out.cell 4 rfl
      have z7 := HK.out.cell 3 rfl
      go_wp2_with fail
      clear z0 z1 z2 z3 z4 z5 z6 z7 zl
      replace HK := Lib.hid ((HK.out.grown (Grown.alloc (Grown.refl V2) #[.int .i64 T1.R, .int .i64 T1.C, .int .i64 T1.F, .slice xd2 T1.n xc2] 24)).add (f := .ten V2.heap.size (.int .i64 T1.R) (.int .i64 T1.C) (.int .i64 T1.F) (.slice xd2 T1.n xc2)) (ten_new V2 _ _ _ _ _))
      generalize V2.alloc _ = U2 at HK ⊢
      generalize V2.heap.size = o2 at HK ⊢
      refine (krows_any R1 C1 F1 R2 C2 F2 d1 d2 n1 n2 c1 c2 g1 g2 _ l1 l2 (HK.out.rd 13 rfl) (HK.out.rd 12 rfl)).mono ?_
      rw [HT2.out, HX2.out]
      rintro e V3 ⟨xd3, xc3, rfl, hR3, hn3, hf3, hW3⟩
      replace HK := Lib.hid ((HK.out.grown hW3).add (f := .rd xd3 T2.n T2.g) hR3)
      clear hR3 hf3 hW3
      have zl := HK.out.lies 12 rfl
      have z0 := HK.out.cell 12 rfl
      have z1 := HK.out.cell 11 rfl
      have z2 := HK.out.cell 10 rfl
      have z3 := HK.out.cell 9 rfl
      have z4 := HK.out.cell 8 rfl
      have z5 := HK.out.cell 7 rfl
      have z6 := HK.out.cell 6 rfl
      have z7 := HK.out.cell 5 rfl
      go_wp2_with fail
      clear z0 z1 z2 z3 z4 z5 z6 z7 zl
      replace HK := Lib.hid ((HK.out.grown (Grown.alloc (Grown.refl V3) #[.int .i64 T2.R, .int .i64 T2.C, .int .i64 T2.F, .slice xd3 T2.n xc3] 24)).add (f := .ten V3.heap.size (.int .i64 T2.R) (.int .i64 T2.C) (.int .i64 T2.F) (.slice xd3 T2.n xc3)) (ten_new V3 _ _ _ _ _))
      generalize V3.alloc _ = U3 at HK ⊢
      generalize V3.heap.size = o3 at HK ⊢
      refine (rrows_any R1 C1 F1 R2 C2 F2 d1 d2 n1 n2 c1 c2 g1 g2 _ l1 l2 (HK.out.rd 15 rfl) (HK.out.rd 14 rfl)).mono ?_
      rw [HT2.out, HX2.out]
      rintro e V4 ⟨xd4, xc4, rfl, hR4, hn4, hf4, hW4⟩
      replace HK := Lib.hid ((HK.out.grown hW4).add (f := .rd xd4 T2.n T2.g) hR4)
      clear hR4 hf4 hW4
      have zl := HK.out.lies 14 rfl
      have z0 := HK.out.cell 14 rfl
      have z1 := HK.out.cell 13 rfl
      have z2 := HK.out.cell 12 rfl
      have z3 := HK.out.cell 11 rfl
      have z4 := HK.out.cell 10 rfl
      have z5 := HK.out.cell 9 rfl
      have z6 := HK.out.cell 8 rfl
      have z7 := HK.out.cell 7 rfl
      go_wp2_with fail
      clear z0 z1 z2 z3 z4 z5 z6 z7 zl
      replace HK := Lib.hid ((HK.out.grown (Grown.alloc (Grown.refl V4) #[.int .i64 T2.R, .int .i64 T2.C, .int .i64 T2.F, .slice xd4 T2.n xc4] 24)).add (f := .ten V4.heap.size (.int .i64 T2.R) (.int .i64 T2.C) (.int .i64 T2.F) (.slice xd4 T2.n xc4)) (ten_new V4 _ _ _ _ _))
      generalize V4.alloc _ = U4 at HK ⊢
      generalize V4.heap.size = o4 at HK ⊢
      refine (kcols_any R1 C1 F1 R2 C2 F2 d1 d2 n1 n2 c1 c2 g1 g2 _ l1 l2 (HK.out.rd 17 rfl) (HK.out.rd 16 rfl)).mono ?_
      rw [HT3.out, HX3.out]
      rintro e V5 ⟨xd5, xc5, rfl, hR5, hn5, hf5, hW5⟩
      replace HK := Lib.hid ((HK.out.grown hW5).add (f := .rd xd5 T3.n T3.g) hR5)
      clear hR5 hf5 hW5
      have zl := HK.out.lies 16 rfl
      have z0 := HK.out.cell 16 rfl
      have z1 := HK.out.cell 15 rfl
      have z2 := HK.out.cell 14 rfl
      have z3 := HK.out.cell 13 rfl
      have z4 := HK.out.cell 12 rfl
      have z5 := HK.out.cell 11 rfl
      have z6 := HK.out.cell 10 rfl
      have z7 := HK.out.cell 9 rfl
      go_wp2_with fail
      clear z0 z1 z2 z3 z4 z5 z6 z7 zl
      replace HK := Lib.hid ((HK.out.grown (Grown.alloc (Grown.refl V5) #[.int .i64 T3.R, .int .i64 T3.C, .int .i64 T3.F, .slice xd5 T3.n xc5] 24)).add (f := .ten V5.heap.size (.int .i64 T3.R) (.int .i64 T3.C) (.int .i64 T3.F) (.slice xd5 T3.n xc5)) (ten_new V5 _ _ _ _ _))
      generalize V5.alloc _ = U5 at HK ⊢
      generalize V5.heap.size = o5 at HK ⊢
      refine (rcols_any R1 C1 F1 R2 C2 F2 d1 d2 n1 n2 c1 c2 g1 g2 _ l1 l2 (HK.out.rd 19 rfl) (HK.out.rd 18 rfl)).mono ?_
      rw [HT3.out, HX3.out]
      rintro e V6 ⟨xd6, xc6, rfl, hR6, hn6, hf6, hW6⟩
      replace HK := Lib.hid ((HK.out.grown hW6).add (f := .rd xd6 T3.n T3.g) hR6)
      clear hR6 hf6 hW6
      obtain ⟨p0, p1, p2, p3, p4, _, _, _, _⟩ := HK.out.ten 9 rfl
      obtain ⟨q0, q1, q2, q3, q4, _, _, _, _⟩ := HK.out.ten 7 rfl
      go_wp2_with fail
      clear p0 p1 p2 p3 p4 q0 q1 q2 q3 q4
      replace HK := Lib.hid ((HK.out.grown (Grown.alloc (Grown.refl V6) #[.int .i64 T3.R, .int .i64 T3.C, .int .i64 T3.F, .slice xd6 T3.n xc6] 24)).add (f := .ten V6.heap.size (.int .i64 T3.R) (.int .i64 T3.C) (.int .i64 T3.F) (.slice xd6 T3.n xc6)) (ten_new V6 _ _ _ _ _))
      generalize V6.alloc _ = U6 at HK ⊢
      generalize V6.heap.size = o6 at HK ⊢
      refine (htensor_any T1.R T1.C T1.F xd1 xd2 T1.n xc1 xc2 T1.g _ hn1 (HK.out.rd 11 rfl) (HK.out.rd 9 rfl)).mono ?_
      rintro e Y1 ⟨rfl, hY⟩
      replace HK := Lib.hid (HK.out.grown hY)
      clear hY
      obtain ⟨p0, p1, p2, p3, p4, _, _, _, _⟩ := HK.out.ten 6 rfl
      obtain ⟨q0, q1, q2, q3, q4, _, _, _, _⟩ := HK.out.ten 4 rfl
      go_wp2_with fail
      clear p0 p1 p2 p3 p4 q0 q1 q2 q3 q4
      refine (htensor_any T2.R T2.C T2.F xd3 xd4 T2.n xc3 xc4 T2.g _ hn3 (HK.out.rd 7 rfl) (HK.out.rd 5 rfl)).mono ?_
      rintro e Y2 ⟨rfl, hY⟩
      replace HK := Lib.hid (HK.out.grown hY)
      clear hY
      obtain ⟨p0, p1, p2, p3, p4, _, _, _, _⟩ := HK.out.ten 2 rfl
      obtain ⟨q0, q1, q2, q3, q4, _, _, _, _⟩ := HK.out.ten 0 rfl
      go_wp2_with fail
      clear p0 p1 p2 p3 p4 q0 q1 q2 q3 q4
      refine (htensor_any T3.R T3.C T3.F xd5 xd6 T3.n xc5 xc6 T3.g _ hn5 (HK.out.rd 3 rfl) (HK.out.rd 1 rfl)).mono ?_
      rintro e Y3 ⟨rfl, hY⟩
      replace HK := Lib.hid (HK.out.grown hY)
      clear hY
      go_wp2
      go_roundw
      case rel => exact ⟨I + 1, by omega, by go_num, Lib.hid (((Lot.nil _).add (f := .gr w) (HK.out.gr 23 rfl)).add (f := .pairs PB 4) (HK.out.pairs 22 rfl))⟩
      case measure => simp [intOf]; omega
    · obtain rfl : I = 4 := by omega
      have HG := Lib.hid (HL.out.gr 1 rfl)
      go_wp2
      go_ret
      exact ⟨rfl, HG.out⟩

set_option maxRecDepth 100000 in
set_option maxHeartbeats 4000000 in
theorem ktells_end (w : World) (aR aC aF bR bC bF : Int) (ad bd ld rd : Option Addr) (an ca bn cb ln lc rn rc : Nat) (m k n f g : Int) (mild : Bool)
    (h : lightB aR aC an = false ∨ (lightB aR aC an = true ∧ lightB bR bC bn = false) ∨ (lightB aR aC an = true ∧ lightB bR bC bn = true ∧ (30 : Int) < (ln : Int)) ∨ (lightB aR aC an = true ∧ lightB bR bC bn = true ∧ ¬ (30 : Int) < (ln : Int) ∧ (30 : Int) < (rn : Int))) :
    Calls Try.prog 3 #[.agg #[.int .i64 aR, .int .i64 aC, .int .i64 aF, .slice ad an ca], .agg #[.int .i64 bR, .int .i64 bC, .int .i64 bF, .slice bd bn cb], .int .u8 m, .int .u8 k, .int .u8 n, .int .u8 f, .int .u8 g, .slice ld ln lc, .slice rd rn rc, .bool mild] w fun e w' => e = .returned (.bool true) ∧ Grown w w' := by
  have HL := Lib.hid ((((Lot.nil w).add (f := .gr w) (Grown.refl w)).grown (Grown.alloc (Grown.alloc (Grown.refl w) #[.int .i64 aR, .int .i64 aC, .int .i64 aF, .slice ad an ca] 24) #[.int .i64 bR, .int .i64 bC, .int .i64 bF, .slice bd bn cb] 24)).add (f := .ten w.heap.size (.int .i64 aR) (.int .i64 aC) (.int .i64 aF) (.slice ad an ca)) ((ten_new w _ _ _ _ _).grown (Grown.alloc (Grown.refl _) _ _))
    |>.add (f := .ten (w.heap.size + 1) (.int .i64 bR) (.int .i64 bC) (.int .i64 bF) (.slice bd bn cb)) (ten_new2 w _ _ _ _ _ _ _))
  rcases h with h1 | ⟨h1, h2⟩ | ⟨h1, h2, h3⟩ | ⟨h1, h2, h3, h4⟩
  · have HA := Lib.hid h1
    clear h1
    go_enter Try.func3, Try.ntmps3
    go_wp2_with fail
    generalize (w.alloc _).alloc _ = W0 at HL ⊢
    refine (known14_any _).mono ?_
    rintro e W1 ⟨rfl, hW1⟩
    replace HL := Lib.hid (HL.out.grown hW1)
    clear hW1
    obtain ⟨p0, p1, p2, p3, p4, _, _, _, _⟩ := HL.out.ten 1 rfl
    obtain ⟨q0, q1, q2, q3, q4, _, _, _, _⟩ := HL.out.ten 0 rfl
    go_wp2_with fail
    refine (hlight_any _ _ _ _ _ _ _).mono ?_
    rw [HA.out]
    rintro e W2 ⟨rfl, hW2⟩
    replace HL := Lib.hid (HL.out.grown hW2)
    clear hW2 p0 p1 p2 p3 p4 q0 q1 q2 q3 q4
    have HG := Lib.hid (HL.out.gr 2 rfl)
    go_wp2
    go_ret
    exact ⟨rfl, gr⟩
  · have HB := Lib.hid h2
    clear h2
    have HA := Lib.hid h1
    clear h1
    go_enter Try.func3, Try.ntmps3
    go_wp2_with fail
    generalize (w.alloc _).alloc _ = W0 at HL ⊢
    refine (known14_any _).mono ?_
    rintro e W1 ⟨rfl, hW1⟩
    replace HL := Lib.hid (HL.out.grown hW1)
    clear hW1
    obtain ⟨p0, p1, p2, p3, p4, _, _, _, _⟩ := HL.out.ten 1 rfl
    obtain ⟨q0, q1, q2, q3, q4, _, _, _, _⟩ := HL.out.ten 0 rfl
    go_wp2_with fail
    refine (hlight_any _ _ _ _ _ _ _).mono ?_
    rw [HA.out]
    rintro e W2 ⟨rfl, hW2⟩
    replace HL := Lib.hid (HL.out.grown hW2)
    clear hW2 p0 p1 p2 p3 p4 q0 q1 q2 q3 q4
    obtain ⟨q0, q1, q2, q3, q4, _, _, _, _⟩ := HL.out.ten 0 rfl
    go_wp2_with fail
    refine (hlight_any _ _ _ _ _ _ _).mono ?_
    rw [HB.out]
    rintro e W3 ⟨rfl, hW3⟩
    replace HL := Lib.hid (HL.out.grown hW3)
    clear hW3 q0 q1 q2 q3 q4
    have HG := Lib.hid (HL.out.gr 2 rfl)
    go_wp2
    go_ret
    exact ⟨rfl, gr⟩
  · have HB := Lib.hid h2
    clear h2
    have HA := Lib.hid h1
    clear h1
    go_enter Try.func3, Try.ntmps3
    go_wp2_with fail
    generalize (w.alloc _).alloc _ = W0 at HL ⊢
    refine (known14_any _).mono ?_
    rintro e W1 ⟨rfl, hW1⟩
    replace HL := Lib.hid (HL.out.grown hW1)
    clear hW1
    obtain ⟨p0, p1, p2, p3, p4, _, _, _, _⟩ := HL.out.ten 1 rfl
    obtain ⟨q0, q1, q2, q3, q4, _, _, _, _⟩ := HL.out.ten 0 rfl
    go_wp2_with fail
    refine (hlight_any _ _ _ _ _ _ _).mono ?_
    rw [HA.out]
    rintro e W2 ⟨rfl, hW2⟩
    replace HL := Lib.hid (HL.out.grown hW2)
    clear hW2 p0 p1 p2 p3 p4 q0 q1 q2 q3 q4
    obtain ⟨q0, q1, q2, q3, q4, _, _, _, _⟩ := HL.out.ten 0 rfl
    go_wp2_with fail
    refine (hlight_any _ _ _ _ _ _ _).mono ?_
    rw [HB.out]
    rintro e W3 ⟨rfl, hW3⟩
    replace HL := Lib.hid (HL.out.grown hW3)
    clear hW3 q0 q1 q2 q3 q4
    have HG := Lib.hid (HL.out.gr 2 rfl)
    go_wp2
    go_ret
    exact ⟨rfl, gr⟩
  · have HB := Lib.hid h2
    clear h2
    have HA := Lib.hid h1
    clear h1
    go_enter Try.func3, Try.ntmps3
    go_wp2_with fail
    generalize (w.alloc _).alloc _ = W0 at HL ⊢
    refine (known14_any _).mono ?_
    rintro e W1 ⟨rfl, hW1⟩
    replace HL := Lib.hid (HL.out.grown hW1)
    clear hW1
    obtain ⟨p0, p1, p2, p3, p4, _, _, _, _⟩ := HL.out.ten 1 rfl
    obtain ⟨q0, q1, q2, q3, q4, _, _, _, _⟩ := HL.out.ten 0 rfl
    go_wp2_with fail
    refine (hlight_any _ _ _ _ _ _ _).mono ?_
    rw [HA.out]
    rintro e W2 ⟨rfl, hW2⟩
    replace HL := Lib.hid (HL.out.grown hW2)
    clear hW2 p0 p1 p2 p3 p4 q0 q1 q2 q3 q4
    obtain ⟨q0, q1, q2, q3, q4, _, _, _, _⟩ := HL.out.ten 0 rfl
    go_wp2_with fail
    refine (hlight_any _ _ _ _ _ _ _).mono ?_
    rw [HB.out]
    rintro e W3 ⟨rfl, hW3⟩
    replace HL := Lib.hid (HL.out.grown hW3)
    clear hW3 q0 q1 q2 q3 q4
    have HG := Lib.hid (HL.out.gr 2 rfl)
    go_wp2
    go_ret
    exact ⟨rfl, gr⟩

theorem light_cases {aR aC bR bC : Int} {an bn ln rn : Nat} (h : ¬ (lightB aR aC an = true ∧ lightB bR bC bn = true ∧ ln ≤ 30 ∧ rn ≤ 30)) :
    lightB aR aC an = false ∨ (lightB aR aC an = true ∧ lightB bR bC bn = false) ∨ (lightB aR aC an = true ∧ lightB bR bC bn = true ∧ (30 : Int) < (ln : Int)) ∨ (lightB aR aC an = true ∧ lightB bR bC bn = true ∧ ¬ (30 : Int) < (ln : Int) ∧ (30 : Int) < (rn : Int)) := by
  cases e1 : lightB aR aC an
  · exact .inl rfl
  · cases e2 : lightB bR bC bn
    · exact .inr (.inl ⟨rfl, rfl⟩)
    · rw [e1, e2] at h
      by_cases c : (30 : Int) < (ln : Int)
      · exact .inr (.inr (.inl ⟨rfl, rfl, c⟩))
      · by_cases d : rn ≤ 30
        · exact absurd ⟨rfl, rfl, by omega, d⟩ h
        · exact .inr (.inr (.inr ⟨rfl, rfl, c, by omega⟩))

theorem ktells_walk (W : World) (v0 : Value) (T0 : TenIn v0 W) (v1 : Value) (T1 : TenIn v1 W) (m : Int) (wm : (Lit.int .u8 m).wf = true) (k : Int) (wk : (Lit.int .u8 k).wf = true) (n : Int) (wn : (Lit.int .u8 n).wf = true) (f : Int) (wf : (Lit.int .u8 f).wf = true) (g : Int) (wg : (Lit.int .u8 g).wf = true) (l : Value) (Ll : ListIn l W) (r : Value) (Lr : ListIn r W) (mild : Bool) :
    Calls Try.prog 3 #[v0, v1, .int .u8 m, .int .u8 k, .int .u8 n, .int .u8 f, .int .u8 g, l, r, .bool mild] W fun e w' => e = .returned (.bool true) ∧ Grown W w' := by
  obtain ⟨aR, aC, aF, ad, an, ca, ga, rfl, _, _, _, _, a2, a3, a4⟩ := T0
  obtain ⟨bR, bC, bF, bd, bn, cb, gb, rfl, _, _, _, _, b2, b3, b4⟩ := T1
  obtain ⟨ld, ln, lc, lg, rfl, _, _, _, l4⟩ := Ll
  obtain ⟨rd, rn, rc, rg, rfl, _, _, _, r4⟩ := Lr
  obtain ⟨m0, m1⟩ := bounds_u8 wm
  obtain ⟨k0, k1⟩ := bounds_u8 wk
  obtain ⟨n0, n1⟩ := bounds_u8 wn
  obtain ⟨f0, f1⟩ := bounds_u8 wf
  obtain ⟨g0, g1⟩ := bounds_u8 wg
  by_cases h : lightB aR aC an = true ∧ lightB bR bC bn = true ∧ ln ≤ 30 ∧ rn ≤ 30
  · exact ktells_go W aR aC aF bR bC bF m k n f g ad bd ld rd an ca bn cb ln lc rn rc ga gb lg rg mild h.1 h.2.1 h.2.2.1 h.2.2.2 a4 b4 l4 r4 ⟨a2, a3⟩ ⟨b2, b3⟩ m0 m1 k0 k1 n0 n1 f0 f1 g0 g1
  · exact ktells_end W aR aC aF bR bC bF ad bd ld rd an ca bn cb ln lc rn rc m k n f g mild (light_cases h)
end Go.Proofs.Ytmipefapjehkaaa
