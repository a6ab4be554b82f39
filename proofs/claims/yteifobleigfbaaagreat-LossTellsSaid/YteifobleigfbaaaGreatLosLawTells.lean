/- The walk of LossTells. (Written by gen74.py.) -/
import Derived.Test.YteifobleigfbaaaGreatLosKnown
import Derived.Test.YteifobleigfbaaaGreatLosFrame
import Derived.Test.YteifobleigfbaaaGreatSeatT
import Derived.Test.YteifobleigfbaaaGreatRow
import Derived.Test.YteifobleigfbaaaGreatRLosB
import Derived.Test.YteifobleigfbaaaGreatRLosC
import Derived.Deep.RegionHeld3
namespace Go.Proofs.YteifobleigfbaaaGreat
open Go Go.RowKit
set_option linter.unusedVariables false
set_option linter.unusedSimpArgs false

theorem three_rem (f : Int) (f0 : 0 ≤ f) : ∃ F : Int, f % 3 = F ∧ f.tmod 3 = F ∧ IntKind.i64.wrap F = F :=
  ⟨f % 3, rfl, Int.tmod_eq_emod_of_nonneg f0, by rw [IntKind.wrap_i64]; omega⟩

theorem five_remt (m : Int) (m0 : 0 ≤ m) : ∃ x : Nat, m % 5 = (x : Int) ∧ m.tmod 5 = (x : Int) ∧ x ≤ 4 :=
  ⟨(m % 5).toNat, by omega, by rw [Int.tmod_eq_emod_of_nonneg m0]; omega, by omega⟩

/-- The labels that are made. -/
def plcG (sn : Nat) (ys : Nat → Int) (C : Int) (j : Nat) : Int := (if sn = 0 then (j : Int) else ys (j % sn)) % (if C < 1 then 1 else C)

theorem plc_bd (sn : Nat) (ys : Nat → Int) (C : Int) (h : C ≤ 4096) (j : Nat) : -9223372036854775808 ≤ plcG sn ys C j ∧ plcG sn ys C j ≤ 9223372036854775807 := by
  unfold plcG
  generalize (if sn = 0 then (j : Int) else ys (j % sn)) = a
  have h1 : 1 ≤ (if C < 1 then 1 else C) ∧ (if C < 1 then 1 else C) ≤ 4096 := by split <;> omega
  generalize (if C < 1 then 1 else C) = b at h1 ⊢
  have := Int.emod_nonneg a (show b ≠ 0 by omega)
  have := Int.emod_lt_of_pos a (show 0 < b by omega)
  omega

set_option maxRecDepth 100000 in
set_option maxHeartbeats 16000000 in
theorem ltells_go (w : World) (aR aC aF bR bC bF m n f : Int) (ad bd sd ld : Option Addr) (an ca bn cb sn sc ln lc : Nat) (ga gb ys lg : Nat → Int) (mild : Bool)
    (ha : lightB aR aC an = true) (hb : lightB bR bC bn = true) (hs : sn ≤ 30) (hl : ln ≤ 30) (Ra : Reads ad an ga w) (Rb : Reads bd bn gb w) (Rs : ReadsI sd sn ys w) (Rl : Reads ld ln lg w)
    (m0 : 0 ≤ m) (m1 : m ≤ 255) (n0 : 0 ≤ n) (n1 : n ≤ 255) (f0 : 0 ≤ f) (f1 : f ≤ 255) :
    Calls Tryz.prog 3 #[.agg #[.int .i64 aR, .int .i64 aC, .int .i64 aF, .slice ad an ca], .agg #[.int .i64 bR, .int .i64 bC, .int .i64 bF, .slice bd bn cb], .slice sd sn sc, .int .u8 m, .int .u8 n, .int .u8 f, .slice ld ln lc, .bool mild] w fun e w' => e = .returned (.bool true) ∧ Grown w w' := by
  have HA := Lib.hid ha
  have HB := Lib.hid hb
  have t1 : ¬ (30 : Int) < (ln : Int) := by omega
  have t2 : ¬ (30 : Int) < (sn : Int) := by omega
  have HL := Lib.hid (((((((((Lot.nil w).add (f := .ri sd sn ys) Rs).add (f := .rd ld ln lg) Rl).add (f := .rd bd bn gb) Rb).add (f := .rd ad an ga) Ra).add (f := .gr w) (Grown.refl w)).grown (Grown.alloc (Grown.alloc (Grown.refl w) #[.int .i64 aR, .int .i64 aC, .int .i64 aF, .slice ad an ca] 24) #[.int .i64 bR, .int .i64 bC, .int .i64 bF, .slice bd bn cb] 24)).add (f := .ten w.heap.size (.int .i64 aR) (.int .i64 aC) (.int .i64 aF) (.slice ad an ca)) ((ten_new w _ _ _ _ _).grown (Grown.alloc (Grown.refl _) _ _)))
    |>.add (f := .ten (w.heap.size + 1) (.int .i64 bR) (.int .i64 bC) (.int .i64 bF) (.slice bd bn cb)) (ten_new2 w _ _ _ _ _ _ _))
  obtain ⟨X, hX, hX2, lX⟩ := five_remt m m0
  obtain ⟨Y, hY, hY2, lY⟩ := five_remt n n0
  obtain ⟨F, hF, hF2, hF3⟩ := three_rem f f0
  obtain ⟨H, hH⟩ : ∃ H, f / 3 = H := ⟨_, rfl⟩
  have hH2 : f.tdiv 3 = H := by rw [Int.tdiv_eq_ediv_of_nonneg f0]; exact hH
  obtain ⟨G, hG, hG2, hG3⟩ := three_rem H (by omega)
  obtain ⟨M, hM⟩ : ∃ M, X * Y = M := ⟨_, rfl⟩
  have X1 : Hid ((X : Int) * (Y : Int) = (M : Int)) := Lib.hid (by rw [← hM, Int.natCast_mul])
  have lM : M ≤ 16 := by have := Nat.mul_le_mul lX lY; omega
  obtain ⟨u5, u6⟩ : an ≤ 60 ∧ bn ≤ 60 := by unfold lightB at ha hb; simp only [Bool.and_eq_true, decide_eq_true_eq] at ha hb; omega
  have HLB := Lib.hid Rl.1
  have HYB := Lib.hid Rs.1
  clear hM ha hb Ra Rb Rl Rs
  go_enter Tryz.func3, Tryz.ntmps3
  go_wp2_with fail
  generalize (w.alloc _).alloc _ = W0 at HL ⊢
  refine (known16_any _).mono ?_
  rintro e W1 ⟨rfl, hW1⟩
  replace HL := Lib.hid (HL.out.grown hW1)
  clear hW1
  obtain ⟨p0, p1, p2, p3, p4, -, -, -, -⟩ := HL.out.ten 1 rfl
  obtain ⟨q0, q1, q2, q3, q4, -, -, -, -⟩ := HL.out.ten 0 rfl
  go_wp2_with fail
  refine (hlight_any _ _ _ _ _ _ _).mono ?_
  rw [HA.out]
  rintro e W2 ⟨rfl, hW2⟩
  replace HL := Lib.hid (HL.out.grown hW2)
  clear hW2 p0 p1 p2 p3 p4 q0 q1 q2 q3 q4
  obtain ⟨q0, q1, q2, q3, q4, -, -, -, -⟩ := HL.out.ten 0 rfl
  go_wp2_with fail
  refine (hlight_any _ _ _ _ _ _ _).mono ?_
  rw [HB.out]
  rintro e W3 ⟨rfl, hW3⟩
  replace HL := Lib.hid (HL.out.grown hW3)
  clear hW3 q0 q1 q2 q3 q4
  generalize w.heap.size = ab at HL ⊢
  go_wp2_with fail
  refine (seatt_any X Y F M ld ln lc lg mild _ (by omega) (HL.out.rd 5 rfl) (by omega) (by omega) (by omega) (by omega) X1.out).mono ?_
  rintro e W4 ⟨zd, zc, zg, rfl, hR1, -, hW4, -, -⟩
  replace HL := Lib.hid ((HL.out.grown hW4).add (f := .rd zd M zg) hR1)
  clear hR1 hW4
  replace HL := Lib.hid ((HL.out.grown (Grown.alloc (Grown.refl W4) #[.int .i64 X, .int .i64 Y, .int .i64 F, .slice zd M zc] 24)).add (f := .ten W4.heap.size (.int .i64 X) (.int .i64 Y) (.int .i64 F) (.slice zd M zc)) (ten_new W4 _ _ _ _ _))
  go_wp2_with (first
    | (at_builtin; refine wpList_append_row rfl _ _ 22 rfl 29 _ _ 4 rfl rfl rfl rfl rfl rfl rfl (W4.heap.size + 1) ld ln lc lg rfl (HL.out.rd 7 rfl) (by show ln ≤ 9223372036854775807; omega) (by omega) (by simp) ?_; intro v6 W6 own6 hs6 hgr6; have HG6 := Lib.hid (hgr6 _ (Grown.refl _)); clear hgr6)
    | (at_builtin; refine wpList_append_one rfl _ _ 22 rfl 29 _ _ 4 rfl rfl rfl rfl rfl rfl (W4.heap.size + 1) _ ln (wordsL ln lg) rfl (own6.alloc _) W6.heap.size (.int .u32 9) rfl (by go_simp) rfl (by show ln + 1 ≤ 9223372036854775807; omega) (by show (ln + 1) * 4 ≤ 140737488355328; omega) (by have := HG6.out.2.2; simp at this ⊢; omega) ?_; intro gg cc W8 own8 hb8 hs8 hblk hcell hfr hgr; have HG8 := Lib.hid (hgr _ (Grown.alloc HG6.out _ _) (by simp)); rw [words_snoc] at own8; have HO8 := Lib.hid own8; clear own8 hb8 hs8 hblk hcell hfr hgr own6 hs6 HG6))
  obtain ⟨ed, ec, he, hO, -⟩ := owns_told (w := W4) HO8.out (Nat.le_succ _)
  have HR9 := Lib.hid (hO.reads (fun t _ => snoc_bd ln lg 9 HLB.out (by decide) (by decide) t))
  injection he with he1 he2 he3
  subst he1
  replace HL := Lib.hid (HL.out.grown HG8.out)
  clear HO8 HG8 hO he2
  generalize W4.heap.size = zb at HL ⊢
  refine (seatt_any X Y G M _ (ln + 1) _ (snocG ln lg 9) mild _ (by omega) HR9.out (by omega) (by omega) (by omega) (by omega) X1.out).mono ?_
  rintro e W9 ⟨dd, dc, dg, rfl, hR1, -, hW4, -, -⟩
  replace HL := Lib.hid ((HL.out.grown hW4).add (f := .rd dd M dg) hR1)
  clear hR1 hW4 HR9
  have hmax : (if (Y : Int) < 1 then (1 : Int) else (Y : Int)) = ((if Y = 0 then 1 else Y : Nat) : Int) := by
    by_cases c : Y = 0
    · rw [if_pos c, if_pos (by omega)]; rfl
    · rw [if_neg c, if_neg (by omega)]
  have lMX : 1 ≤ (if Y = 0 then 1 else Y : Nat) ∧ (if Y = 0 then 1 else Y : Nat) ≤ 4 := by split <;> omega
  obtain ⟨MX, hMX⟩ : ∃ MX, (if Y = 0 then 1 else Y : Nat) = MX := ⟨_, rfl⟩
  rw [hMX] at hmax lMX
  have HMX := Lib.hid hmax
  replace HL := Lib.hid ((HL.out.grown (Grown.alloc (Grown.refl W9) #[.int .i64 X, .int .i64 Y, .int .i64 G, .slice dd M dc] 24)).add (f := .ten W9.heap.size (.int .i64 X) (.int .i64 Y) (.int .i64 G) (.slice dd M dc)) (ten_new W9 _ _ _ _ _))
  clear hMX hX hY hF hH hG hX2 hY2 hF2 hG2 hH2 hF3 hG3
  go_wp2_with fail
  generalize W9.alloc _ = W10 at HL ⊢
  generalize W9.heap.size = db at HL ⊢
  go_loopw [19, 20, 21] (fun v i _ wr => ∃ I : Nat, I ≤ X ∧ i = .int .i64 I ∧ Hid (Grown W10 wr) ∧ Hid (wr.ownsRow W10.heap.size 3 1 v I (intsL I (plcG sn ys Y)))) (fun _ i _ _ => X - (intOf i).toNat)
  case atStart => exact ⟨0, Nat.zero_le _, rfl, Lib.hid (Grown.refl _), Lib.hid (World.ownsRow_nil _ _ _ _)⟩
  case round =>
    rename World => wr
    obtain ⟨I, hI, rfl, HGr, HO⟩ := hrel
    have HLr := Lib.hid (HL.out.grown HGr.out)
    obtain ⟨p0, p1, p2, p3, p4, -, -, -, -⟩ := HLr.out.ten 2 rfl
    have hmx := HMX.out
    by_cases hlt : (I : Int) < X
    · have HPL := Lib.hid (show plcG sn ys Y I = (if sn = 0 then (I : Int) else ys (I % sn)) % (MX : Int) by unfold plcG; rw [HMX.out])
      have HNX := Lib.hid (intsL_next I (plcG sn ys Y))
      have hsz := HGr.out.2.2
      by_cases hsn : sn = 0
      · have c1 : ¬ (0 : Int) < (sn : Int) := by omega
        rw [if_pos hsn] at HPL
        obtain ⟨V, hV⟩ : ∃ V, plcG sn ys Y I = V := ⟨_, rfl⟩
        rw [hV] at HPL HNX
        clear hsn hV
        go_wp2_with (first
          | (go_at_call 10; refine (hplace_any I MX _ (by omega) (by omega)).mono ?_; rintro e w' ⟨he, rfl⟩; rw [← HPL.out] at he; subst he)
          | (at_builtin; refine wpList_append_one rfl _ _ 25 rfl 3 _ _ 8 rfl rfl rfl rfl rfl rfl (W10.heap.size) _ I (intsL I (plcG sn ys Y)) rfl (HO.out.alloc _) wr.heap.size (.int .i64 V) rfl (by go_simp) rfl (by show I + 1 ≤ 9223372036854775807; omega) (by show (I + 1) * 8 ≤ 140737488355328; omega) (by simp; omega) ?_; intro gg cc W8 own8 hb8 hs8 hblk hcell hfr hgr; have HN1 := Lib.hid (hgr W10 (Grown.alloc HGr.out _ _) (Nat.le_refl _)); rw [← HNX.out] at own8; have HN2 := Lib.hid own8; clear own8 hb8 hs8 hblk hcell hfr hgr))
        go_roundw
        case rel => exact ⟨I + 1, by omega, by go_num, HN1, HN2⟩
        case measure => simp [intOf]; omega
      · have c1 : (0 : Int) < (sn : Int) := by omega
        rw [if_neg hsn] at HPL
        obtain ⟨J, hJe⟩ : ∃ J, I % sn = J := ⟨_, rfl⟩
        have hJ : J < sn := by rw [← hJe]; exact Nat.mod_lt _ (by omega)
        have hrem : Int.tmod (I : Int) (sn : Int) = (J : Int) := by rw [← hJe]; exact (Int.ofNat_tmod I sn).symm
        have hnz : ¬ (sn : Int) = 0 := by omega
        obtain ⟨b, off, rfl, hbl, hyc⟩ := readi_at (HLr.out.ri 10 rfl) hJ
        have y := hyc J hJ
        rw [hJe] at HPL
        obtain ⟨x, hx⟩ : ∃ x, ys J = x := ⟨_, rfl⟩
        rw [hx] at y HPL
        obtain ⟨V, hV⟩ : ∃ V, plcG sn ys Y I = V := ⟨_, rfl⟩
        rw [hV] at HPL HNX
        clear hsn hV hx hJe hyc
        go_wp2_with (first
          | (go_at_call 10; refine (hplace_any x MX _ (by omega) (by omega)).mono ?_; rintro e w' ⟨he, rfl⟩; rw [← HPL.out] at he; subst he)
          | (at_builtin; refine wpList_append_one rfl _ _ 25 rfl 3 _ _ 8 rfl rfl rfl rfl rfl rfl (W10.heap.size) _ I (intsL I (plcG sn ys Y)) rfl (HO.out.alloc _) wr.heap.size (.int .i64 V) rfl (by go_simp) rfl (by show I + 1 ≤ 9223372036854775807; omega) (by show (I + 1) * 8 ≤ 140737488355328; omega) (by simp; omega) ?_; intro gg cc W8 own8 hb8 hs8 hblk hcell hfr hgr; have HN1 := Lib.hid (hgr W10 (Grown.alloc HGr.out _ _) (Nat.le_refl _)); rw [← HNX.out] at own8; have HN2 := Lib.hid own8; clear own8 hb8 hs8 hblk hcell hfr hgr))
        go_roundw
        case rel => exact ⟨I + 1, by omega, by go_num, HN1, HN2⟩
        case measure => simp [intOf]; omega
    · obtain rfl : I = X := by omega
      obtain ⟨yd, yc, hv, hyr⟩ := ints_told HO.out
      subst hv
      replace HL := Lib.hid (HLr.out.add (f := .ri yd I (plcG sn ys Y)) ⟨fun i _ => plc_bd sn ys Y (by omega) i, hyr⟩)
      clear HO HLr HGr hyr p0 p1 p2 p3 p4 hmx HMX
      obtain ⟨p0, p1, p2, p3, p4, -, -, -, -⟩ := HL.out.ten 3 rfl
      obtain ⟨q0, q1, q2, q3, q4, -, -, -, -⟩ := HL.out.ten 6 rfl
      go_wp2_with fail
      replace HL := Lib.hid ((HL.out.grown (Grown.alloc (Grown.refl wr) #[.int .i64 aR, .int .i64 aC, .int .i64 aF, .slice ad an ca, .int .i64 I, .int .i64 Y, .int .i64 F, .slice zd M zc, .int .i64 I, .int .i64 Y, .int .i64 F, .slice zd M zc] 24)).add (f := .row wr.heap.size #[.int .i64 aR, .int .i64 aC, .int .i64 aF, .slice ad an ca, .int .i64 I, .int .i64 Y, .int .i64 F, .slice zd M zc, .int .i64 I, .int .i64 Y, .int .i64 F, .slice zd M zc]) (row_new wr _ _))
      clear p0 p1 p2 p3 p4 q0 q1 q2 q3 q4
      generalize wr.alloc _ = W11 at HL ⊢
      generalize wr.heap.size = tl at HL ⊢
      go_loopw [22, 23, 24, 25, 26, 27, 28, 29, 30, 31, 32, 33, 34, 35, 114] (fun _ _ _ _ _ _ _ _ _ _ _ _ _ _ i wr => ∃ K : Int, (K = 0 ∨ K = 1 ∨ K = 2 ∨ K = 3) ∧ i = .int .i64 K ∧ Hid (Lot [.row tl #[.int .i64 aR, .int .i64 aC, .int .i64 aF, .slice ad an ca, .int .i64 I, .int .i64 Y, .int .i64 F, .slice zd M zc, .int .i64 I, .int .i64 Y, .int .i64 F, .slice zd M zc], .ri yd I (plcG sn ys Y), .ten db (.int .i64 I) (.int .i64 Y) (.int .i64 G) (.slice dd M dc), .rd dd M dg, .ten zb (.int .i64 I) (.int .i64 Y) (.int .i64 F) (.slice zd M zc), .rd zd M zg, .ten (ab + 1) (.int .i64 bR) (.int .i64 bC) (.int .i64 bF) (.slice bd bn cb), .ten ab (.int .i64 aR) (.int .i64 aC) (.int .i64 aF) (.slice ad an ca), .gr w, .rd ad an ga, .rd bd bn gb, .rd ld ln lg, .ri sd sn ys] wr)) (fun _ _ _ _ _ _ _ _ _ _ _ _ _ _ i _ => 3 - (intOf i).toNat)
      case atStart => exact ⟨0, .inl rfl, rfl, HL⟩
      case round =>
        rename World => wr
        clear HL
        obtain ⟨K, hK, rfl, HL⟩ := hrel
        rcases hK with rfl | rfl | rfl | rfl
        · obtain ⟨zl, zc0⟩ := HL.out.row 0 rfl
          have z0 := zc0 0 _ rfl
          have z1 := zc0 1 _ rfl
          have z2 := zc0 2 _ rfl
          have z3 := zc0 3 _ rfl
          clear zc0
          go_wp2_with fail
          clear zl z0 z1 z2 z3
          replace HL := Lib.hid ((HL.out.grown (Grown.alloc (Grown.refl wr) #[.int .i64 aR, .int .i64 aC, .int .i64 aF, .slice ad an ca] 24)).add (f := .ten wr.heap.size (.int .i64 aR) (.int .i64 aC) (.int .i64 aF) (.slice ad an ca)) (ten_new wr _ _ _ _ _))
          replace HL := Lib.hid (HL.out.grown (Grown.alloc (Grown.refl _) #[.slice sd sn sc, .slice yd I yc, .slice sd sn sc] 25))
          generalize (wr.alloc _).alloc _ = Z0 at HL ⊢
          generalize wr.heap.size = xb at HL ⊢
          obtain ⟨SV, hSV⟩ : ∃ v, sofV ⟨aR, aC, aF, an, ga⟩ sn ys = v := ⟨_, rfl⟩
          have HSV := Lib.hid hSV
          clear hSV
          obtain ⟨ST, hST⟩ : ∃ v, sofT ⟨aR, aC, aF, an, ga⟩ sn ys = v := ⟨_, rfl⟩
          have HST := Lib.hid hST
          clear hST
          obtain ⟨SX, hSX⟩ : ∃ v, labX ⟨aR, aC, aF, an, ga⟩ sn ys = v := ⟨_, rfl⟩
          have HSX := Lib.hid hSX
          clear hSX
          obtain ⟨RN, hRN⟩ : ∃ v, rgtN ⟨aR, aC, aF, an, ga⟩ sn ys = v := ⟨_, rfl⟩
          have HRN := Lib.hid hRN
          clear hRN
          obtain ⟨MV, hMV⟩ : ∃ v, mseV ⟨aR, aC, aF, an, ga⟩ ⟨bR, bC, bF, bn, gb⟩ = v := ⟨_, rfl⟩
          have HMV := Lib.hid hMV
          clear hMV
          obtain ⟨MT, hMT⟩ : ∃ v, mseT ⟨aR, aC, aF, an, ga⟩ ⟨bR, bC, bF, bn, gb⟩ = v := ⟨_, rfl⟩
          have HMT := Lib.hid hMT
          clear hMT
          obtain ⟨ME, hME⟩ : ∃ v, mseX ⟨aR, aC, aF, an, ga⟩ ⟨bR, bC, bF, bn, gb⟩ = v := ⟨_, rfl⟩
          have HME := Lib.hid hME
          clear hME
          refine (lsoft_any aR aC aF ad sd an ca sn sc ga ys _ (by omega) (by omega) (HL.out.rd 10 rfl) (HL.out.ri 13 rfl)).mono ?_
          rw [HSV.out, HST.out, HSX.out]
          rintro e U1 ⟨xd1, xc1, rfl, hR, hn1, -, hW⟩
          have HN1 := Lib.hid hn1
          replace HL := Lib.hid ((HL.out.grown hW).add (f := .rd xd1 ST.n ST.g) hR)
          clear hR hn1 hW
          obtain ⟨p0, p1, p2, p3, p4, -, -, -, -⟩ := HL.out.ten 1 rfl
          go_wp2_with fail
          clear p0 p1 p2 p3 p4
          have HO1 := Lib.hid (ten_new U1 (.int .i64 ST.R) (.int .i64 ST.C) (.int .i64 ST.F) (.slice xd1 ST.n xc1) 24)
          have HGb := Lib.hid (show Grown U1 (U1.alloc (.cells #[.int .i64 ST.R, .int .i64 ST.C, .int .i64 ST.F, .slice xd1 ST.n xc1] 24)) from gr)
          generalize U1.alloc _ = Z1 at HO1 HGb ⊢
          obtain ⟨o1, ho1⟩ : ∃ o, U1.heap.size = o := ⟨_, rfl⟩
          have HOE := Lib.hid ho1
          rw [ho1] at HO1 ⊢
          clear ho1
          refine (rsoft_any aR aC aF ad sd an ca sn sc ga ys _ (by omega) (by omega) ((HL.out.rd 11 rfl).grown HGb.out) ((HL.out.ri 14 rfl).grown HGb.out)).mono ?_
          rw [HSV.out, HST.out, HSX.out]
          rintro e U2 ⟨xd2, xc2, rfl, hR, -, -, hW⟩
          have HR2 := Lib.hid hR
          replace HO1 := Lib.hid (HO1.out.grown hW)
          replace HGb := Lib.hid (grown_trans HGb.out hW)
          clear hR hW
          obtain ⟨p0, p1, p2, p3, p4, -, -, -, -⟩ := (HL.out.ten 1 rfl).grown HGb.out
          go_wp2_with fail
          clear p0 p1 p2 p3 p4
          have HO2 := Lib.hid (ten_new U2 (.int .i64 ST.R) (.int .i64 ST.C) (.int .i64 ST.F) (.slice xd2 ST.n xc2) 24)
          have hal := Grown.alloc (Grown.refl U2) #[.int .i64 ST.R, .int .i64 ST.C, .int .i64 ST.F, .slice xd2 ST.n xc2] 24
          have HLT := Lib.hid HO1.out.lies
          replace HO1 := Lib.hid (HO1.out.grown hal)
          replace HR2 := Lib.hid (HR2.out.grown hal)
          replace HGb := Lib.hid (grown_trans HGb.out hal)
          clear hal
          generalize U2.alloc _ = Z2 at HO1 HO2 HR2 HGb ⊢
          generalize U2.heap.size = o2 at HO2 HLT ⊢
          refine (lright_any aR aC aF ad sd an ca sn sc ga ys _ (by omega) (by omega) ((HL.out.rd 11 rfl).grown HGb.out) ((HL.out.ri 14 rfl).grown HGb.out)).mono ?_
          rw [HRN.out, HSX.out]
          rintro e U3 ⟨rfl, hW⟩
          replace HO1 := Lib.hid (HO1.out.grown hW)
          replace HO2 := Lib.hid (HO2.out.grown hW)
          replace HR2 := Lib.hid (HR2.out.grown hW)
          replace HGb := Lib.hid (grown_trans HGb.out hW)
          clear hW
          obtain ⟨p0, p1, p2, p3, p4, -, -, -, -⟩ := (HL.out.ten 1 rfl).grown HGb.out
          go_wp2_with fail
          clear p0 p1 p2 p3 p4
          refine (rrows_any aR aC aF ad sd an ca sn sc ga ys _ (by omega) (by omega) ((HL.out.rd 11 rfl).grown HGb.out) ((HL.out.ri 14 rfl).grown HGb.out)).mono ?_
          rw [HRN.out, HSX.out]
          rintro e U4 ⟨rfl, hW⟩
          replace HO1 := Lib.hid (HO1.out.grown hW)
          replace HO2 := Lib.hid (HO2.out.grown hW)
          replace HR2 := Lib.hid (HR2.out.grown hW)
          replace HGb := Lib.hid (grown_trans HGb.out hW)
          clear hW
          obtain ⟨p0, p1, p2, p3, p4, -, -, -, -⟩ := HO1.out
          obtain ⟨q0, q1, q2, q3, q4, -, -, -, -⟩ := HO2.out
          have b1 : (SX != SX) = false := by simp
          have b2 : (SV != SV) = false := by simp
          have b3 : (RN != RN) = false := by simp
          go_wp2_with fail
          clear p0 p1 p2 p3 p4 q0 q1 q2 q3 q4
          refine (htensor_any _ _ _ _ _ _ _ _ ST.g _ (by have := HN1.out; omega) ((HL.out.rd 0 rfl).grown HGb.out) HR2.out).mono ?_
          rintro e U5 ⟨rfl, hW⟩
          replace HO1 := Lib.hid (HO1.out.grown hW)
          replace HO2 := Lib.hid (HO2.out.grown hW)
          replace HGb := Lib.hid (grown_trans HGb.out hW)
          clear hW HR2
          obtain ⟨p0, p1, p2, p3, p4, -, -, -, -⟩ := (HL.out.ten 8 rfl).grown HGb.out
          obtain ⟨q0, q1, q2, q3, q4, -, -, -, -⟩ := (HL.out.ten 4 rfl).grown HGb.out
          obtain ⟨r0, r1, r2, r3, r4, -, -, -, -⟩ := (HL.out.ten 1 rfl).grown HGb.out
          go_wp2_with fail
          clear p0 p1 p2 p3 p4 q0 q1 q2 q3 q4 r0 r1 r2 r3 r4 b1 b2 b3
          have HL5 := Lib.hid HO2.out.lies
          have HCB := Lib.hid (ten_new2 U5 #[.int .i64 bR, .int .i64 bC, .int .i64 bF, .slice bd bn cb, .int .i64 I, .int .i64 Y, .int .i64 G, .slice dd M dc, .int .i64 bR, .int .i64 bC, .int .i64 bF, .slice bd bn cb] 24 (.int .i64 bR) (.int .i64 bC) (.int .i64 bF) (.slice bd bn cb) 24)
          have hal : Grown U5 ((U5.alloc (.cells #[.int .i64 bR, .int .i64 bC, .int .i64 bF, .slice bd bn cb, .int .i64 I, .int .i64 Y, .int .i64 G, .slice dd M dc, .int .i64 bR, .int .i64 bC, .int .i64 bF, .slice bd bn cb] 24)).alloc (.cells #[.int .i64 bR, .int .i64 bC, .int .i64 bF, .slice bd bn cb] 24)) := gr
          replace HO1 := Lib.hid (HO1.out.grown hal)
          replace HO2 := Lib.hid (HO2.out.grown hal)
          replace HGb := Lib.hid (grown_trans HGb.out hal)
          have HLC := Lib.hid (show o2 < U5.heap.size + 1 from by have := HL5.out; omega)
          clear hal
          generalize (U5.alloc _).alloc _ = Z5 at HO1 HO2 HGb HCB ⊢
          generalize U5.heap.size + 1 = cbx at HCB HLC ⊢
          refine (lmse_any aR aC aF bR bC bF ad bd an bn ca cb ga gb _ (by omega) (by omega) ((HL.out.rd 11 rfl).grown HGb.out) ((HL.out.rd 12 rfl).grown HGb.out)).mono ?_
          rw [HMV.out, HMT.out, HME.out]
          rintro e U6 ⟨md, mc, rfl, hR, hn1, hf, hW⟩
          have HMN := Lib.hid hn1
          have HF1 := Lib.hid (hf.off HO1.out.lies)
          have HF2 := Lib.hid (hf.off HO2.out.lies)
          have HRM := Lib.hid hR
          have e1 := HOE.out
          have e2 := HLT.out
          have e3 := HLC.out
          have e4 := (HL.out.ten 1 rfl).lies
          replace HO1 := Lib.hid (HO1.out.grown hW)
          replace HO2 := Lib.hid (HO2.out.grown hW)
          replace HCB := Lib.hid (HCB.out.grown hW)
          replace HGb := Lib.hid (grown_trans HGb.out hW)
          clear hR hn1 hf hW
          have n1 : ¬ xb = o1 := by omega
          have n2 : ¬ o1 = xb := by omega
          have n3 : ¬ cbx = o1 := by omega
          have n4 : ¬ o1 = cbx := by omega
          have n5 : ¬ o1 = o2 := by omega
          have n6 : ¬ o2 = o1 := by omega
          obtain ⟨p0, p1, p2, p3, p4, p5, p6, p7, p8⟩ := HO1.out
          obtain ⟨q0, q1, q2, q3, q4, -, -, -, -⟩ := (HL.out.ten 1 rfl).grown HGb.out
          obtain ⟨r0, r1, r2, r3, r4, -, -, -, -⟩ := HCB.out
          go_wp2_with fail
          clear p0 p1 p2 p3 p4 p5 p6 p7 p8 q0 q1 q2 q3 q4 r0 r1 r2 r3 r4
          replace HO2 := Lib.hid ((((HO2.out.set (a := ⟨o1, 0, none⟩) n6 (.int .i64 MT.R)).set (a := ⟨o1, 1, none⟩) n6 (.int .i64 MT.C)).set (a := ⟨o1, 2, none⟩) n6 (.int .i64 MT.F)).set (a := ⟨o1, 3, none⟩) n6 (.slice md MT.n mc))
          replace HRM := Lib.hid ((((HRM.out.set (a := ⟨o1, 0, none⟩) HF1.out (.int .i64 MT.R)).set (a := ⟨o1, 1, none⟩) HF1.out (.int .i64 MT.C)).set (a := ⟨o1, 2, none⟩) HF1.out (.int .i64 MT.F)).set (a := ⟨o1, 3, none⟩) HF1.out (.slice md MT.n mc))
          replace HO1 := Lib.hid (HO1.out.four (.int .i64 MT.R) (.int .i64 MT.C) (.int .i64 MT.F) (.slice md MT.n mc))
          have l1 : U1.heap.size ≤ o1 := by omega
          replace HGb := Lib.hid (Grown.setCell (Grown.setCell (Grown.setCell (Grown.setCell HGb.out (a := ⟨o1, 0, none⟩) l1 (.int .i64 MT.R)) (a := ⟨o1, 1, none⟩) l1 (.int .i64 MT.C)) (a := ⟨o1, 2, none⟩) l1 (.int .i64 MT.F)) (a := ⟨o1, 3, none⟩) l1 (.slice md MT.n mc))
          generalize (((U6.setCell _ _).setCell _ _).setCell _ _).setCell _ _ = Y1 at HO1 HO2 HRM HGb ⊢
          refine (rmse_any aR aC aF bR bC bF ad bd an bn ca cb ga gb _ (by omega) (by omega) ((HL.out.rd 11 rfl).grown HGb.out) ((HL.out.rd 12 rfl).grown HGb.out)).mono ?_
          rw [HMV.out, HMT.out, HME.out]
          rintro e U7 ⟨nd, nc, rfl, hR, -, hf, hW⟩
          have HF3 := Lib.hid (hf.off HO2.out.lies)
          have HRN2 := Lib.hid hR
          replace HO1 := Lib.hid (HO1.out.grown hW)
          replace HO2 := Lib.hid (HO2.out.grown hW)
          replace HRM := Lib.hid (HRM.out.grown hW)
          replace HGb := Lib.hid (grown_trans HGb.out hW)
          clear hR hf hW
          obtain ⟨p0, p1, p2, p3, p4, p5, p6, p7, p8⟩ := HO2.out
          obtain ⟨q0, q1, q2, q3, q4, -, -, -, -⟩ := HO1.out
          have b1 : (ME != ME) = false := by simp
          have b2 : (MV != MV) = false := by simp
          go_wp2_with fail
          clear p0 p1 p2 p3 p4 p5 p6 p7 p8 q0 q1 q2 q3 q4
          replace HRM := Lib.hid ((((HRM.out.set (a := ⟨o2, 0, none⟩) HF2.out (.int .i64 MT.R)).set (a := ⟨o2, 1, none⟩) HF2.out (.int .i64 MT.C)).set (a := ⟨o2, 2, none⟩) HF2.out (.int .i64 MT.F)).set (a := ⟨o2, 3, none⟩) HF2.out (.slice nd MT.n nc))
          replace HRN2 := Lib.hid ((((HRN2.out.set (a := ⟨o2, 0, none⟩) HF3.out (.int .i64 MT.R)).set (a := ⟨o2, 1, none⟩) HF3.out (.int .i64 MT.C)).set (a := ⟨o2, 2, none⟩) HF3.out (.int .i64 MT.F)).set (a := ⟨o2, 3, none⟩) HF3.out (.slice nd MT.n nc))
          have l2 : U1.heap.size ≤ o2 := by omega
          replace HGb := Lib.hid (Grown.setCell (Grown.setCell (Grown.setCell (Grown.setCell HGb.out (a := ⟨o2, 0, none⟩) l2 (.int .i64 MT.R)) (a := ⟨o2, 1, none⟩) l2 (.int .i64 MT.C)) (a := ⟨o2, 2, none⟩) l2 (.int .i64 MT.F)) (a := ⟨o2, 3, none⟩) l2 (.slice nd MT.n nc))
          generalize (((U7.setCell _ _).setCell _ _).setCell _ _).setCell _ _ = Y2 at HRM HRN2 HGb ⊢
          refine (htensor_any _ _ _ _ _ _ _ _ MT.g _ (by have := HMN.out; omega) HRM.out HRN2.out).mono ?_
          rintro e U8 ⟨rfl, hW⟩
          replace HL := Lib.hid ((HL.out.grown HGb.out).grown hW)
          clear hW HGb HRM HRN2 HO1 HO2 HCB
          go_wp2
          go_roundw
          case rel => exact ⟨1, .inr (.inl rfl), rfl, Lib.hid (fun f hf => HL.out f (List.mem_cons_of_mem _ (List.mem_cons_of_mem _ hf)))⟩
          case measure => simp [intOf]
        · obtain ⟨zl, zc0⟩ := HL.out.row 0 rfl
          have z0 := zc0 4 _ rfl
          have z1 := zc0 5 _ rfl
          have z2 := zc0 6 _ rfl
          have z3 := zc0 7 _ rfl
          clear zc0
          go_wp2_with fail
          clear zl z0 z1 z2 z3
          replace HL := Lib.hid ((HL.out.grown (Grown.alloc (Grown.refl wr) #[.int .i64 I, .int .i64 Y, .int .i64 F, .slice zd M zc] 24)).add (f := .ten wr.heap.size (.int .i64 I) (.int .i64 Y) (.int .i64 F) (.slice zd M zc)) (ten_new wr _ _ _ _ _))
          replace HL := Lib.hid (HL.out.grown (Grown.alloc (Grown.refl _) #[.slice sd sn sc, .slice yd I yc, .slice sd sn sc] 25))
          generalize (wr.alloc _).alloc _ = Z0 at HL ⊢
          generalize wr.heap.size = xb at HL ⊢
          obtain ⟨SV, hSV⟩ : ∃ v, sofV ⟨I, Y, F, M, zg⟩ I (plcG sn ys Y) = v := ⟨_, rfl⟩
          have HSV := Lib.hid hSV
          clear hSV
          obtain ⟨ST, hST⟩ : ∃ v, sofT ⟨I, Y, F, M, zg⟩ I (plcG sn ys Y) = v := ⟨_, rfl⟩
          have HST := Lib.hid hST
          clear hST
          obtain ⟨SX, hSX⟩ : ∃ v, labX ⟨I, Y, F, M, zg⟩ I (plcG sn ys Y) = v := ⟨_, rfl⟩
          have HSX := Lib.hid hSX
          clear hSX
          obtain ⟨RN, hRN⟩ : ∃ v, rgtN ⟨I, Y, F, M, zg⟩ I (plcG sn ys Y) = v := ⟨_, rfl⟩
          have HRN := Lib.hid hRN
          clear hRN
          obtain ⟨MV, hMV⟩ : ∃ v, mseV ⟨I, Y, F, M, zg⟩ ⟨I, Y, G, M, dg⟩ = v := ⟨_, rfl⟩
          have HMV := Lib.hid hMV
          clear hMV
          obtain ⟨MT, hMT⟩ : ∃ v, mseT ⟨I, Y, F, M, zg⟩ ⟨I, Y, G, M, dg⟩ = v := ⟨_, rfl⟩
          have HMT := Lib.hid hMT
          clear hMT
          obtain ⟨ME, hME⟩ : ∃ v, mseX ⟨I, Y, F, M, zg⟩ ⟨I, Y, G, M, dg⟩ = v := ⟨_, rfl⟩
          have HME := Lib.hid hME
          clear hME
          refine (lsoft_any I Y F zd yd M zc I yc zg (plcG sn ys Y) _ (by omega) (by omega) (HL.out.rd 6 rfl) (HL.out.ri 2 rfl)).mono ?_
          rw [HSV.out, HST.out, HSX.out]
          rintro e U1 ⟨xd1, xc1, rfl, hR, hn1, -, hW⟩
          have HN1 := Lib.hid hn1
          replace HL := Lib.hid ((HL.out.grown hW).add (f := .rd xd1 ST.n ST.g) hR)
          clear hR hn1 hW
          obtain ⟨p0, p1, p2, p3, p4, -, -, -, -⟩ := HL.out.ten 1 rfl
          go_wp2_with fail
          clear p0 p1 p2 p3 p4
          have HO1 := Lib.hid (ten_new U1 (.int .i64 ST.R) (.int .i64 ST.C) (.int .i64 ST.F) (.slice xd1 ST.n xc1) 24)
          have HGb := Lib.hid (show Grown U1 (U1.alloc (.cells #[.int .i64 ST.R, .int .i64 ST.C, .int .i64 ST.F, .slice xd1 ST.n xc1] 24)) from gr)
          generalize U1.alloc _ = Z1 at HO1 HGb ⊢
          obtain ⟨o1, ho1⟩ : ∃ o, U1.heap.size = o := ⟨_, rfl⟩
          have HOE := Lib.hid ho1
          rw [ho1] at HO1 ⊢
          clear ho1
          refine (rsoft_any I Y F zd yd M zc I yc zg (plcG sn ys Y) _ (by omega) (by omega) ((HL.out.rd 7 rfl).grown HGb.out) ((HL.out.ri 3 rfl).grown HGb.out)).mono ?_
          rw [HSV.out, HST.out, HSX.out]
          rintro e U2 ⟨xd2, xc2, rfl, hR, -, -, hW⟩
          have HR2 := Lib.hid hR
          replace HO1 := Lib.hid (HO1.out.grown hW)
          replace HGb := Lib.hid (grown_trans HGb.out hW)
          clear hR hW
          obtain ⟨p0, p1, p2, p3, p4, -, -, -, -⟩ := (HL.out.ten 1 rfl).grown HGb.out
          go_wp2_with fail
          clear p0 p1 p2 p3 p4
          have HO2 := Lib.hid (ten_new U2 (.int .i64 ST.R) (.int .i64 ST.C) (.int .i64 ST.F) (.slice xd2 ST.n xc2) 24)
          have hal := Grown.alloc (Grown.refl U2) #[.int .i64 ST.R, .int .i64 ST.C, .int .i64 ST.F, .slice xd2 ST.n xc2] 24
          have HLT := Lib.hid HO1.out.lies
          replace HO1 := Lib.hid (HO1.out.grown hal)
          replace HR2 := Lib.hid (HR2.out.grown hal)
          replace HGb := Lib.hid (grown_trans HGb.out hal)
          clear hal
          generalize U2.alloc _ = Z2 at HO1 HO2 HR2 HGb ⊢
          generalize U2.heap.size = o2 at HO2 HLT ⊢
          refine (lright_any I Y F zd yd M zc I yc zg (plcG sn ys Y) _ (by omega) (by omega) ((HL.out.rd 7 rfl).grown HGb.out) ((HL.out.ri 3 rfl).grown HGb.out)).mono ?_
          rw [HRN.out, HSX.out]
          rintro e U3 ⟨rfl, hW⟩
          replace HO1 := Lib.hid (HO1.out.grown hW)
          replace HO2 := Lib.hid (HO2.out.grown hW)
          replace HR2 := Lib.hid (HR2.out.grown hW)
          replace HGb := Lib.hid (grown_trans HGb.out hW)
          clear hW
          obtain ⟨p0, p1, p2, p3, p4, -, -, -, -⟩ := (HL.out.ten 1 rfl).grown HGb.out
          go_wp2_with fail
          clear p0 p1 p2 p3 p4
          refine (rrows_any I Y F zd yd M zc I yc zg (plcG sn ys Y) _ (by omega) (by omega) ((HL.out.rd 7 rfl).grown HGb.out) ((HL.out.ri 3 rfl).grown HGb.out)).mono ?_
          rw [HRN.out, HSX.out]
          rintro e U4 ⟨rfl, hW⟩
          replace HO1 := Lib.hid (HO1.out.grown hW)
          replace HO2 := Lib.hid (HO2.out.grown hW)
          replace HR2 := Lib.hid (HR2.out.grown hW)
          replace HGb := Lib.hid (grown_trans HGb.out hW)
          clear hW
          obtain ⟨p0, p1, p2, p3, p4, -, -, -, -⟩ := HO1.out
          obtain ⟨q0, q1, q2, q3, q4, -, -, -, -⟩ := HO2.out
          have b1 : (SX != SX) = false := by simp
          have b2 : (SV != SV) = false := by simp
          have b3 : (RN != RN) = false := by simp
          go_wp2_with fail
          clear p0 p1 p2 p3 p4 q0 q1 q2 q3 q4
          refine (htensor_any _ _ _ _ _ _ _ _ ST.g _ (by have := HN1.out; omega) ((HL.out.rd 0 rfl).grown HGb.out) HR2.out).mono ?_
          rintro e U5 ⟨rfl, hW⟩
          replace HO1 := Lib.hid (HO1.out.grown hW)
          replace HO2 := Lib.hid (HO2.out.grown hW)
          replace HGb := Lib.hid (grown_trans HGb.out hW)
          clear hW HR2
          obtain ⟨p0, p1, p2, p3, p4, -, -, -, -⟩ := (HL.out.ten 8 rfl).grown HGb.out
          obtain ⟨q0, q1, q2, q3, q4, -, -, -, -⟩ := (HL.out.ten 4 rfl).grown HGb.out
          obtain ⟨r0, r1, r2, r3, r4, -, -, -, -⟩ := (HL.out.ten 1 rfl).grown HGb.out
          go_wp2_with fail
          clear p0 p1 p2 p3 p4 q0 q1 q2 q3 q4 r0 r1 r2 r3 r4 b1 b2 b3
          have HL5 := Lib.hid HO2.out.lies
          have HCB := Lib.hid (ten_new2 U5 #[.int .i64 bR, .int .i64 bC, .int .i64 bF, .slice bd bn cb, .int .i64 I, .int .i64 Y, .int .i64 G, .slice dd M dc, .int .i64 bR, .int .i64 bC, .int .i64 bF, .slice bd bn cb] 24 (.int .i64 I) (.int .i64 Y) (.int .i64 G) (.slice dd M dc) 24)
          have hal : Grown U5 ((U5.alloc (.cells #[.int .i64 bR, .int .i64 bC, .int .i64 bF, .slice bd bn cb, .int .i64 I, .int .i64 Y, .int .i64 G, .slice dd M dc, .int .i64 bR, .int .i64 bC, .int .i64 bF, .slice bd bn cb] 24)).alloc (.cells #[.int .i64 I, .int .i64 Y, .int .i64 G, .slice dd M dc] 24)) := gr
          replace HO1 := Lib.hid (HO1.out.grown hal)
          replace HO2 := Lib.hid (HO2.out.grown hal)
          replace HGb := Lib.hid (grown_trans HGb.out hal)
          have HLC := Lib.hid (show o2 < U5.heap.size + 1 from by have := HL5.out; omega)
          clear hal
          generalize (U5.alloc _).alloc _ = Z5 at HO1 HO2 HGb HCB ⊢
          generalize U5.heap.size + 1 = cbx at HCB HLC ⊢
          refine (lmse_any I Y F I Y G zd dd M M zc dc zg dg _ (by omega) (by omega) ((HL.out.rd 7 rfl).grown HGb.out) ((HL.out.rd 5 rfl).grown HGb.out)).mono ?_
          rw [HMV.out, HMT.out, HME.out]
          rintro e U6 ⟨md, mc, rfl, hR, hn1, hf, hW⟩
          have HMN := Lib.hid hn1
          have HF1 := Lib.hid (hf.off HO1.out.lies)
          have HF2 := Lib.hid (hf.off HO2.out.lies)
          have HRM := Lib.hid hR
          have e1 := HOE.out
          have e2 := HLT.out
          have e3 := HLC.out
          have e4 := (HL.out.ten 1 rfl).lies
          replace HO1 := Lib.hid (HO1.out.grown hW)
          replace HO2 := Lib.hid (HO2.out.grown hW)
          replace HCB := Lib.hid (HCB.out.grown hW)
          replace HGb := Lib.hid (grown_trans HGb.out hW)
          clear hR hn1 hf hW
          have n1 : ¬ xb = o1 := by omega
          have n2 : ¬ o1 = xb := by omega
          have n3 : ¬ cbx = o1 := by omega
          have n4 : ¬ o1 = cbx := by omega
          have n5 : ¬ o1 = o2 := by omega
          have n6 : ¬ o2 = o1 := by omega
          obtain ⟨p0, p1, p2, p3, p4, p5, p6, p7, p8⟩ := HO1.out
          obtain ⟨q0, q1, q2, q3, q4, -, -, -, -⟩ := (HL.out.ten 1 rfl).grown HGb.out
          obtain ⟨r0, r1, r2, r3, r4, -, -, -, -⟩ := HCB.out
          go_wp2_with fail
          clear p0 p1 p2 p3 p4 p5 p6 p7 p8 q0 q1 q2 q3 q4 r0 r1 r2 r3 r4
          replace HO2 := Lib.hid ((((HO2.out.set (a := ⟨o1, 0, none⟩) n6 (.int .i64 MT.R)).set (a := ⟨o1, 1, none⟩) n6 (.int .i64 MT.C)).set (a := ⟨o1, 2, none⟩) n6 (.int .i64 MT.F)).set (a := ⟨o1, 3, none⟩) n6 (.slice md MT.n mc))
          replace HRM := Lib.hid ((((HRM.out.set (a := ⟨o1, 0, none⟩) HF1.out (.int .i64 MT.R)).set (a := ⟨o1, 1, none⟩) HF1.out (.int .i64 MT.C)).set (a := ⟨o1, 2, none⟩) HF1.out (.int .i64 MT.F)).set (a := ⟨o1, 3, none⟩) HF1.out (.slice md MT.n mc))
          replace HO1 := Lib.hid (HO1.out.four (.int .i64 MT.R) (.int .i64 MT.C) (.int .i64 MT.F) (.slice md MT.n mc))
          have l1 : U1.heap.size ≤ o1 := by omega
          replace HGb := Lib.hid (Grown.setCell (Grown.setCell (Grown.setCell (Grown.setCell HGb.out (a := ⟨o1, 0, none⟩) l1 (.int .i64 MT.R)) (a := ⟨o1, 1, none⟩) l1 (.int .i64 MT.C)) (a := ⟨o1, 2, none⟩) l1 (.int .i64 MT.F)) (a := ⟨o1, 3, none⟩) l1 (.slice md MT.n mc))
          generalize (((U6.setCell _ _).setCell _ _).setCell _ _).setCell _ _ = Y1 at HO1 HO2 HRM HGb ⊢
          refine (rmse_any I Y F I Y G zd dd M M zc dc zg dg _ (by omega) (by omega) ((HL.out.rd 7 rfl).grown HGb.out) ((HL.out.rd 5 rfl).grown HGb.out)).mono ?_
          rw [HMV.out, HMT.out, HME.out]
          rintro e U7 ⟨nd, nc, rfl, hR, -, hf, hW⟩
          have HF3 := Lib.hid (hf.off HO2.out.lies)
          have HRN2 := Lib.hid hR
          replace HO1 := Lib.hid (HO1.out.grown hW)
          replace HO2 := Lib.hid (HO2.out.grown hW)
          replace HRM := Lib.hid (HRM.out.grown hW)
          replace HGb := Lib.hid (grown_trans HGb.out hW)
          clear hR hf hW
          obtain ⟨p0, p1, p2, p3, p4, p5, p6, p7, p8⟩ := HO2.out
          obtain ⟨q0, q1, q2, q3, q4, -, -, -, -⟩ := HO1.out
          have b1 : (ME != ME) = false := by simp
          have b2 : (MV != MV) = false := by simp
          go_wp2_with fail
          clear p0 p1 p2 p3 p4 p5 p6 p7 p8 q0 q1 q2 q3 q4
          replace HRM := Lib.hid ((((HRM.out.set (a := ⟨o2, 0, none⟩) HF2.out (.int .i64 MT.R)).set (a := ⟨o2, 1, none⟩) HF2.out (.int .i64 MT.C)).set (a := ⟨o2, 2, none⟩) HF2.out (.int .i64 MT.F)).set (a := ⟨o2, 3, none⟩) HF2.out (.slice nd MT.n nc))
          replace HRN2 := Lib.hid ((((HRN2.out.set (a := ⟨o2, 0, none⟩) HF3.out (.int .i64 MT.R)).set (a := ⟨o2, 1, none⟩) HF3.out (.int .i64 MT.C)).set (a := ⟨o2, 2, none⟩) HF3.out (.int .i64 MT.F)).set (a := ⟨o2, 3, none⟩) HF3.out (.slice nd MT.n nc))
          have l2 : U1.heap.size ≤ o2 := by omega
          replace HGb := Lib.hid (Grown.setCell (Grown.setCell (Grown.setCell (Grown.setCell HGb.out (a := ⟨o2, 0, none⟩) l2 (.int .i64 MT.R)) (a := ⟨o2, 1, none⟩) l2 (.int .i64 MT.C)) (a := ⟨o2, 2, none⟩) l2 (.int .i64 MT.F)) (a := ⟨o2, 3, none⟩) l2 (.slice nd MT.n nc))
          generalize (((U7.setCell _ _).setCell _ _).setCell _ _).setCell _ _ = Y2 at HRM HRN2 HGb ⊢
          refine (htensor_any _ _ _ _ _ _ _ _ MT.g _ (by have := HMN.out; omega) HRM.out HRN2.out).mono ?_
          rintro e U8 ⟨rfl, hW⟩
          replace HL := Lib.hid ((HL.out.grown HGb.out).grown hW)
          clear hW HGb HRM HRN2 HO1 HO2 HCB
          go_wp2
          go_roundw
          case rel => exact ⟨2, .inr (.inr (.inl rfl)), rfl, Lib.hid (fun f hf => HL.out f (List.mem_cons_of_mem _ (List.mem_cons_of_mem _ hf)))⟩
          case measure => simp [intOf]
        · obtain ⟨zl, zc0⟩ := HL.out.row 0 rfl
          have z0 := zc0 8 _ rfl
          have z1 := zc0 9 _ rfl
          have z2 := zc0 10 _ rfl
          have z3 := zc0 11 _ rfl
          clear zc0
          go_wp2_with fail
          clear zl z0 z1 z2 z3
          replace HL := Lib.hid ((HL.out.grown (Grown.alloc (Grown.refl wr) #[.int .i64 I, .int .i64 Y, .int .i64 F, .slice zd M zc] 24)).add (f := .ten wr.heap.size (.int .i64 I) (.int .i64 Y) (.int .i64 F) (.slice zd M zc)) (ten_new wr _ _ _ _ _))
          replace HL := Lib.hid (HL.out.grown (Grown.alloc (Grown.refl _) #[.slice sd sn sc, .slice yd I yc, .slice sd sn sc] 25))
          generalize (wr.alloc _).alloc _ = Z0 at HL ⊢
          generalize wr.heap.size = xb at HL ⊢
          obtain ⟨SV, hSV⟩ : ∃ v, sofV ⟨I, Y, F, M, zg⟩ sn ys = v := ⟨_, rfl⟩
          have HSV := Lib.hid hSV
          clear hSV
          obtain ⟨ST, hST⟩ : ∃ v, sofT ⟨I, Y, F, M, zg⟩ sn ys = v := ⟨_, rfl⟩
          have HST := Lib.hid hST
          clear hST
          obtain ⟨SX, hSX⟩ : ∃ v, labX ⟨I, Y, F, M, zg⟩ sn ys = v := ⟨_, rfl⟩
          have HSX := Lib.hid hSX
          clear hSX
          obtain ⟨RN, hRN⟩ : ∃ v, rgtN ⟨I, Y, F, M, zg⟩ sn ys = v := ⟨_, rfl⟩
          have HRN := Lib.hid hRN
          clear hRN
          obtain ⟨MV, hMV⟩ : ∃ v, mseV ⟨I, Y, F, M, zg⟩ ⟨bR, bC, bF, bn, gb⟩ = v := ⟨_, rfl⟩
          have HMV := Lib.hid hMV
          clear hMV
          obtain ⟨MT, hMT⟩ : ∃ v, mseT ⟨I, Y, F, M, zg⟩ ⟨bR, bC, bF, bn, gb⟩ = v := ⟨_, rfl⟩
          have HMT := Lib.hid hMT
          clear hMT
          obtain ⟨ME, hME⟩ : ∃ v, mseX ⟨I, Y, F, M, zg⟩ ⟨bR, bC, bF, bn, gb⟩ = v := ⟨_, rfl⟩
          have HME := Lib.hid hME
          clear hME
          refine (lsoft_any I Y F zd sd M zc sn sc zg ys _ (by omega) (by omega) (HL.out.rd 6 rfl) (HL.out.ri 13 rfl)).mono ?_
          rw [HSV.out, HST.out, HSX.out]
          rintro e U1 ⟨xd1, xc1, rfl, hR, hn1, -, hW⟩
          have HN1 := Lib.hid hn1
          replace HL := Lib.hid ((HL.out.grown hW).add (f := .rd xd1 ST.n ST.g) hR)
          clear hR hn1 hW
          obtain ⟨p0, p1, p2, p3, p4, -, -, -, -⟩ := HL.out.ten 1 rfl
          go_wp2_with fail
          clear p0 p1 p2 p3 p4
          have HO1 := Lib.hid (ten_new U1 (.int .i64 ST.R) (.int .i64 ST.C) (.int .i64 ST.F) (.slice xd1 ST.n xc1) 24)
          have HGb := Lib.hid (show Grown U1 (U1.alloc (.cells #[.int .i64 ST.R, .int .i64 ST.C, .int .i64 ST.F, .slice xd1 ST.n xc1] 24)) from gr)
          generalize U1.alloc _ = Z1 at HO1 HGb ⊢
          obtain ⟨o1, ho1⟩ : ∃ o, U1.heap.size = o := ⟨_, rfl⟩
          have HOE := Lib.hid ho1
          rw [ho1] at HO1 ⊢
          clear ho1
          refine (rsoft_any I Y F zd sd M zc sn sc zg ys _ (by omega) (by omega) ((HL.out.rd 7 rfl).grown HGb.out) ((HL.out.ri 14 rfl).grown HGb.out)).mono ?_
          rw [HSV.out, HST.out, HSX.out]
          rintro e U2 ⟨xd2, xc2, rfl, hR, -, -, hW⟩
          have HR2 := Lib.hid hR
          replace HO1 := Lib.hid (HO1.out.grown hW)
          replace HGb := Lib.hid (grown_trans HGb.out hW)
          clear hR hW
          obtain ⟨p0, p1, p2, p3, p4, -, -, -, -⟩ := (HL.out.ten 1 rfl).grown HGb.out
          go_wp2_with fail
          clear p0 p1 p2 p3 p4
          have HO2 := Lib.hid (ten_new U2 (.int .i64 ST.R) (.int .i64 ST.C) (.int .i64 ST.F) (.slice xd2 ST.n xc2) 24)
          have hal := Grown.alloc (Grown.refl U2) #[.int .i64 ST.R, .int .i64 ST.C, .int .i64 ST.F, .slice xd2 ST.n xc2] 24
          have HLT := Lib.hid HO1.out.lies
          replace HO1 := Lib.hid (HO1.out.grown hal)
          replace HR2 := Lib.hid (HR2.out.grown hal)
          replace HGb := Lib.hid (grown_trans HGb.out hal)
          clear hal
          generalize U2.alloc _ = Z2 at HO1 HO2 HR2 HGb ⊢
          generalize U2.heap.size = o2 at HO2 HLT ⊢
          refine (lright_any I Y F zd sd M zc sn sc zg ys _ (by omega) (by omega) ((HL.out.rd 7 rfl).grown HGb.out) ((HL.out.ri 14 rfl).grown HGb.out)).mono ?_
          rw [HRN.out, HSX.out]
          rintro e U3 ⟨rfl, hW⟩
          replace HO1 := Lib.hid (HO1.out.grown hW)
          replace HO2 := Lib.hid (HO2.out.grown hW)
          replace HR2 := Lib.hid (HR2.out.grown hW)
          replace HGb := Lib.hid (grown_trans HGb.out hW)
          clear hW
          obtain ⟨p0, p1, p2, p3, p4, -, -, -, -⟩ := (HL.out.ten 1 rfl).grown HGb.out
          go_wp2_with fail
          clear p0 p1 p2 p3 p4
          refine (rrows_any I Y F zd sd M zc sn sc zg ys _ (by omega) (by omega) ((HL.out.rd 7 rfl).grown HGb.out) ((HL.out.ri 14 rfl).grown HGb.out)).mono ?_
          rw [HRN.out, HSX.out]
          rintro e U4 ⟨rfl, hW⟩
          replace HO1 := Lib.hid (HO1.out.grown hW)
          replace HO2 := Lib.hid (HO2.out.grown hW)
          replace HR2 := Lib.hid (HR2.out.grown hW)
          replace HGb := Lib.hid (grown_trans HGb.out hW)
          clear hW
          obtain ⟨p0, p1, p2, p3, p4, -, -, -, -⟩ := HO1.out
          obtain ⟨q0, q1, q2, q3, q4, -, -, -, -⟩ := HO2.out
          have b1 : (SX != SX) = false := by simp
          have b2 : (SV != SV) = false := by simp
          have b3 : (RN != RN) = false := by simp
          go_wp2_with fail
          clear p0 p1 p2 p3 p4 q0 q1 q2 q3 q4
          refine (htensor_any _ _ _ _ _ _ _ _ ST.g _ (by have := HN1.out; omega) ((HL.out.rd 0 rfl).grown HGb.out) HR2.out).mono ?_
          rintro e U5 ⟨rfl, hW⟩
          replace HO1 := Lib.hid (HO1.out.grown hW)
          replace HO2 := Lib.hid (HO2.out.grown hW)
          replace HGb := Lib.hid (grown_trans HGb.out hW)
          clear hW HR2
          obtain ⟨p0, p1, p2, p3, p4, -, -, -, -⟩ := (HL.out.ten 8 rfl).grown HGb.out
          obtain ⟨q0, q1, q2, q3, q4, -, -, -, -⟩ := (HL.out.ten 4 rfl).grown HGb.out
          obtain ⟨r0, r1, r2, r3, r4, -, -, -, -⟩ := (HL.out.ten 1 rfl).grown HGb.out
          go_wp2_with fail
          clear p0 p1 p2 p3 p4 q0 q1 q2 q3 q4 r0 r1 r2 r3 r4 b1 b2 b3
          have HL5 := Lib.hid HO2.out.lies
          have HCB := Lib.hid (ten_new2 U5 #[.int .i64 bR, .int .i64 bC, .int .i64 bF, .slice bd bn cb, .int .i64 I, .int .i64 Y, .int .i64 G, .slice dd M dc, .int .i64 bR, .int .i64 bC, .int .i64 bF, .slice bd bn cb] 24 (.int .i64 bR) (.int .i64 bC) (.int .i64 bF) (.slice bd bn cb) 24)
          have hal : Grown U5 ((U5.alloc (.cells #[.int .i64 bR, .int .i64 bC, .int .i64 bF, .slice bd bn cb, .int .i64 I, .int .i64 Y, .int .i64 G, .slice dd M dc, .int .i64 bR, .int .i64 bC, .int .i64 bF, .slice bd bn cb] 24)).alloc (.cells #[.int .i64 bR, .int .i64 bC, .int .i64 bF, .slice bd bn cb] 24)) := gr
          replace HO1 := Lib.hid (HO1.out.grown hal)
          replace HO2 := Lib.hid (HO2.out.grown hal)
          replace HGb := Lib.hid (grown_trans HGb.out hal)
          have HLC := Lib.hid (show o2 < U5.heap.size + 1 from by have := HL5.out; omega)
          clear hal
          generalize (U5.alloc _).alloc _ = Z5 at HO1 HO2 HGb HCB ⊢
          generalize U5.heap.size + 1 = cbx at HCB HLC ⊢
          refine (lmse_any I Y F bR bC bF zd bd M bn zc cb zg gb _ (by omega) (by omega) ((HL.out.rd 7 rfl).grown HGb.out) ((HL.out.rd 12 rfl).grown HGb.out)).mono ?_
          rw [HMV.out, HMT.out, HME.out]
          rintro e U6 ⟨md, mc, rfl, hR, hn1, hf, hW⟩
          have HMN := Lib.hid hn1
          have HF1 := Lib.hid (hf.off HO1.out.lies)
          have HF2 := Lib.hid (hf.off HO2.out.lies)
          have HRM := Lib.hid hR
          have e1 := HOE.out
          have e2 := HLT.out
          have e3 := HLC.out
          have e4 := (HL.out.ten 1 rfl).lies
          replace HO1 := Lib.hid (HO1.out.grown hW)
          replace HO2 := Lib.hid (HO2.out.grown hW)
          replace HCB := Lib.hid (HCB.out.grown hW)
          replace HGb := Lib.hid (grown_trans HGb.out hW)
          clear hR hn1 hf hW
          have n1 : ¬ xb = o1 := by omega
          have n2 : ¬ o1 = xb := by omega
          have n3 : ¬ cbx = o1 := by omega
          have n4 : ¬ o1 = cbx := by omega
          have n5 : ¬ o1 = o2 := by omega
          have n6 : ¬ o2 = o1 := by omega
          obtain ⟨p0, p1, p2, p3, p4, p5, p6, p7, p8⟩ := HO1.out
          obtain ⟨q0, q1, q2, q3, q4, -, -, -, -⟩ := (HL.out.ten 1 rfl).grown HGb.out
          obtain ⟨r0, r1, r2, r3, r4, -, -, -, -⟩ := HCB.out
          go_wp2_with fail
          clear p0 p1 p2 p3 p4 p5 p6 p7 p8 q0 q1 q2 q3 q4 r0 r1 r2 r3 r4
          replace HO2 := Lib.hid ((((HO2.out.set (a := ⟨o1, 0, none⟩) n6 (.int .i64 MT.R)).set (a := ⟨o1, 1, none⟩) n6 (.int .i64 MT.C)).set (a := ⟨o1, 2, none⟩) n6 (.int .i64 MT.F)).set (a := ⟨o1, 3, none⟩) n6 (.slice md MT.n mc))
          replace HRM := Lib.hid ((((HRM.out.set (a := ⟨o1, 0, none⟩) HF1.out (.int .i64 MT.R)).set (a := ⟨o1, 1, none⟩) HF1.out (.int .i64 MT.C)).set (a := ⟨o1, 2, none⟩) HF1.out (.int .i64 MT.F)).set (a := ⟨o1, 3, none⟩) HF1.out (.slice md MT.n mc))
          replace HO1 := Lib.hid (HO1.out.four (.int .i64 MT.R) (.int .i64 MT.C) (.int .i64 MT.F) (.slice md MT.n mc))
          have l1 : U1.heap.size ≤ o1 := by omega
          replace HGb := Lib.hid (Grown.setCell (Grown.setCell (Grown.setCell (Grown.setCell HGb.out (a := ⟨o1, 0, none⟩) l1 (.int .i64 MT.R)) (a := ⟨o1, 1, none⟩) l1 (.int .i64 MT.C)) (a := ⟨o1, 2, none⟩) l1 (.int .i64 MT.F)) (a := ⟨o1, 3, none⟩) l1 (.slice md MT.n mc))
          generalize (((U6.setCell _ _).setCell _ _).setCell _ _).setCell _ _ = Y1 at HO1 HO2 HRM HGb ⊢
          refine (rmse_any I Y F bR bC bF zd bd M bn zc cb zg gb _ (by omega) (by omega) ((HL.out.rd 7 rfl).grown HGb.out) ((HL.out.rd 12 rfl).grown HGb.out)).mono ?_
          rw [HMV.out, HMT.out, HME.out]
          rintro e U7 ⟨nd, nc, rfl, hR, -, hf, hW⟩
          have HF3 := Lib.hid (hf.off HO2.out.lies)
          have HRN2 := Lib.hid hR
          replace HO1 := Lib.hid (HO1.out.grown hW)
          replace HO2 := Lib.hid (HO2.out.grown hW)
          replace HRM := Lib.hid (HRM.out.grown hW)
          replace HGb := Lib.hid (grown_trans HGb.out hW)
          clear hR hf hW
          obtain ⟨p0, p1, p2, p3, p4, p5, p6, p7, p8⟩ := HO2.out
          obtain ⟨q0, q1, q2, q3, q4, -, -, -, -⟩ := HO1.out
          have b1 : (ME != ME) = false := by simp
          have b2 : (MV != MV) = false := by simp
          go_wp2_with fail
          clear p0 p1 p2 p3 p4 p5 p6 p7 p8 q0 q1 q2 q3 q4
          replace HRM := Lib.hid ((((HRM.out.set (a := ⟨o2, 0, none⟩) HF2.out (.int .i64 MT.R)).set (a := ⟨o2, 1, none⟩) HF2.out (.int .i64 MT.C)).set (a := ⟨o2, 2, none⟩) HF2.out (.int .i64 MT.F)).set (a := ⟨o2, 3, none⟩) HF2.out (.slice nd MT.n nc))
          replace HRN2 := Lib.hid ((((HRN2.out.set (a := ⟨o2, 0, none⟩) HF3.out (.int .i64 MT.R)).set (a := ⟨o2, 1, none⟩) HF3.out (.int .i64 MT.C)).set (a := ⟨o2, 2, none⟩) HF3.out (.int .i64 MT.F)).set (a := ⟨o2, 3, none⟩) HF3.out (.slice nd MT.n nc))
          have l2 : U1.heap.size ≤ o2 := by omega
          replace HGb := Lib.hid (Grown.setCell (Grown.setCell (Grown.setCell (Grown.setCell HGb.out (a := ⟨o2, 0, none⟩) l2 (.int .i64 MT.R)) (a := ⟨o2, 1, none⟩) l2 (.int .i64 MT.C)) (a := ⟨o2, 2, none⟩) l2 (.int .i64 MT.F)) (a := ⟨o2, 3, none⟩) l2 (.slice nd MT.n nc))
          generalize (((U7.setCell _ _).setCell _ _).setCell _ _).setCell _ _ = Y2 at HRM HRN2 HGb ⊢
          refine (htensor_any _ _ _ _ _ _ _ _ MT.g _ (by have := HMN.out; omega) HRM.out HRN2.out).mono ?_
          rintro e U8 ⟨rfl, hW⟩
          replace HL := Lib.hid ((HL.out.grown HGb.out).grown hW)
          clear hW HGb HRM HRN2 HO1 HO2 HCB
          go_wp2
          go_roundw
          case rel => exact ⟨3, .inr (.inr (.inr rfl)), rfl, Lib.hid (fun f hf => HL.out f (List.mem_cons_of_mem _ (List.mem_cons_of_mem _ hf)))⟩
          case measure => simp [intOf]
        · have HG := Lib.hid (HL.out.gr 8 rfl)
          go_wp2
          go_ret
          exact ⟨rfl, HG.out⟩

set_option maxRecDepth 100000 in
set_option maxHeartbeats 1000000 in
theorem ltells_end (w : World) (aR aC aF bR bC bF m n f : Int) (ad bd sd ld : Option Addr) (an ca bn cb sn sc ln lc : Nat) (ga gb ys lg : Nat → Int) (mild : Bool) (h : ¬ (lightB aR aC an = true ∧ lightB bR bC bn = true ∧ sn ≤ 30 ∧ ln ≤ 30)) :
    Calls Tryz.prog 3 #[.agg #[.int .i64 aR, .int .i64 aC, .int .i64 aF, .slice ad an ca], .agg #[.int .i64 bR, .int .i64 bC, .int .i64 bF, .slice bd bn cb], .slice sd sn sc, .int .u8 m, .int .u8 n, .int .u8 f, .slice ld ln lc, .bool mild] w fun e w' => e = .returned (.bool true) ∧ Grown w w' := by
  have HL := Lib.hid (((Lot.nil w).add (f := .gr w) (Grown.refl w)).grown (Grown.alloc (Grown.alloc (Grown.refl w) #[.int .i64 aR, .int .i64 aC, .int .i64 aF, .slice ad an ca] 24) #[.int .i64 bR, .int .i64 bC, .int .i64 bF, .slice bd bn cb] 24) |>.add (f := .ten w.heap.size (.int .i64 aR) (.int .i64 aC) (.int .i64 aF) (.slice ad an ca)) ((ten_new w _ _ _ _ _).grown (Grown.alloc (Grown.refl _) _ _)) |>.add (f := .ten (w.heap.size + 1) (.int .i64 bR) (.int .i64 bC) (.int .i64 bF) (.slice bd bn cb)) (ten_new2 w _ _ _ _ _ _ _))
  cases ha : lightB aR aC an
  · have HA := Lib.hid ha
    clear ha h
    go_enter Tryz.func3, Tryz.ntmps3
    go_wp2_with fail
    generalize (w.alloc _).alloc _ = W0 at HL ⊢
    refine (known16_any _).mono ?_
    rintro e W1 ⟨rfl, hW1⟩
    replace HL := Lib.hid (HL.out.grown hW1)
    clear hW1
    obtain ⟨p0, p1, p2, p3, p4, -, -, -, -⟩ := HL.out.ten 1 rfl
    go_wp2_with fail
    refine (hlight_any _ _ _ _ _ _ _).mono ?_
    rw [HA.out]
    rintro e W2 ⟨rfl, hW2⟩
    replace HL := Lib.hid (HL.out.grown hW2)
    have HG := Lib.hid (HL.out.gr 2 rfl)
    clear hW2 p0 p1 p2 p3 p4
    go_wp2
    go_ret
    exact ⟨rfl, HG.out⟩
  · have HA := Lib.hid ha
    cases hb : lightB bR bC bn
    · have HB := Lib.hid hb
      clear ha hb h
      go_enter Tryz.func3, Tryz.ntmps3
      go_wp2_with fail
      generalize (w.alloc _).alloc _ = W0 at HL ⊢
      refine (known16_any _).mono ?_
      rintro e W1 ⟨rfl, hW1⟩
      replace HL := Lib.hid (HL.out.grown hW1)
      clear hW1
      obtain ⟨p0, p1, p2, p3, p4, -, -, -, -⟩ := HL.out.ten 1 rfl
      go_wp2_with fail
      refine (hlight_any _ _ _ _ _ _ _).mono ?_
      rw [HA.out]
      rintro e W2 ⟨rfl, hW2⟩
      replace HL := Lib.hid (HL.out.grown hW2)
      clear hW2 p0 p1 p2 p3 p4
      obtain ⟨q0, q1, q2, q3, q4, -, -, -, -⟩ := HL.out.ten 0 rfl
      go_wp2_with fail
      refine (hlight_any _ _ _ _ _ _ _).mono ?_
      rw [HB.out]
      rintro e W3 ⟨rfl, hW3⟩
      replace HL := Lib.hid (HL.out.grown hW3)
      have HG := Lib.hid (HL.out.gr 2 rfl)
      clear hW3 q0 q1 q2 q3 q4
      go_wp2
      go_ret
      exact ⟨rfl, HG.out⟩
    · have HB := Lib.hid hb
      by_cases c : sn ≤ 30
      · have t1 : (30 : Int) < (ln : Int) := by
          have : ¬ ln ≤ 30 := fun e => h ⟨ha, hb, c, e⟩
          omega
        have t2 : ¬ (30 : Int) < (sn : Int) := by omega
        clear ha hb h
        go_enter Tryz.func3, Tryz.ntmps3
        go_wp2_with fail
        generalize (w.alloc _).alloc _ = W0 at HL ⊢
        refine (known16_any _).mono ?_
        rintro e W1 ⟨rfl, hW1⟩
        replace HL := Lib.hid (HL.out.grown hW1)
        clear hW1
        obtain ⟨p0, p1, p2, p3, p4, -, -, -, -⟩ := HL.out.ten 1 rfl
        go_wp2_with fail
        refine (hlight_any _ _ _ _ _ _ _).mono ?_
        rw [HA.out]
        rintro e W2 ⟨rfl, hW2⟩
        replace HL := Lib.hid (HL.out.grown hW2)
        clear hW2 p0 p1 p2 p3 p4
        obtain ⟨q0, q1, q2, q3, q4, -, -, -, -⟩ := HL.out.ten 0 rfl
        go_wp2_with fail
        refine (hlight_any _ _ _ _ _ _ _).mono ?_
        rw [HB.out]
        rintro e W3 ⟨rfl, hW3⟩
        replace HL := Lib.hid (HL.out.grown hW3)
        have HG := Lib.hid (HL.out.gr 2 rfl)
        clear hW3 q0 q1 q2 q3 q4
        go_wp2
        go_ret
        exact ⟨rfl, HG.out⟩
      · have t2 : (30 : Int) < (sn : Int) := by omega
        clear ha hb h
        go_enter Tryz.func3, Tryz.ntmps3
        go_wp2_with fail
        generalize (w.alloc _).alloc _ = W0 at HL ⊢
        refine (known16_any _).mono ?_
        rintro e W1 ⟨rfl, hW1⟩
        replace HL := Lib.hid (HL.out.grown hW1)
        clear hW1
        obtain ⟨p0, p1, p2, p3, p4, -, -, -, -⟩ := HL.out.ten 1 rfl
        go_wp2_with fail
        refine (hlight_any _ _ _ _ _ _ _).mono ?_
        rw [HA.out]
        rintro e W2 ⟨rfl, hW2⟩
        replace HL := Lib.hid (HL.out.grown hW2)
        clear hW2 p0 p1 p2 p3 p4
        obtain ⟨q0, q1, q2, q3, q4, -, -, -, -⟩ := HL.out.ten 0 rfl
        go_wp2_with fail
        refine (hlight_any _ _ _ _ _ _ _).mono ?_
        rw [HB.out]
        rintro e W3 ⟨rfl, hW3⟩
        replace HL := Lib.hid (HL.out.grown hW3)
        have HG := Lib.hid (HL.out.gr 2 rfl)
        clear hW3 q0 q1 q2 q3 q4
        go_wp2
        go_ret
        exact ⟨rfl, HG.out⟩

theorem ltells_walk (w : World) (a : Value) (Ta : TenIn a w) (b : Value) (Tb : TenIn b w) (y : Value) (Ly : IntsIn y w) (m : Int) (wm : (Lit.int .u8 m).wf = true) (n : Int) (wn : (Lit.int .u8 n).wf = true) (f : Int) (wf : (Lit.int .u8 f).wf = true) (l : Value) (Ll : ListIn l w) (mild : Bool) :
    Calls Tryz.prog 3 #[a, b, y, .int .u8 m, .int .u8 n, .int .u8 f, l, .bool mild] w fun e w' => e = .returned (.bool true) ∧ Grown w w' := by
  obtain ⟨aR, aC, aF, ad, an, ca, ga, rfl, _, _, _, _, _, _, a4⟩ := Ta
  obtain ⟨bR, bC, bF, bd, bn, cb, gb, rfl, _, _, _, _, _, _, b4⟩ := Tb
  obtain ⟨sd, sn, sc, ys, rfl, _, _, _, y4⟩ := Ly
  obtain ⟨ld, ln, lc, lg, rfl, _, _, _, l4⟩ := Ll
  obtain ⟨m0, m1⟩ := bounds_u8 wm
  obtain ⟨n0, n1⟩ := bounds_u8 wn
  obtain ⟨f0, f1⟩ := bounds_u8 wf
  by_cases h : lightB aR aC an = true ∧ lightB bR bC bn = true ∧ sn ≤ 30 ∧ ln ≤ 30
  · exact ltells_go w aR aC aF bR bC bF m n f ad bd sd ld an ca bn cb sn sc ln lc ga gb ys lg mild h.1 h.2.1 h.2.2.1 h.2.2.2 a4 b4 y4 l4 m0 m1 n0 n1 f0 f1
  · exact ltells_end w aR aC aF bR bC bF m n f ad bd sd ld an ca bn cb sn sc ln lc ga gb ys lg mild h

end Go.Proofs.YteifobleigfbaaaGreat
