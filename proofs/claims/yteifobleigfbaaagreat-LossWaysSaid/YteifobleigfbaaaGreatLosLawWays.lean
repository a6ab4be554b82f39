/- The walk of LossWays. (Written by gen73.py.) -/
import Derived.Test.YteifobleigfbaaaGreatLosKnown
import Derived.Test.YteifobleigfbaaaGreatLosWays
import Derived.Test.YteifobleigfbaaaGreatLosMse
import Derived.Test.YteifobleigfbaaaGreatRFun
import Derived.Test.YteifobleigfbaaaGreatRFmt
import Derived.Test.YteifobleigfbaaaGreatActM
import Derived.Deep.RegionLaw
import Derived.Deep.RegionHeld3
import Derived.Test.YteifobleigfbaaaGreatMapTwo
namespace Go.Proofs.YteifobleigfbaaaGreat
open Go Go.RowKit Go.Maps
set_option linter.unusedVariables false
set_option linter.unusedSimpArgs false

theorem four_plus (m : Int) (m0 : 0 ≤ m) : ∃ x X : Nat, m % 4 = (x : Int) ∧ (x : Int) + 1 = (X : Int) ∧ 1 ≤ X ∧ X ≤ 4 ∧ IntKind.i64.wrap ((x : Int) + 1) = (X : Int) := by
  refine ⟨(m % 4).toNat, (m % 4).toNat + 1, by omega, by omega, by omega, by omega, ?_⟩
  rw [IntKind.wrap_i64]; omega

/-- A slice literal of one whole number. -/
theorem readi_same (w : World) (x : Int) (t : TypeId) (h0 : -9223372036854775808 ≤ x) (h1 : x ≤ 9223372036854775807) : ReadsI (some ⟨w.heap.size, 0, none⟩) 1 (fun _ => x) (w.alloc (.cells #[.int .i64 x] t)) := by
  refine ⟨fun i hi => ⟨h0, h1⟩, .inr ⟨w.heap.size, 0, rfl, by simp, fun i hi => ?_⟩⟩
  obtain rfl : i = 0 := by omega
  rw [World.cell?_alloc_at (hn := rfl)]
  rfl

/-- Between two rounds of the row's making. -/
structure WaS (w : World) (oz : Nat) (C X : Int) (I : Nat) (v : Value) (wr : World) : Prop where
  g : Grown w wr
  t : TenAt oz (.int .i64 1) (.int .i64 C) (.int .i64 2) v wr
  own : wr.ownsRow (oz + 1) 29 1 v I (wordsL I (fun _ => X))
  o : w.heap.size ≤ oz

theorem WaS.grown {w : World} {oz : Nat} {C X : Int} {I : Nat} {v : Value} {wr W : World} (h : WaS w oz C X I v wr) (k : Grown wr W) : WaS w oz C X I v W := ⟨grown_trans h.g k, h.t.grown k, owns_grown h.own k, h.o⟩

theorem WaS.next {w : World} {oz : Nat} {C X : Int} {I : Nat} {v : Value} {W7 W8 : World} {gg cc : Nat} (h : WaS w oz C X I v W7) (own : W8.ownsRow (oz + 1) 29 1 (.slice (some ⟨gg, 0, none⟩) (I + 1) cc) (I + 1) (wordsL I (fun _ => X) ++ [.int .u32 X])) (hs : W7.heap.size ≤ W8.heap.size)
    (hcell : ∀ a : Addr, a.block < W7.heap.size → some a.block ≠ v.ownBlock → W8.cell? a = W7.cell? a) (hfr : ∀ a, W8.frozen? a = W7.frozen? a) (hgr : ∀ w0, Grown w0 W7 → w0.heap.size ≤ oz + 1 → Grown w0 W8) :
    TenAt oz (.int .i64 1) (.int .i64 C) (.int .i64 2) v W8 ∧ WaS w oz C X (I + 1) (.slice (some ⟨gg, 0, none⟩) (I + 1) cc) (W8.setCell ⟨oz, 3, none⟩ (.slice (some ⟨gg, 0, none⟩) (I + 1) cc)) := by
  have ne : some oz ≠ v.ownBlock := fun e => by have := (h.own.lt oz e.symm).1; omega
  have t8 := h.t.far hs (fun off => hcell _ h.t.lies ne) hfr
  refine ⟨t8, ?_, t8.put _, owns_set (by rw [wordsL_next]; exact own) (by show oz < oz + 1; omega) _, h.o⟩
  exact Grown.setCell (hgr w h.g (by have := h.o; omega)) (by show w.heap.size ≤ oz; exact h.o) _

set_option maxRecDepth 100000 in
set_option maxHeartbeats 4000000 in
theorem lways_go (w : World) (n y x : Int) (n0 : 0 ≤ n) (n1 : n ≤ 255) (y0 : 0 ≤ y) (y1 : y ≤ 255) (x0 : 0 ≤ x) (x1 : x ≤ 4294967295) :
    Calls Tryz.prog 4 #[.int .u8 n, .int .u8 y, .int .u32 x] w fun e w' => e = .returned (.bool true) ∧ Grown w w' := by
  obtain ⟨c', C, hc1, hc2, lc0, lc, hwc⟩ := four_plus n n0
  have hmm := @run_makeMap Tryz.prog
  obtain ⟨m, hm⟩ : ∃ m, milI 2 x = m := ⟨_, rfl⟩
  obtain ⟨b0, b1, b2⟩ : 0 ≤ milI 2 x ∧ milI 2 x ≤ 4294967295 ∧ finI 2 (milI 2 x) = true := by
    obtain ⟨h0, h1, h2⟩ := mil_two x x0
    exact ⟨h0, h1, (fin_kz _ h0 h1).2 (by unfold kz; split <;> omega)⟩
  rw [hm] at b0 b1 b2
  have HM := Lib.hid hm
  clear hm
  go_enter Tryz.func4, Tryz.ntmps4
  go_wp2_with fail
  refine (known16_any _).mono ?_
  rintro e W1 ⟨rfl, hW⟩
  go_wp2_with fail
  have HS : Hid (WaS w W1.heap.size C m 0 (.slice none 0 0) (W1.alloc (.cells #[.int .i64 1, .int .i64 C, .int .i64 2, .slice none 0 0] 24))) := Lib.hid ⟨grown_trans hW gr, ten_new W1 _ _ _ _ _, World.ownsRow_nil _ _ _ _, hW.2.2⟩
  clear hW
  clear hc1 hc2 hwc
  generalize W1.alloc _ = W2 at HS ⊢
  generalize W1.heap.size = oz at HS ⊢
  go_loopw [9] (fun i wr => ∃ (I : Nat) (v : Value), I ≤ C ∧ i = .int .i64 I ∧ WaS w oz C m I v wr) (fun i _ => C - (intOf i).toNat)
  case atStart => exact ⟨0, _, Nat.zero_le _, rfl, HS.out⟩
  case round =>
    rename World => wr
    clear HS
    obtain ⟨I, v, hI, rfl, hS⟩ := hrel
    have HS := Lib.hid hS
    clear hS
    by_cases hlt : I < C
    · have y3 : wr.cell? ⟨oz, 3, none⟩ = some v := HS.out.t.c3
      have p0 := HS.out.t.lies
      go_wp2_with fail
      go_region_law (first
        | (go_simp; go_at_call 18; refine (mild_is 2 x _ x0 x1).mono ?_; rintro e W3 ⟨he, dm, hd⟩; rw [HM.out] at he; subst he; have hW3 : Grown wr W3 := grown_trans gr (grown_dn hd); clear hd; replace y3 := grown_cell hW3 y3 HS.out.t.lies; replace HS := Lib.hid (HS.out.grown hW3); have yA : (W3.alloc (.cells #[.int .u32 m] 29)).cell? ⟨oz, 3, none⟩ = some v := grown_cell (Grown.alloc (Grown.refl W3) _ _) y3 HS.out.t.lies; clear hW3)
        | (refine step_append_one rfl _ _ 22 rfl 29 _ _ _ rfl rfl rfl rfl rfl rfl (oz + 1) v I (wordsL I (fun _ => m)) rfl (HS.out.own.alloc _) W3.heap.size (.int .u32 m) rfl (by go_simp) rfl (by show I + 1 ≤ 9223372036854775807; omega) (by show (I + 1) * 4 ≤ 140737488355328; omega) (by have := HS.out.t.lies; simp; omega) ?_; intro gg cc W8 own8 hb8 hs8 hblk hcell hfr hgr; obtain ⟨t8, hn8⟩ := (HS.out.grown (Grown.alloc (Grown.refl W3) #[.int .u32 m] 29)).next own8 hs8 hcell hfr hgr; have HN := Lib.hid hn8; have y8 := t8.c3; have z8 := t8.z3; clear own8 hb8 hs8 hblk hcell hfr hgr t8 hn8))
      all_goals
        go_wp2
        go_roundw
        case rel => exact ⟨I + 1, _, by omega, by go_num, HN.out⟩
        case measure => simp [intOf]; omega
    · obtain rfl : I = C := by omega
      obtain ⟨ad, cap, hv, hO, -⟩ := owns_told (w := w) HS.out.own (by have := HS.out.o; omega)
      subst hv
      have hR := hO.reads (fun _ _ => ⟨b0, b1⟩)
      obtain ⟨k, hk⟩ : ∃ k : Nat, y % (I : Int) = (k : Int) := ⟨(y % (I : Int)).toNat, by rw [Int.toNat_of_nonneg (Int.emod_nonneg _ (by omega))]⟩
      have hkI : k < I := by have := Int.emod_lt_of_pos y (show (0 : Int) < I by omega); omega
      have hrem : Int.tmod y (I : Int) = (k : Int) := by rw [Int.tmod_eq_emod_of_nonneg y0]; exact hk
      have hnz : ¬ (I : Int) = 0 := by omega
      obtain ⟨a1, a2, a3, a4⟩ := ways_all I lc0 lc m b0 b1 b2 k hkI (fun _ => m) (fun _ _ => rfl)
      have A1 := Lib.hid a1
      have A2 := Lib.hid a2
      have A3 := Lib.hid a3
      have A4 := Lib.hid a4
      have AT : Hid (sofT ⟨1, I, 2, I, fun _ => m⟩ 1 (fun _ => (k : Int)) = ⟨1, I, 2, I, (sofT ⟨1, I, 2, I, fun _ => m⟩ 1 (fun _ => (k : Int))).g⟩) := Lib.hid (by unfold sofT; rw [if_pos a1])
      have HL := Lib.hid (((Lot.nil wr).add (f := .gr w) HS.out.g).add (f := .rd ad I (fun _ => m)) hR |>.add (f := .ten oz (.int .i64 1) (.int .i64 I) (.int .i64 2) (.slice ad I cap)) HS.out.t)
      clear HS hO hR a1 a2 a3 a4 hk
      obtain ⟨p0, p1, p2, p3, p4, -, -, -, -⟩ := HL.out.ten 0 rfl
      go_wp2_with fail
      have HY := Lib.hid (readi_same wr k 3 (by omega) (by omega))
      replace HL := Lib.hid (HL.out.grown (Grown.alloc (Grown.refl wr) #[.int .i64 k] 3))
      clear p0 p1 p2 p3 p4
      generalize wr.heap.size = oy at HY ⊢
      generalize wr.alloc _ = W3 at HL HY ⊢
      refine (lsoft_any 1 I 2 ad _ I cap 1 1 (fun _ => m) (fun _ => (k : Int)) _ (by omega) (by decide) (HL.out.rd 1 rfl) HY.out).mono ?_
      rintro e W4 ⟨gd, gc, he, hR, -, -, hW⟩
      rw [AT.out, A1.out, A2.out] at he
      rw [AT.out] at hR
      dsimp only at he hR
      generalize (sofT ⟨1, I, 2, I, fun _ => m⟩ 1 (fun _ => (k : Int))).g = gg at *
      subst he
      replace HL := Lib.hid ((HL.out.grown hW).add (f := .rd gd I gg) hR)
      clear hW hR HY
      obtain ⟨p0, p1, p2, p3, p4, -, -, -, -⟩ := HL.out.ten 1 rfl
      go_wp2_with fail
      clear p0 p1 p2 p3 p4
      replace HL := Lib.hid ((HL.out.grown (Grown.alloc (Grown.refl W4) #[.int .i64 1, .int .i64 I, .int .i64 2, .slice gd I gc] 24)).add (f := .ten W4.heap.size (.int .i64 1) (.int .i64 I) (.int .i64 2) (.slice gd I gc)) (ten_new W4 _ _ _ _ _))
      generalize W4.alloc _ = W5 at HL ⊢
      generalize W4.heap.size = og at HL ⊢
      have HF := Lib.hid (cnt_frm I lc0 lc)
      have HSH := Lib.hid (shr_is I lc0 lc)
      have HCW := Lib.hid (show 0 ≤ cntW I ∧ cntW I ≤ 4294967295 by rw [← cnt_frm I lc0 lc]; exact frm_word _)
      go_loopw [14] (fun i wv => ∃ J : Nat, J ≤ I ∧ i = .int .i64 J ∧ Hid (Lot [.ten og (.int .i64 1) (.int .i64 I) (.int .i64 2) (.slice gd I gc), .rd gd I gg, .ten oz (.int .i64 1) (.int .i64 I) (.int .i64 2) (.slice ad I cap), .rd ad I (fun _ => m), .gr w] wv)) (fun i _ => I - (intOf i).toNat)
      case atStart => exact ⟨0, Nat.zero_le _, rfl, HL⟩
      case round =>
        rename World => wv
        clear HL
        obtain ⟨J, hJ, rfl, HL⟩ := hrel
        by_cases hlt2 : J < I
        · obtain ⟨bg, go, rfl, -, -⟩ : ∃ b off, gd = some ⟨b, off, none⟩ ∧ b < wv.heap.size ∧ ∀ i, i < I → wv.cell? ⟨b, off + i, none⟩ = some (.int .u32 (gg i)) := by
            rcases (HL.out.rd 1 rfl).2 with h | h
            · omega
            · exact h
          obtain ⟨l1, y1⟩ := read_at (HL.out.rd 1 rfl) hlt2
          have hG := A3.out J hlt2
          obtain ⟨q0, q1, q2, q3, q4, -, -, -, -⟩ := HL.out.ten 0 rfl
          have L1 : ∀ d : Later wv, d.w.cell? ⟨og, 3, none⟩ = some (.slice (some ⟨bg, go, none⟩) I gc) := fun d => grown_cell d.g q4 q0
          have L2 : ∀ d : Later wv, d.w.cell? ⟨bg, go + J, none⟩ = some (.int .u32 (gg J)) := fun d => grown_cell d.g y1 l1
          obtain ⟨G, hGe⟩ : ∃ G, gg J = G := ⟨_, rfl⟩
          rw [hGe] at L2 hG
          clear q0 q1 q2 q3 q4 y1 l1 hGe
          by_cases c : J = k
          · rw [if_pos c] at hG
            have c1 : ((J : Int) == (k : Int)) = true := by simp [c]
            have c2 : ((J : Int) != (k : Int)) = false := by simp [c]
            clear c
            obtain ⟨-, -, hw⟩ := shr_hit I lc0 lc
            by_cases c4 : 2 ≤ I
            · have hq : G / 2147483648 = 1 := by have := hw c4; rw [hG]; omega
              clear hG hw c4
              go_wp2_with fail
              refine region_later wv (by kernel_rfl) (by kernel_rfl) (Grown.refl _) ?_
              repeat (go_big_quiet_step (fail))
              refine wpQuiet_nil ?_
              rintro ⟨W8, hW8⟩
              replace HL := Lib.hid (HL.out.grown hW8)
              go_wp2
              go_roundw
              case rel => exact ⟨J + 1, by omega, by go_num, HL⟩
              case measure => simp [intOf]; omega
            · have hq : G / 2147483648 = 0 := by rw [hG, show I = 1 by omega]; rfl
              have d1 : decide ((1 : Int) < (I : Int)) = false := decide_eq_false (by omega)
              clear hG hw c4
              go_wp2_with fail
              refine region_later wv (by kernel_rfl) (by kernel_rfl) (Grown.refl _) ?_
              repeat (go_big_quiet_step (fail))
              refine wpQuiet_nil ?_
              rintro ⟨W8, hW8⟩
              replace HL := Lib.hid (HL.out.grown hW8)
              go_wp2
              go_roundw
              case rel => exact ⟨J + 1, by omega, by go_num, HL⟩
              case measure => simp [intOf]; omega
          · rw [if_neg c] at hG
            have c1 : ((J : Int) == (k : Int)) = false := by simp; omega
            have c2 : ((J : Int) != (k : Int)) = true := by simp; omega
            have HGS := Lib.hid hG
            have c3 : (G != G) = false := by simp
            clear hG c
            go_wp2_with fail
            refine region_later wv (by kernel_rfl) (by kernel_rfl) (Grown.refl _) ?_
            repeat (go_big_quiet_step ((first
              | (go_at_call 20; exact later_call (nint_any I _ (by omega) (by omega)) (fun e w q => ⟨q.1.trans (congrArg (fun v => Ending.returned (.int .u32 v)) HF.out), q.2.2.2⟩))
              | (go_at_call 19; exact later_call (ndiv_any 1065353216 (cntW I) _ (by decide) (by decide) HCW.out.1 HCW.out.2) (fun e w q => ⟨q.1.trans (congrArg (fun v => Ending.returned (.int .u32 v)) (HSH.out.trans HGS.out.symm)), q.2.2.2⟩)))))
            refine wpQuiet_nil ?_
            rintro ⟨W8, hW8⟩
            replace HL := Lib.hid (HL.out.grown hW8)
            go_wp2
            go_roundw
            case rel => exact ⟨J + 1, by omega, by go_num, HL⟩
            case measure => simp [intOf]; omega
        · obtain rfl : J = I := by omega
          obtain ⟨q0, q1, q2, q3, q4, -, -, -, -⟩ := HL.out.ten 2 rfl
          go_wp2_with fail
          have HY := Lib.hid (readi_same wv k 3 (by omega) (by omega))
          replace HL := Lib.hid (HL.out.grown (Grown.alloc (Grown.refl wv) #[.int .i64 k] 3))
          clear q0 q1 q2 q3 q4
          generalize wv.heap.size = oy2 at HY ⊢
          generalize wv.alloc _ = W6 at HL HY ⊢
          refine (lright_any 1 J 2 ad _ J cap 1 1 (fun _ => m) (fun _ => (k : Int)) _ (by omega) (by decide) (HL.out.rd 3 rfl) HY.out).mono ?_
          rintro e W7 ⟨he, hW⟩
          rw [A1.out, A4.out] at he
          obtain ⟨rr, hrr⟩ : ∃ r : Int, (if k = 0 then (1 : Int) else 0) = r := ⟨_, rfl⟩
          rw [hrr] at he
          have HRR := Lib.hid hrr
          subst he
          replace HL := Lib.hid (HL.out.grown hW)
          have HG := Lib.hid (HL.out.gr 4 rfl)
          clear hW HY
          obtain ⟨V1, V2, hr1, hr2, hr3, hgr⟩ := map_two Tryz.prog 50 4 3 Tryz.underlying50 Tryz.underlying4 Tryz.underlying3 (fun w => by kernel_rfl) W7
          have HG := Lib.hid (hgr w HG.out)
          obtain ⟨-, -, lg1, -⟩ := lg_all J lc0 lc
          obtain ⟨l1, -, -, l4, g0, g1⟩ := lg_all J lc0 lc
          have hlg := lg_is J lc0 lc
          generalize lgW J = Lw at *
          have HLG := Lib.hid hlg
          have HLS := Lib.hid l1
          have HLF := Lib.hid l4
          have hll : (Lw == Lw) = true := by simp
          clear hgr lg1 hlg l1 l4
          by_cases ck : k = 0
          · rw [if_pos ck] at hrr
            subst hrr
            have hkb : ((k : Int) == 0) = true := by simp [ck]
            have hl := hr3 true
            clear hr3 ck
            go_wp2_with fail
            refine (nint_any J _ (by omega) (by omega)).mono ?_
            rintro e V3 ⟨he, -, -, hW⟩
            rw [HF.out] at he
            subst he
            replace HG := Lib.hid (grown_trans HG.out hW)
            clear hW
            go_wp2_with fail
            refine (nlog_any (cntW J) _ HCW.out.1 HCW.out.2).mono ?_
            rintro e V4 ⟨he, -, -, hW⟩
            rw [HLG.out] at he
            subst he
            replace HG := Lib.hid (grown_trans HG.out hW)
            clear hW
            go_wp2_with fail
            refine (nsub_any Lw 0 _ g0 g1 (by decide) (by decide)).mono ?_
            rintro e V5 ⟨he, -, -, hW⟩
            rw [HLS.out] at he
            subst he
            replace HG := Lib.hid (grown_trans HG.out hW)
            clear hW
            go_wp2_with fail
            refine (rfinite_any 2 Lw _ g0 g1).mono ?_
            rintro e V6 ⟨he, dm, hd⟩
            rw [HLF.out] at he
            subst he
            replace HG := Lib.hid (grown_trans HG.out (grown_dn hd))
            clear hd
            go_wp2
            go_ret
            exact ⟨rfl, HG.out⟩
          · rw [if_neg ck] at hrr
            subst hrr
            have hkb : ((k : Int) == 0) = false := by simp; omega
            have hl := hr3 false
            clear hr3 ck
            go_wp2_with fail
            refine (nint_any J _ (by omega) (by omega)).mono ?_
            rintro e V3 ⟨he, -, -, hW⟩
            rw [HF.out] at he
            subst he
            replace HG := Lib.hid (grown_trans HG.out hW)
            clear hW
            go_wp2_with fail
            refine (nlog_any (cntW J) _ HCW.out.1 HCW.out.2).mono ?_
            rintro e V4 ⟨he, -, -, hW⟩
            rw [HLG.out] at he
            subst he
            replace HG := Lib.hid (grown_trans HG.out hW)
            clear hW
            go_wp2_with fail
            refine (nsub_any Lw 0 _ g0 g1 (by decide) (by decide)).mono ?_
            rintro e V5 ⟨he, -, -, hW⟩
            rw [HLS.out] at he
            subst he
            replace HG := Lib.hid (grown_trans HG.out hW)
            clear hW
            go_wp2_with fail
            refine (rfinite_any 2 Lw _ g0 g1).mono ?_
            rintro e V6 ⟨he, dm, hd⟩
            rw [HLF.out] at he
            subst he
            replace HG := Lib.hid (grown_trans HG.out (grown_dn hd))
            clear hd
            go_wp2
            go_ret
            exact ⟨rfl, HG.out⟩

theorem lways_walk (n y x : Int) (wn : (Lit.int .u8 n).wf = true) (wy : (Lit.int .u8 y).wf = true) (wx : (Lit.int .u32 x).wf = true) (w : World) :
    Calls Tryz.prog 4 #[.int .u8 n, .int .u8 y, .int .u32 x] w fun e w' => e = .returned (.bool true) ∧ Grown w w' := by
  obtain ⟨n0, n1⟩ := bounds_u8 wn
  obtain ⟨y0, y1⟩ := bounds_u8 wy
  obtain ⟨x0, x1⟩ := bounds_u32 wx
  exact lways_go w n y x n0 n1 y0 y1 x0 x1
end Go.Proofs.YteifobleigfbaaaGreat
