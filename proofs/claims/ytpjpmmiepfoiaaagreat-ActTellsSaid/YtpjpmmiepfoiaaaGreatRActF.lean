/- The contracts of annealref13's Forward, Back. (Written by gen57.py.) -/
import Derived.Test.YtpjpmmiepfoiaaaGreatRAct
import Derived.Test.YtpjpmmiepfoiaaaGreatRKern
import Derived.Deep.RegionHeld3
namespace Go.Proofs.YtpjpmmiepfoiaaaGreat
open Go Go.RowKit
set_option linter.unusedVariables false
set_option linter.unusedSimpArgs false

theorem forV_bd (k F:Int) (g:Nat→Int) (i:Nat):0≤forV k F g i∧forV k F g i≤4294967295:=by
 unfold forV
 obtain ⟨h0,h1⟩:=con_bd 2 F 0 (valA k (widV F g i))
 have:=mskw F
 omega

set_option maxHeartbeats 1000000 in
theorem rforward_bad1 (k aR aC aF:Int) (ad:Option Addr) (an ca:Nat) (g:Nat→Int) (w:World) (hn:an≤9223372036854775807) (h1:Reads ad an g w) (hr:rightB aR aC aF an g=false):
  Calls Tryz.prog 18 #[.int .i64 k,.agg #[.int .i64 aR,.int .i64 aC,.int .i64 aF,.slice ad an ca]] w (TenE PT.bad 21 w):=by
 have H1:=Lib.hid h1
 have K1:=Lib.hid (show Ending.returned (.bool (rightB aR aC aF an g))=.returned (.bool false) by rw [hr])
 clear h1 hr
 have HT1:=Lib.hid ((ten_new w (.int .i64 aR) (.int .i64 aC) (.int .i64 aF) (.slice ad an ca) 24).grown (Grown.alloc (Grown.refl _) #[.int .i64 0,.int .i64 0,.int .i64 0,.slice none 0 0] 24))
 have HT3:=Lib.hid (ten_new (w.alloc (.cells #[.int .i64 aR,.int .i64 aC,.int .i64 aF,.slice ad an ca] 24)) (.int .i64 0) (.int .i64 0) (.int .i64 0) (.slice none 0 0) 24)
 have HG:=Lib.hid (Grown.alloc (Grown.alloc (Grown.refl w) #[.int .i64 aR,.int .i64 aC,.int .i64 aF,.slice ad an ca] 24) #[.int .i64 0,.int .i64 0,.int .i64 0,.slice none 0 0] 24)
 go_enter Tryz.func18,Tryz.ntmps18
 go_wp2_with fail
 simp only [World.size_alloc] at HT3
 generalize (w.alloc _).alloc _=W0 at HT1 HT3 HG ⊢
 refine (rright_any _ _ _ _ _ _ _ _ (by assumption) (H1.out.grown HG.out)).mono ?_
 rintro e W2 ⟨he,hW⟩
 rw [K1.out] at he
 subst he
 replace HT1:=Lib.hid (HT1.out.grown hW)
 replace HT3:=Lib.hid (HT3.out.grown hW)
 replace HG:=Lib.hid (grown_trans HG.out hW)
 clear hW
 obtain ⟨p0,p1,p2,p3,p4,_,_,_,_⟩:=HT1.out
 obtain ⟨r0,r1,r2,r3,r4,r5,r6,r7,r8⟩:=HT3.out
 go_wp2
 (try simp only [Exit.inBlock,Exit.then])
 refine bodyPost_ret (v:=.tuple #[.agg #[.int .i64 0,.int .i64 0,.int .i64 0,.slice none 0 0],.int .i64 21]) ?_ rfl ⟨none,0,rfl,Reads.nil _ _ _,by decide,fresh_none _,gr⟩
 rw [results_cell_tmp rfl]
 go_simp

set_option maxHeartbeats 1000000 in
theorem rforward_bad2 (k aR aC aF:Int) (ad:Option Addr) (an ca:Nat) (g:Nat→Int) (w:World) (hn:an≤9223372036854775807) (h1:Reads ad an g w) (hr:rightB aR aC aF an g=true) (hk:actB k=false):
  Calls Tryz.prog 18 #[.int .i64 k,.agg #[.int .i64 aR,.int .i64 aC,.int .i64 aF,.slice ad an ca]] w (TenE PT.bad 22 w):=by
 have H1:=Lib.hid h1
 have K1:=Lib.hid (show Ending.returned (.bool (rightB aR aC aF an g))=.returned (.bool true) by rw [hr])
 have K2:=Lib.hid (show Ending.returned (.bool (actB k))=.returned (.bool false) by rw [hk])
 clear h1 hr hk
 have HT1:=Lib.hid ((ten_new w (.int .i64 aR) (.int .i64 aC) (.int .i64 aF) (.slice ad an ca) 24).grown (Grown.alloc (Grown.refl _) #[.int .i64 0,.int .i64 0,.int .i64 0,.slice none 0 0] 24))
 have HT3:=Lib.hid (ten_new (w.alloc (.cells #[.int .i64 aR,.int .i64 aC,.int .i64 aF,.slice ad an ca] 24)) (.int .i64 0) (.int .i64 0) (.int .i64 0) (.slice none 0 0) 24)
 have HG:=Lib.hid (Grown.alloc (Grown.alloc (Grown.refl w) #[.int .i64 aR,.int .i64 aC,.int .i64 aF,.slice ad an ca] 24) #[.int .i64 0,.int .i64 0,.int .i64 0,.slice none 0 0] 24)
 go_enter Tryz.func18,Tryz.ntmps18
 go_wp2_with fail
 simp only [World.size_alloc] at HT3
 generalize (w.alloc _).alloc _=W0 at HT1 HT3 HG ⊢
 refine (rright_any _ _ _ _ _ _ _ _ (by assumption) (H1.out.grown HG.out)).mono ?_
 rintro e W2 ⟨he,hW⟩
 rw [K1.out] at he
 subst he
 replace HT1:=Lib.hid (HT1.out.grown hW)
 replace HT3:=Lib.hid (HT3.out.grown hW)
 replace HG:=Lib.hid (grown_trans HG.out hW)
 clear hW
 obtain ⟨p0,p1,p2,p3,p4,_,_,_,_⟩:=HT1.out
 obtain ⟨r0,r1,r2,r3,r4,r5,r6,r7,r8⟩:=HT3.out
 go_wp2_with (go_at_call 44;refine (ract_any _ _).mono ?_;rintro e w' ⟨he,rfl⟩;rw [K2.out] at he;subst he)
 (try simp only [Exit.inBlock,Exit.then])
 refine bodyPost_ret (v:=.tuple #[.agg #[.int .i64 0,.int .i64 0,.int .i64 0,.slice none 0 0],.int .i64 22]) ?_ rfl ⟨none,0,rfl,Reads.nil _ _ _,by decide,fresh_none _,gr⟩
 rw [results_cell_tmp rfl]
 go_simp

set_option maxRecDepth 100000 in
set_option maxHeartbeats 4000000 in
theorem rforward_good (k aF : Int) (aR aC : Nat) (ad : Option Addr) (an ca : Nat) (g : Nat → Int) (w : World) (hn2 : an ≤ 16777216) (h1 : Reads ad an g w)
    (ha1 : aR ≤ 4096) (ha2 : aC ≤ 4096) (han : an = aR * aC) (hr : rightB aR aC aF an g = true) (hk : actB k = true) :
    Calls Tryz.prog 18 #[.int .i64 k, .agg #[.int .i64 aR, .int .i64 aC, .int .i64 aF, .slice ad an ca]] w (TenE ⟨aR, aC, aF, an, forV k aF g⟩ 0 w) := by
  have H1 := Lib.hid h1
  have K1 := Lib.hid (show Ending.returned (.bool (rightB aR aC aF an g)) = .returned (.bool true) by rw [hr])
  have K2 := Lib.hid (show Ending.returned (.bool (actB k)) = .returned (.bool true) by rw [hk])
  have hn : an ≤ 9223372036854775807 := by omega
  have HAN := Lib.hid han
  clear h1 hr han hk
  obtain ⟨G, hG⟩ : ∃ G : Nat → Int, G = forV k aF g := ⟨_, rfl⟩
  rw [← hG]
  have HGB := Lib.hid (show ∀ t, 0 ≤ G t ∧ G t ≤ 4294967295 from fun t => by rw [hG]; exact forV_bd _ _ _ _)
  have HGG := Lib.hid hG
  clear hG
  have HT1 := Lib.hid ((ten_new w (.int .i64 (aR : Int)) (.int .i64 (aC : Int)) (.int .i64 aF) (.slice ad an ca) 24).grown (Grown.alloc (Grown.refl _) #[.int .i64 0, .int .i64 0, .int .i64 0, .slice none 0 0] 24))
  have HT3 := Lib.hid (ten_new (w.alloc (.cells #[.int .i64 (aR : Int), .int .i64 (aC : Int), .int .i64 aF, .slice ad an ca] 24)) (.int .i64 0) (.int .i64 0) (.int .i64 0) (.slice none 0 0) 24)
  have HG := Lib.hid (Grown.alloc (Grown.alloc (Grown.refl w) #[.int .i64 (aR : Int), .int .i64 (aC : Int), .int .i64 aF, .slice ad an ca] 24) #[.int .i64 0, .int .i64 0, .int .i64 0, .slice none 0 0] 24)
  go_enter Tryz.func18, Tryz.ntmps18
  go_wp2_with fail
  simp only [World.size_alloc] at HT3
  generalize (w.alloc _).alloc _ = W0 at HT1 HT3 HG ⊢
  refine (rright_any _ _ _ _ _ _ _ _ (by assumption) (H1.out.grown HG.out)).mono ?_
  rintro e W2 ⟨he, hW⟩
  rw [K1.out] at he
  subst he
  replace HT1 := Lib.hid (HT1.out.grown hW)
  replace HT3 := Lib.hid (HT3.out.grown hW)
  replace HG := Lib.hid (grown_trans HG.out hW)
  clear hW
  obtain ⟨p0, p1, p2, p3, p4, _, _, _, _⟩ := HT1.out
  obtain ⟨r0, r1, r2, r3, r4, r5, r6, r7, r8⟩ := HT3.out
  have hmk := run_make_row' (P := Tryz.prog) 22 25 (.int .u32 0) 4 Tryz.underlying22 (by kernel_rfl) rfl .i64 .i64 an (by omega) (by omega)
  have HA := Lib.hid (show P1 w w.heap.size W2.heap.size (W2.heap.size + 1) an (.int .i64 aR) (.int .i64 aC) (.int .i64 aF) (.slice ad an ca) (.int .i64 aR) (.int .i64 aC) (.int .i64 aF) G 0 (((W2.alloc (.cells (madeCells #[.int .u32 0] an) 25)).alloc (.cells #[.int .i64 aR, .int .i64 aC, .int .i64 aF, .slice (some ⟨W2.heap.size, 0, none⟩) an an] 24)).drew) from
    ⟨gr, HT1.out.grown gr, HT3.out.grown gr, by simpa only [World.size_alloc] using (ten_new (W2.alloc (.cells (madeCells #[.int .u32 0] an) 25)) (.int .i64 aR) (.int .i64 aC) (.int .i64 aF) (.slice (some ⟨W2.heap.size, 0, none⟩) an an) 24).grown (Grown.drew (Grown.refl _)), (Filled.new W2 an G 25).grown (Grown.drew (Grown.alloc (Grown.refl _) _ _)), r0, Nat.lt_succ_of_lt r0, by omega, Nat.le_refl _⟩)
  have HB := Lib.hid (show P1 w w.heap.size (W2.heap.size + 1) W2.heap.size an (.int .i64 aR) (.int .i64 aC) (.int .i64 aF) (.slice ad an ca) (.int .i64 aR) (.int .i64 aC) (.int .i64 aF) G 0 (((W2.alloc (.cells #[.int .i64 aR, .int .i64 aC, .int .i64 aF, .slice (some ⟨W2.heap.size + 1, 0, none⟩) an an] 24)).alloc (.cells (madeCells #[.int .u32 0] an) 25)).drew) from
    ⟨gr, HT1.out.grown gr, HT3.out.grown gr, (ten_new W2 (.int .i64 aR) (.int .i64 aC) (.int .i64 aF) (.slice (some ⟨W2.heap.size + 1, 0, none⟩) an an) 24).grown (Grown.drew (Grown.alloc (Grown.refl _) _ _)), by have := (Filled.new (W2.alloc (.cells #[.int .i64 aR, .int .i64 aC, .int .i64 aF, .slice (some ⟨W2.heap.size + 1, 0, none⟩) an an] 24)) an G 25).grown (Grown.drew (Grown.refl _)); simp only [World.size_alloc] at this; exact this, Nat.lt_succ_of_lt r0, r0, by omega, Nat.le_refl _⟩)
  go_wp2_with fail
  refine (ract_any _ _).mono ?_
  rintro e w' ⟨he, rfl⟩
  rw [K2.out] at he
  subst he
  go_wp2_with fail
  go_region
  all_goals
    go_wp2_with fail
    clear hmk p0 p1 p2 p3 p4 r0 r1 r2 r3 r4 r5 r6 r7 r8
    generalize hW3 : ((W2.alloc _).alloc _).drew = W3
    first
      | (have HP := hW3 ▸ HA.out
         clear hW3 HA HB
         generalize W2.heap.size + 1 = ob at HP ⊢
         generalize W2.heap.size = nb at HP ⊢)
      | (have HP := hW3 ▸ HB.out
         clear hW3 HA HB
         generalize W2.heap.size + 1 = nb at HP ⊢
         generalize W2.heap.size = ob at HP ⊢)
    replace HP := Lib.hid HP
    clear HT1 HT3 HG
    go_loopw [7] (fun i wr => ProdOut (fun I => P1 w w.heap.size nb ob an (.int .i64 aR) (.int .i64 aC) (.int .i64 aF) (.slice ad an ca) (.int .i64 aR) (.int .i64 aC) (.int .i64 aF) G I) an 1 i wr) (fun i _ => an - (intOf i).toNat)
    case atStart => exact ⟨0, Nat.zero_le _, rfl, HP.out⟩
    case round =>
      rename World => wr
      clear HP
      obtain ⟨I, hI, rfl, hP⟩ := hrel
      rw [Nat.mul_one] at hP
      have HP := Lib.hid hP
      clear hP
      by_cases hI2 : I < an
      · have B1 := wid_bd aF g I
        have B2 := valA_bd k (widV aF g I) B1.1 B1.2
        obtain ⟨u, hu⟩ : ∃ u, widV aF g I = u := ⟨_, rfl⟩
        obtain ⟨v, hv⟩ : ∃ v, valA k (widV aF g I) = v := ⟨_, rfl⟩
        have HGI := Lib.hid (show G I = conV 2 aF 0 v by rw [HGG.out]; show conV 2 aF 0 (valA k (widV aF g I)) = _; rw [hv])
        rw [hv] at B2
        rw [hu] at B1 hv
        have HU := Lib.hid hu
        have HV := Lib.hid hv
        have HG := Lib.hid HP.out.g
        clear hu hv
        obtain ⟨p0, p1, p2, p3, p4, _, _, _, _⟩ := HP.out.t1
        obtain ⟨o0, o1, o2, o3, o4, _, _, _, _⟩ := HP.out.t4
        have y := HP.out.f.cell I hI2
        have z := HP.out.f.free I
        have n1 : ¬ nb = w.heap.size := by have := HP.out.o; omega
        have n2 : ¬ nb = w.heap.size + 1 := by have := HP.out.o; omega
        have n3 : ¬ nb = ob := HP.out.ne
        go_wp2_with fail
        go_region_held3 (fun w' => w'.cell? ⟨w.heap.size, 0, none⟩ = some (.int .i64 aR) ∧ w'.cell? ⟨w.heap.size, 1, none⟩ = some (.int .i64 aC) ∧ w'.cell? ⟨w.heap.size, 2, none⟩ = some (.int .i64 aF) ∧ w'.cell? ⟨w.heap.size, 3, none⟩ = some (.slice ad an ca) ∧ w'.cell? ⟨ob, 3, none⟩ = some (.slice (some ⟨nb, 0, none⟩) an an)) (go_keep) (first
          | (go_at_call 45; ((with_reducible refine (twide_any aR aC aF ad an ca I g _ hn hI2 (H1.out.grown gr)).mono ?_); rintro e W4 ⟨he, hW⟩; rw [HU.out] at he; subst he; replace HG := Lib.hid (show Grown w W4 from grown_trans gr hW); replace HP := Lib.hid (HP.out.grown hW); clear hW p0 p1 p2 p3 p4 o0 o1 o2 o3 o4 y z; obtain ⟨p0, p1, p2, p3, p4, _, _, _, _⟩ := HP.out.t1; obtain ⟨o0, o1, o2, o3, o4, _, _, _, _⟩ := HP.out.t4; have y := HP.out.f.cell I hI2; have z := HP.out.f.free I))
          | (go_at_call 14; refine (rvalue_any k u _ B1.1 B1.2).mono ?_; rintro e W5 ⟨he, hW⟩; rw [HV.out] at he; subst he; replace HG := Lib.hid (show Grown w W5 from grown_trans gr hW); replace HP := Lib.hid (HP.out.grown hW); clear hW p0 p1 p2 p3 p4 o0 o1 o2 o3 o4 y z; obtain ⟨p0, p1, p2, p3, p4, _, _, _, _⟩ := HP.out.t1; obtain ⟨o0, o1, o2, o3, o4, _, _, _, _⟩ := HP.out.t4; have y := HP.out.f.cell I hI2; have z := HP.out.f.free I)
          | (go_at_call 26; refine (rnarrow_any aF v _ B2.1 B2.2).mono ?_; rintro e W6 ⟨rfl, hW⟩; replace HG := Lib.hid (show Grown w W6 from grown_trans gr hW); replace HP := Lib.hid (HP.out.grown hW); clear hW p0 p1 p2 p3 p4 o0 o1 o2 o3 o4 y z; obtain ⟨p0, p1, p2, p3, p4, _, _, _, _⟩ := HP.out.t1; obtain ⟨o0, o1, o2, o3, o4, _, _, _, _⟩ := HP.out.t4; have y := HP.out.f.cell I hI2; have z := HP.out.f.free I))
        go_wp2
        go_roundw
        case rel => exact ⟨I + 1, by omega, by go_num, by
          have := HP.out.set hI2
          rw [HGI.out] at this
          rw [Nat.mul_one]
          exact this.grown gr⟩
        case measure => simp [intOf]; omega
      · have hI3 : an = I := by omega
        subst hI3
        obtain ⟨p0, p1, p2, p3, p4, _, _, _, _⟩ := HP.out.t4
        obtain ⟨q0, q1, q2, q3, q4, q5, q6, q7, q8⟩ := HP.out.t3
        obtain ⟨r0, r1, r2, r3, r4, _, _, _, _⟩ := HP.out.t1
        have HF := Lib.hid HP.out.f
        have ho : w.heap.size + 1 < nb := HP.out.o
        have ho2 : w.heap.size + 1 < ob := HP.out.o2
        have HG := Lib.hid HP.out.g
        go_wp2
        (try simp only [Exit.inBlock, Exit.then])
        refine bodyPost_ret (v := .tuple #[.agg #[.int .i64 aR, .int .i64 aC, .int .i64 aF, .slice (some ⟨nb, 0, none⟩) an an], .int .i64 0]) ?_ rfl ⟨_, _, rfl, ?_, (show an ≤ 9223372036854775807 by omega), fun x hx => by cases hx; show w.heap.size ≤ nb; omega, ?_⟩
        · rw [results_cell_tmp rfl]
          go_simp
        · have hne : nb ≠ w.heap.size + 1 := by omega
          exact ((((HF.out.other (a := ⟨w.heap.size + 1, 0, none⟩) hne _).other (a := ⟨w.heap.size + 1, 1, none⟩) hne _).other (a := ⟨w.heap.size + 1, 2, none⟩) hne _).other (a := ⟨w.heap.size + 1, 3, none⟩) hne _).reads fun t _ => HGB.out t
        · exact gr

theorem rforward_any (k aR aC aF:Int) (ad:Option Addr) (an ca:Nat) (g:Nat→Int) (w:World) (hn:an≤9223372036854775807) (h1:Reads ad an g w):
  Calls Tryz.prog 18 #[.int .i64 k,.agg #[.int .i64 aR,.int .i64 aC,.int .i64 aF,.slice ad an ca]] w (TenE (forT k ⟨aR,aC,aF,an,g⟩) (forX k ⟨aR,aC,aF,an,g⟩) w):=by
 unfold forT forX PT.right
 dsimp only
 cases hr:rightB aR aC aF an g
 ·exact rforward_bad1 k aR aC aF ad an ca g w hn h1 hr
 ·cases hk:actB k
  ·exact rforward_bad2 k aR aC aF ad an ca g w hn h1 hr hk
  ·obtain ⟨r,c,e1,e2,l1,l2,e3⟩:=right_nat (t:=⟨aR,aC,aF,an,g⟩) hr
   simp only at e1 e2 e3
   subst e1 e2
   obtain ⟨_,m1⟩:=wrap_mul r c an l1 l2 e3.symm
   exact rforward_good k aF r c ad an ca g w m1 h1 l1 l2 e3 hr hk
end Go.Proofs.YtpjpmmiepfoiaaaGreat
