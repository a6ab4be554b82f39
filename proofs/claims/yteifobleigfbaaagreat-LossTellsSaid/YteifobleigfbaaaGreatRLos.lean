/- The contracts of annealref13's labels, Mse. (Written by gen67.py.) -/
import Derived.Test.YteifobleigfbaaaGreatLosM
import Derived.Test.YteifobleigfbaaaGreatRKern
import Derived.Test.YteifobleigfbaaaGreatRWhoB
import Derived.Test.YteifobleigfbaaaGreatRFun
import Derived.Test.YteifobleigfbaaaGreatRTen
import Derived.Deep.RegionHeld3
import Derived.KernelRfl
import Derived.BigQuiet
namespace Go.Proofs.YteifobleigfbaaaGreat
open Go Go.RowKit
set_option linter.unusedVariables false
set_option linter.unusedSimpArgs false

theorem rlab_shape (R C F:Int) (ad yd:Option Addr) (n c yn yc:Nat) (g:Nat→Int) (w:World) (hn:n≤9223372036854775807) (hr:Reads ad n g w) (h:labB ⟨R,C,F,n,g⟩ yn=false):
  Calls Tryz.prog 34 #[.agg #[.int .i64 R,.int .i64 C,.int .i64 F,.slice ad n c],.slice yd yn yc] w fun e w'=>e=.returned (.int .i64 21)∧Grown w w':=by
 have H1:=Lib.hid hr
 obtain ⟨T,hT⟩:∃ T,rightB R C F n g=T:=⟨_,rfl⟩
 have K1:=Lib.hid (show Ending.returned (.bool (rightB R C F n g))=.returned (.bool T) by rw [hT])
 have h':(T&&(R==(yn:Int)&&!(decide (0<R)&&C==0)))=false:=by rw [←hT];exact h
 have HT:=Lib.hid (ten_new w (.int .i64 R) (.int .i64 C) (.int .i64 F) (.slice ad n c) 24)
 have HG:=Lib.hid (show Grown w (w.alloc (.cells #[.int .i64 R,.int .i64 C,.int .i64 F,.slice ad n c] 24)) from gr)
 clear h hT hr
 cases T
 ·clear h'
  go_enter Tryz.func34,Tryz.ntmps34
  go_wp2_with fail
  generalize (w.alloc _)=W0 at HT HG ⊢
  refine (rright_any _ _ _ _ _ _ g _ hn (H1.out.grown HG.out)).mono ?_
  rintro e W1 ⟨he,hW1⟩
  rw [K1.out] at he
  subst he
  replace HG:=Lib.hid (grown_trans HG.out hW1)
  clear hW1
  go_wp2
  go_ret
  exact ⟨rfl,gr⟩
 ·obtain ⟨E1,hE1⟩:∃ E,(R==(yn:Int))=E:=⟨_,rfl⟩
  have hE1':(R != (yn:Int))=!E1:=by rw [bne,hE1]
  obtain ⟨E2,hE2⟩:∃ E,decide (0<R)=E:=⟨_,rfl⟩
  obtain ⟨E3,hE3⟩:∃ E,(C==0)=E:=⟨_,rfl⟩
  rw [hE1,hE2,hE3] at h'
  clear hE1
  cases E1
  ·clear h'
   go_enter Tryz.func34,Tryz.ntmps34
   go_wp2_with fail
   generalize (w.alloc _)=W0 at HT HG ⊢
   refine (rright_any _ _ _ _ _ _ g _ hn (H1.out.grown HG.out)).mono ?_
   rintro e W1 ⟨he,hW1⟩
   rw [K1.out] at he
   subst he
   replace HG:=Lib.hid (grown_trans HG.out hW1)
   replace HT:=Lib.hid (HT.out.grown hW1)
   clear hW1
   obtain ⟨p0,p1,p2,p3,p4,-,-,-,-⟩:=HT.out
   go_wp2
   go_ret
   exact ⟨rfl,gr⟩
  ·cases E2 <;> cases E3 <;> first | exact absurd h' (by decide) | skip
   clear h'
   go_enter Tryz.func34,Tryz.ntmps34
   go_wp2_with fail
   generalize (w.alloc _)=W0 at HT HG ⊢
   refine (rright_any _ _ _ _ _ _ g _ hn (H1.out.grown HG.out)).mono ?_
   rintro e W1 ⟨he,hW1⟩
   rw [K1.out] at he
   subst he
   replace HG:=Lib.hid (grown_trans HG.out hW1)
   replace HT:=Lib.hid (HT.out.grown hW1)
   clear hW1
   obtain ⟨p0,p1,p2,p3,p4,-,-,-,-⟩:=HT.out
   go_wp2
   go_ret
   exact ⟨rfl,gr⟩

theorem rlab_nil (C F:Int) (ad yd:Option Addr) (n c yc:Nat) (g y:Nat→Int) (w:World) (hn:n≤9223372036854775807) (hr:Reads ad n g w) (h:rightB 0 C F n g=true):
  Calls Tryz.prog 34 #[.agg #[.int .i64 0,.int .i64 C,.int .i64 F,.slice ad n c],.slice yd 0 yc] w fun e w'=>e=.returned (.int .i64 0)∧Grown w w':=by
 have H1:=Lib.hid hr
 have K1:=Lib.hid (show Ending.returned (.bool (rightB 0 C F n g))=.returned (.bool true) by rw [h])
 have HT:=Lib.hid (ten_new w (.int .i64 0) (.int .i64 C) (.int .i64 F) (.slice ad n c) 24)
 have HG:=Lib.hid (show Grown w (w.alloc (.cells #[.int .i64 0,.int .i64 C,.int .i64 F,.slice ad n c] 24)) from gr)
 clear h hr
 go_enter Tryz.func34,Tryz.ntmps34
 go_wp2_with fail
 generalize (w.alloc _)=W0 at HT HG ⊢
 refine (rright_any _ _ _ _ _ _ g _ hn (H1.out.grown HG.out)).mono ?_
 rintro e W1 ⟨he,hW1⟩
 rw [K1.out] at he
 subst he
 replace HG:=Lib.hid (grown_trans HG.out hW1)
 replace HT:=Lib.hid (HT.out.grown hW1)
 clear hW1 K1 H1
 obtain ⟨p0,p1,p2,p3,p4,-,-,-,-⟩:=HT.out
 go_wp2
 refine wp_loop_rounds 1 ?_
 rw [rounds_succ]
 go_wp2
 go_ret
 exact ⟨rfl,gr⟩

set_option maxHeartbeats 1000000 in
theorem rlab_some (C F:Int) (ad:Option Addr) (n c yn yc b off:Nat) (g y:Nat→Int) (w:World) (hn:n≤9223372036854775807) (hyn:yn≤9223372036854775807) (hy0:0<yn) (hr:Reads ad n g w) (hyb:∀ i,i<yn→-9223372036854775808≤y i∧y i≤9223372036854775807) (hb:b<w.heap.size) (hy:∀ i,i<yn→w.cell? ⟨b,off+i,none⟩=some (.int .i64 (y i))) (h:rightB yn C F n g=true) (hC:C≠0):
  Calls Tryz.prog 34 #[.agg #[.int .i64 yn,.int .i64 C,.int .i64 F,.slice ad n c],.slice (some ⟨b,off,none⟩) yn yc] w fun e w'=>e=.returned (.int .i64 (if labI C yn y then 0 else 22))∧Grown w w':=by
 have H1:=Lib.hid hr
 have H2:=Lib.hid hy
 have K1:=Lib.hid (show Ending.returned (.bool (rightB yn C F n g))=.returned (.bool true) by rw [h])
 have hE1:((yn:Int) != (yn:Int))=false:=by simp
 have hE2:(C==0)=false:=by simp [hC]
 have hE3:decide ((0:Int)<(yn:Int))=true:=by simpa using hy0
 obtain ⟨L,hL⟩:∃ L:Int,(if labI C yn y then (0:Int) else 22)=L:=⟨_,rfl⟩
 have HL:=Lib.hid hL
 rw [hL]
 have HT:=Lib.hid (ten_new w (.int .i64 yn) (.int .i64 C) (.int .i64 F) (.slice ad n c) 24)
 have HG:=Lib.hid (show Grown w (w.alloc (.cells #[.int .i64 yn,.int .i64 C,.int .i64 F,.slice ad n c] 24)) from gr)
 have HY:=Lib.hid hyb
 clear h hr hy hL hyb hC
 go_enter Tryz.func34,Tryz.ntmps34
 go_wp2_with fail
 generalize (w.alloc _)=W0 at HT HG ⊢
 refine (rright_any _ _ _ _ _ _ g _ hn (H1.out.grown HG.out)).mono ?_
 rintro e W1 ⟨he,hW1⟩
 rw [K1.out] at he
 subst he
 replace HG:=Lib.hid (grown_trans HG.out hW1)
 replace HT:=Lib.hid (HT.out.grown hW1)
 clear hW1 K1 H1
 obtain ⟨p0,p1,p2,p3,p4,-,-,-,-⟩:=HT.out
 have hlW:=HG.out.2.2
 go_wp2
 go_loopw [5] (fun i wr=>∃ k:Nat,k≤yn∧i=.int .i64 k∧Hid (Grown W1 wr)∧Hid (∀ j,j<k→0≤y j∧y j<C)) (fun i _=>yn - (intOf i).toNat)
 case atStart=>exact ⟨0,Nat.zero_le _,rfl,Lib.hid (Grown.refl _),Lib.hid fun j hj=>absurd hj (Nat.not_lt_zero j)⟩
 case round=>
  rename World=>wr
  obtain ⟨k,hk,rfl,HW,HJ⟩:=hrel
  by_cases hlt:k<yn
  ·have L1:∀ d:Later wr,d.w.cell? ⟨b,off+k,none⟩=some (.int .i64 (y k)):=fun d=>grown_cell d.g (grown_cell (grown_trans HG.out HW.out) (H2.out k hlt) hb) (Nat.lt_of_lt_of_le hb (grown_trans HG.out HW.out).2.2)
   have L2:∀ d:Later wr,d.w.cell? ⟨w.heap.size,1,none⟩=some (.int .i64 C):=fun d=>grown_cell d.g (grown_cell HW.out p2 p0) (Nat.lt_of_lt_of_le p0 HW.out.2.2)
   obtain ⟨x0,x1⟩:=HY.out k hlt
   obtain ⟨x,hx⟩:∃ x,y k=x:=⟨_,rfl⟩
   rw [hx] at L1 x0 x1
   have HX:=Lib.hid hx
   clear hx
   by_cases c0:x<0
   ·have d0:decide (x<0)=true:=decide_eq_true c0
    go_wp2_with fail
    refine region_later wr (by kernel_rfl) (by kernel_rfl) (Grown.refl _) ?_
    repeat (go_big_quiet_step (fail))
    refine wpQuiet_nil ?_
    rintro ⟨W8,hW8⟩
    have HG8:=Lib.hid (grown_trans (grown_trans HG.out HW.out) hW8)
    go_wp2
    go_ret
    exact ⟨by rw [←HL.out,lab_not hlt HX.out (by omega)];rfl,gr⟩
   ·have d0:decide (x<0)=false:=decide_eq_false c0
    by_cases c1:C≤x
    ·have d1:decide (C≤x)=true:=decide_eq_true c1
     go_wp2_with fail
     refine region_later wr (by kernel_rfl) (by kernel_rfl) (Grown.refl _) ?_
     repeat (go_big_quiet_step (fail))
     refine wpQuiet_nil ?_
     rintro ⟨W8,hW8⟩
     have HG8:=Lib.hid (grown_trans (grown_trans HG.out HW.out) hW8)
     go_wp2
     go_ret
     exact ⟨by rw [←HL.out,lab_not hlt HX.out (by omega)];rfl,gr⟩
    ·have d1:decide (C≤x)=false:=decide_eq_false c1
     go_wp2_with fail
     refine region_later wr (by kernel_rfl) (by kernel_rfl) (Grown.refl _) ?_
     repeat (go_big_quiet_step (fail))
     refine wpQuiet_nil ?_
     rintro ⟨W8,hW8⟩
     replace HW:=Lib.hid (grown_trans HW.out hW8)
     go_wp2
     go_roundw
     case rel=>exact ⟨k+1,by omega,by go_num,HW,Lib.hid (lab_next HJ.out HX.out (by omega) (by omega))⟩
     case measure=>simp [intOf];omega
  ·obtain rfl:k=yn:=by omega
   go_wp2
   go_ret
   exact ⟨by rw [←HL.out,lab_all HJ.out];rfl,grown_trans HG.out HW.out⟩

theorem rlab_any (R C F:Int) (ad yd:Option Addr) (n c yn yc:Nat) (g y:Nat→Int) (w:World) (hn:n≤9223372036854775807) (hyn:yn≤9223372036854775807) (hr:Reads ad n g w) (hy:ReadsI yd yn y w):
  Calls Tryz.prog 34 #[.agg #[.int .i64 R,.int .i64 C,.int .i64 F,.slice ad n c],.slice yd yn yc] w fun e w'=>e=.returned (.int .i64 (labX ⟨R,C,F,n,g⟩ yn y))∧Grown w w':=by
 unfold labX
 cases h:labB ⟨R,C,F,n,g⟩ yn
 ·exact rlab_shape R C F ad yd n c yn yc g w hn hr h
 ·obtain ⟨hT,hR,hC⟩:=lab_yes h
  simp only at hR hC
  rcases Nat.eq_zero_or_pos yn with h0 | h0
  ·subst h0 hR
   exact rlab_nil C F ad yd n c yc g y w hn hr hT
  ·obtain ⟨b,off,rfl,hl,hc⟩:=readi_at hy h0
   subst hR
   exact rlab_some C F ad n c yn yc b off g y w hn hyn h0 hr hy.1 hl hc hT (hC.resolve_left (by omega))

set_option maxHeartbeats 1000000 in
theorem rmse_bad1 (aR aC aF bR bC bF:Int) (ad bd:Option Addr) (an bn ca cb:Nat) (g h:Nat→Int) (w:World) (hn:an≤9223372036854775807) (hn2:bn≤9223372036854775807) (h1:Reads ad an g w) (h2:Reads bd bn h w) (hr:rightB aR aC aF an g=false):
  Calls Tryz.prog 17 #[.agg #[.int .i64 aR,.int .i64 aC,.int .i64 aF,.slice ad an ca],.agg #[.int .i64 bR,.int .i64 bC,.int .i64 bF,.slice bd bn cb]] w (LosE 0 PT.bad 21 w):=by
 have H1:=Lib.hid h1
 have H2:=Lib.hid h2
 have K1:=Lib.hid (show Ending.returned (.bool (rightB aR aC aF an g))=.returned (.bool false) by rw [hr])
 have HT1:=Lib.hid ((ten_new w (.int .i64 aR) (.int .i64 aC) (.int .i64 aF) (.slice ad an ca) 24).grown (Grown.alloc (Grown.alloc (Grown.refl _) #[.int .i64 bR,.int .i64 bC,.int .i64 bF,.slice bd bn cb] 24) #[.int .i64 0,.int .i64 0,.int .i64 0,.slice none 0 0] 24))
 have HT2:=Lib.hid ((ten_new2 w #[.int .i64 aR,.int .i64 aC,.int .i64 aF,.slice ad an ca] 24 (.int .i64 bR) (.int .i64 bC) (.int .i64 bF) (.slice bd bn cb) 24).grown (Grown.alloc (Grown.refl _) #[.int .i64 0,.int .i64 0,.int .i64 0,.slice none 0 0] 24))
 have HT3:=Lib.hid (ten_new2 (w.alloc (.cells #[.int .i64 aR,.int .i64 aC,.int .i64 aF,.slice ad an ca] 24)) #[.int .i64 bR,.int .i64 bC,.int .i64 bF,.slice bd bn cb] 24 (.int .i64 0) (.int .i64 0) (.int .i64 0) (.slice none 0 0) 24)
 have HG:=Lib.hid (show Grown w (((w.alloc (.cells #[.int .i64 aR,.int .i64 aC,.int .i64 aF,.slice ad an ca] 24)).alloc (.cells #[.int .i64 bR,.int .i64 bC,.int .i64 bF,.slice bd bn cb] 24)).alloc (.cells #[.int .i64 0,.int .i64 0,.int .i64 0,.slice none 0 0] 24)) from gr)
 simp only [World.size_alloc] at HT3
 clear h1 h2 hr
 go_enter Tryz.func17,Tryz.ntmps17
 go_wp2_with fail
 generalize (((w.alloc _).alloc _).alloc _)=W0 at HT1 HT2 HT3 HG ⊢
 refine (rright_any _ _ _ _ _ _ g _ (by assumption) (H1.out.grown HG.out)).mono ?_
 rintro e W1 ⟨he,hW⟩
 rw [K1.out] at he
 subst he
 replace HT1:=Lib.hid (HT1.out.grown hW)
 replace HT2:=Lib.hid (HT2.out.grown hW)
 replace HT3:=Lib.hid (HT3.out.grown hW)
 replace HG:=Lib.hid (grown_trans HG.out hW)
 clear hW
 obtain ⟨p0,p1,p2,p3,p4,-,-,-,-⟩:=HT1.out
 obtain ⟨q0,q1,q2,q3,q4,-,-,-,-⟩:=HT2.out
 obtain ⟨r0,r1,r2,r3,r4,r5,r6,r7,r8⟩:=HT3.out
 go_wp2
 (try simp only [Exit.inBlock,Exit.then])
 refine bodyPost_ret (v:=.tuple #[.int .u32 0,.agg #[.int .i64 0,.int .i64 0,.int .i64 0,.slice none 0 0],.int .i64 21]) ?_ rfl ⟨none,0,rfl,Reads.nil _ _ _,Nat.zero_le _,fresh_none _,gr⟩
 rw [results_three rfl]
 go_simp

set_option maxHeartbeats 1000000 in
theorem rmse_bad2 (aR aC aF bR bC bF:Int) (ad bd:Option Addr) (an bn ca cb:Nat) (g h:Nat→Int) (w:World) (hn:an≤9223372036854775807) (hn2:bn≤9223372036854775807) (h1:Reads ad an g w) (h2:Reads bd bn h w) (hr:rightB aR aC aF an g=true) (hr2:rightB bR bC bF bn h=false):
  Calls Tryz.prog 17 #[.agg #[.int .i64 aR,.int .i64 aC,.int .i64 aF,.slice ad an ca],.agg #[.int .i64 bR,.int .i64 bC,.int .i64 bF,.slice bd bn cb]] w (LosE 0 PT.bad 21 w):=by
 have H1:=Lib.hid h1
 have H2:=Lib.hid h2
 have K1:=Lib.hid (show Ending.returned (.bool (rightB aR aC aF an g))=.returned (.bool true) by rw [hr])
 have K2:=Lib.hid (show Ending.returned (.bool (rightB bR bC bF bn h))=.returned (.bool false) by rw [hr2])
 have HT1:=Lib.hid ((ten_new w (.int .i64 aR) (.int .i64 aC) (.int .i64 aF) (.slice ad an ca) 24).grown (Grown.alloc (Grown.alloc (Grown.refl _) #[.int .i64 bR,.int .i64 bC,.int .i64 bF,.slice bd bn cb] 24) #[.int .i64 0,.int .i64 0,.int .i64 0,.slice none 0 0] 24))
 have HT2:=Lib.hid ((ten_new2 w #[.int .i64 aR,.int .i64 aC,.int .i64 aF,.slice ad an ca] 24 (.int .i64 bR) (.int .i64 bC) (.int .i64 bF) (.slice bd bn cb) 24).grown (Grown.alloc (Grown.refl _) #[.int .i64 0,.int .i64 0,.int .i64 0,.slice none 0 0] 24))
 have HT3:=Lib.hid (ten_new2 (w.alloc (.cells #[.int .i64 aR,.int .i64 aC,.int .i64 aF,.slice ad an ca] 24)) #[.int .i64 bR,.int .i64 bC,.int .i64 bF,.slice bd bn cb] 24 (.int .i64 0) (.int .i64 0) (.int .i64 0) (.slice none 0 0) 24)
 have HG:=Lib.hid (show Grown w (((w.alloc (.cells #[.int .i64 aR,.int .i64 aC,.int .i64 aF,.slice ad an ca] 24)).alloc (.cells #[.int .i64 bR,.int .i64 bC,.int .i64 bF,.slice bd bn cb] 24)).alloc (.cells #[.int .i64 0,.int .i64 0,.int .i64 0,.slice none 0 0] 24)) from gr)
 simp only [World.size_alloc] at HT3
 clear h1 h2 hr hr2
 go_enter Tryz.func17,Tryz.ntmps17
 go_wp2_with fail
 generalize (((w.alloc _).alloc _).alloc _)=W0 at HT1 HT2 HT3 HG ⊢
 refine (rright_any _ _ _ _ _ _ g _ (by assumption) (H1.out.grown HG.out)).mono ?_
 rintro e W1 ⟨he,hW⟩
 rw [K1.out] at he
 subst he
 replace HT1:=Lib.hid (HT1.out.grown hW)
 replace HT2:=Lib.hid (HT2.out.grown hW)
 replace HT3:=Lib.hid (HT3.out.grown hW)
 replace HG:=Lib.hid (grown_trans HG.out hW)
 clear hW
 obtain ⟨p0,p1,p2,p3,p4,-,-,-,-⟩:=HT1.out
 obtain ⟨q0,q1,q2,q3,q4,-,-,-,-⟩:=HT2.out
 go_wp2_with fail
 clear p0 p1 p2 p3 p4 q0 q1 q2 q3 q4
 refine (rright_any _ _ _ _ _ _ h _ (by assumption) (H2.out.grown HG.out)).mono ?_
 rintro e W2 ⟨he,hW⟩
 rw [K2.out] at he
 subst he
 replace HT1:=Lib.hid (HT1.out.grown hW)
 replace HT2:=Lib.hid (HT2.out.grown hW)
 replace HT3:=Lib.hid (HT3.out.grown hW)
 replace HG:=Lib.hid (grown_trans HG.out hW)
 clear hW
 obtain ⟨p0,p1,p2,p3,p4,-,-,-,-⟩:=HT1.out
 obtain ⟨q0,q1,q2,q3,q4,-,-,-,-⟩:=HT2.out
 obtain ⟨r0,r1,r2,r3,r4,r5,r6,r7,r8⟩:=HT3.out
 go_wp2
 (try simp only [Exit.inBlock,Exit.then])
 refine bodyPost_ret (v:=.tuple #[.int .u32 0,.agg #[.int .i64 0,.int .i64 0,.int .i64 0,.slice none 0 0],.int .i64 21]) ?_ rfl ⟨none,0,rfl,Reads.nil _ _ _,Nat.zero_le _,fresh_none _,gr⟩
 rw [results_three rfl]
 go_simp

set_option maxHeartbeats 1000000 in
theorem rmse_bad3 (aR aC aF bR bC bF:Int) (ad bd:Option Addr) (an bn ca cb:Nat) (g h:Nat→Int) (w:World) (hn:an≤9223372036854775807) (hn2:bn≤9223372036854775807) (h1:Reads ad an g w) (h2:Reads bd bn h w) (hr:rightB aR aC aF an g=true) (hr2:rightB bR bC bF bn h=true) (hs:aR≠bR):
  Calls Tryz.prog 17 #[.agg #[.int .i64 aR,.int .i64 aC,.int .i64 aF,.slice ad an ca],.agg #[.int .i64 bR,.int .i64 bC,.int .i64 bF,.slice bd bn cb]] w (LosE 0 PT.bad 21 w):=by
 have H1:=Lib.hid h1
 have H2:=Lib.hid h2
 have K1:=Lib.hid (show Ending.returned (.bool (rightB aR aC aF an g))=.returned (.bool true) by rw [hr])
 have K2:=Lib.hid (show Ending.returned (.bool (rightB bR bC bF bn h))=.returned (.bool true) by rw [hr2])
 have e1:(aR==bR)=false:=by simp [hs]
 have e2:(aR != bR)=true:=by simp [hs]
 have HT1:=Lib.hid ((ten_new w (.int .i64 aR) (.int .i64 aC) (.int .i64 aF) (.slice ad an ca) 24).grown (Grown.alloc (Grown.alloc (Grown.refl _) #[.int .i64 bR,.int .i64 bC,.int .i64 bF,.slice bd bn cb] 24) #[.int .i64 0,.int .i64 0,.int .i64 0,.slice none 0 0] 24))
 have HT2:=Lib.hid ((ten_new2 w #[.int .i64 aR,.int .i64 aC,.int .i64 aF,.slice ad an ca] 24 (.int .i64 bR) (.int .i64 bC) (.int .i64 bF) (.slice bd bn cb) 24).grown (Grown.alloc (Grown.refl _) #[.int .i64 0,.int .i64 0,.int .i64 0,.slice none 0 0] 24))
 have HT3:=Lib.hid (ten_new2 (w.alloc (.cells #[.int .i64 aR,.int .i64 aC,.int .i64 aF,.slice ad an ca] 24)) #[.int .i64 bR,.int .i64 bC,.int .i64 bF,.slice bd bn cb] 24 (.int .i64 0) (.int .i64 0) (.int .i64 0) (.slice none 0 0) 24)
 have HG:=Lib.hid (show Grown w (((w.alloc (.cells #[.int .i64 aR,.int .i64 aC,.int .i64 aF,.slice ad an ca] 24)).alloc (.cells #[.int .i64 bR,.int .i64 bC,.int .i64 bF,.slice bd bn cb] 24)).alloc (.cells #[.int .i64 0,.int .i64 0,.int .i64 0,.slice none 0 0] 24)) from gr)
 simp only [World.size_alloc] at HT3
 clear h1 h2 hr hr2 hs
 go_enter Tryz.func17,Tryz.ntmps17
 go_wp2_with fail
 generalize (((w.alloc _).alloc _).alloc _)=W0 at HT1 HT2 HT3 HG ⊢
 refine (rright_any _ _ _ _ _ _ g _ (by assumption) (H1.out.grown HG.out)).mono ?_
 rintro e W1 ⟨he,hW⟩
 rw [K1.out] at he
 subst he
 replace HT1:=Lib.hid (HT1.out.grown hW)
 replace HT2:=Lib.hid (HT2.out.grown hW)
 replace HT3:=Lib.hid (HT3.out.grown hW)
 replace HG:=Lib.hid (grown_trans HG.out hW)
 clear hW
 obtain ⟨p0,p1,p2,p3,p4,-,-,-,-⟩:=HT1.out
 obtain ⟨q0,q1,q2,q3,q4,-,-,-,-⟩:=HT2.out
 go_wp2_with fail
 clear p0 p1 p2 p3 p4 q0 q1 q2 q3 q4
 refine (rright_any _ _ _ _ _ _ h _ (by assumption) (H2.out.grown HG.out)).mono ?_
 rintro e W2 ⟨he,hW⟩
 rw [K2.out] at he
 subst he
 replace HT1:=Lib.hid (HT1.out.grown hW)
 replace HT2:=Lib.hid (HT2.out.grown hW)
 replace HT3:=Lib.hid (HT3.out.grown hW)
 replace HG:=Lib.hid (grown_trans HG.out hW)
 clear hW
 obtain ⟨p0,p1,p2,p3,p4,-,-,-,-⟩:=HT1.out
 obtain ⟨q0,q1,q2,q3,q4,-,-,-,-⟩:=HT2.out
 obtain ⟨r0,r1,r2,r3,r4,r5,r6,r7,r8⟩:=HT3.out
 go_wp2
 (try simp only [Exit.inBlock,Exit.then])
 refine bodyPost_ret (v:=.tuple #[.int .u32 0,.agg #[.int .i64 0,.int .i64 0,.int .i64 0,.slice none 0 0],.int .i64 21]) ?_ rfl ⟨none,0,rfl,Reads.nil _ _ _,Nat.zero_le _,fresh_none _,gr⟩
 rw [results_three rfl]
 go_simp

set_option maxHeartbeats 1000000 in
theorem rmse_bad4 (aR aC aF bR bC bF:Int) (ad bd:Option Addr) (an bn ca cb:Nat) (g h:Nat→Int) (w:World) (hn:an≤9223372036854775807) (hn2:bn≤9223372036854775807) (h1:Reads ad an g w) (h2:Reads bd bn h w) (hr:rightB aR aC aF an g=true) (hr2:rightB bR bC bF bn h=true) (hs:aR=bR) (hs2:aC≠bC):
  Calls Tryz.prog 17 #[.agg #[.int .i64 aR,.int .i64 aC,.int .i64 aF,.slice ad an ca],.agg #[.int .i64 bR,.int .i64 bC,.int .i64 bF,.slice bd bn cb]] w (LosE 0 PT.bad 21 w):=by
 have H1:=Lib.hid h1
 have H2:=Lib.hid h2
 have K1:=Lib.hid (show Ending.returned (.bool (rightB aR aC aF an g))=.returned (.bool true) by rw [hr])
 have K2:=Lib.hid (show Ending.returned (.bool (rightB bR bC bF bn h))=.returned (.bool true) by rw [hr2])
 have e1:(aC==bC)=false:=by simp [hs2]
 have e2:(aC != bC)=true:=by simp [hs2]
 subst hs
 have HT1:=Lib.hid ((ten_new w (.int .i64 aR) (.int .i64 aC) (.int .i64 aF) (.slice ad an ca) 24).grown (Grown.alloc (Grown.alloc (Grown.refl _) #[.int .i64 aR,.int .i64 bC,.int .i64 bF,.slice bd bn cb] 24) #[.int .i64 0,.int .i64 0,.int .i64 0,.slice none 0 0] 24))
 have HT2:=Lib.hid ((ten_new2 w #[.int .i64 aR,.int .i64 aC,.int .i64 aF,.slice ad an ca] 24 (.int .i64 aR) (.int .i64 bC) (.int .i64 bF) (.slice bd bn cb) 24).grown (Grown.alloc (Grown.refl _) #[.int .i64 0,.int .i64 0,.int .i64 0,.slice none 0 0] 24))
 have HT3:=Lib.hid (ten_new2 (w.alloc (.cells #[.int .i64 aR,.int .i64 aC,.int .i64 aF,.slice ad an ca] 24)) #[.int .i64 aR,.int .i64 bC,.int .i64 bF,.slice bd bn cb] 24 (.int .i64 0) (.int .i64 0) (.int .i64 0) (.slice none 0 0) 24)
 have HG:=Lib.hid (show Grown w (((w.alloc (.cells #[.int .i64 aR,.int .i64 aC,.int .i64 aF,.slice ad an ca] 24)).alloc (.cells #[.int .i64 aR,.int .i64 bC,.int .i64 bF,.slice bd bn cb] 24)).alloc (.cells #[.int .i64 0,.int .i64 0,.int .i64 0,.slice none 0 0] 24)) from gr)
 simp only [World.size_alloc] at HT3
 clear h1 h2 hr hr2 hs2
 go_enter Tryz.func17,Tryz.ntmps17
 go_wp2_with fail
 generalize (((w.alloc _).alloc _).alloc _)=W0 at HT1 HT2 HT3 HG ⊢
 refine (rright_any _ _ _ _ _ _ g _ (by assumption) (H1.out.grown HG.out)).mono ?_
 rintro e W1 ⟨he,hW⟩
 rw [K1.out] at he
 subst he
 replace HT1:=Lib.hid (HT1.out.grown hW)
 replace HT2:=Lib.hid (HT2.out.grown hW)
 replace HT3:=Lib.hid (HT3.out.grown hW)
 replace HG:=Lib.hid (grown_trans HG.out hW)
 clear hW
 obtain ⟨p0,p1,p2,p3,p4,-,-,-,-⟩:=HT1.out
 obtain ⟨q0,q1,q2,q3,q4,-,-,-,-⟩:=HT2.out
 go_wp2_with fail
 clear p0 p1 p2 p3 p4 q0 q1 q2 q3 q4
 refine (rright_any _ _ _ _ _ _ h _ (by assumption) (H2.out.grown HG.out)).mono ?_
 rintro e W2 ⟨he,hW⟩
 rw [K2.out] at he
 subst he
 replace HT1:=Lib.hid (HT1.out.grown hW)
 replace HT2:=Lib.hid (HT2.out.grown hW)
 replace HT3:=Lib.hid (HT3.out.grown hW)
 replace HG:=Lib.hid (grown_trans HG.out hW)
 clear hW
 obtain ⟨p0,p1,p2,p3,p4,-,-,-,-⟩:=HT1.out
 obtain ⟨q0,q1,q2,q3,q4,-,-,-,-⟩:=HT2.out
 obtain ⟨r0,r1,r2,r3,r4,r5,r6,r7,r8⟩:=HT3.out
 go_wp2
 (try simp only [Exit.inBlock,Exit.then])
 refine bodyPost_ret (v:=.tuple #[.int .u32 0,.agg #[.int .i64 0,.int .i64 0,.int .i64 0,.slice none 0 0],.int .i64 21]) ?_ rfl ⟨none,0,rfl,Reads.nil _ _ _,Nat.zero_le _,fresh_none _,gr⟩
 rw [results_three rfl]
 go_simp

set_option maxHeartbeats 4000000 in
theorem rmse_good (aF bF : Int) (aR aC : Nat) (ad bd : Option Addr) (n ca cb : Nat) (g h : Nat → Int) (w : World) (ha1 : aR ≤ 4096) (ha2 : aC ≤ 4096) (hnn : n = aR * aC) (h1 : Reads ad n g w) (h2 : Reads bd n h w) (hr : rightB aR aC aF n g = true) (hr2 : rightB aR aC bF n h = true) :
    Calls Tryz.prog 17 #[.agg #[.int .i64 aR, .int .i64 aC, .int .i64 aF, .slice ad n ca], .agg #[.int .i64 aR, .int .i64 aC, .int .i64 bF, .slice bd n cb]] w (LosE (if (aR : Int) = 0 then 0 else divV (msS ⟨aR, aC, aF, n, g⟩ ⟨aR, aC, bF, n, h⟩ n) (frmV n)) ⟨aR, aC, 2, n, fun i => divV (addV (msD ⟨aR, aC, aF, n, g⟩ ⟨aR, aC, bF, n, h⟩ i) (msD ⟨aR, aC, aF, n, g⟩ ⟨aR, aC, bF, n, h⟩ i)) (frmV n)⟩ 0 w) := by
  have H1 := Lib.hid h1
  have H2 := Lib.hid h2
  have K1 := Lib.hid (show Ending.returned (.bool (rightB aR aC aF n g)) = .returned (.bool true) by rw [hr])
  have K2 := Lib.hid (show Ending.returned (.bool (rightB aR aC bF n h)) = .returned (.bool true) by rw [hr2])
  obtain ⟨-, hm⟩ := wrap_mul aR aC n ha1 ha2 hnn.symm
  have hn : n ≤ 9223372036854775807 := by omega
  obtain ⟨G, hG⟩ : ∃ G : Nat → Int, G = fun i => divV (addV (msD ⟨aR, aC, aF, n, g⟩ ⟨aR, aC, bF, n, h⟩ i) (msD ⟨aR, aC, aF, n, g⟩ ⟨aR, aC, bF, n, h⟩ i)) (frmV n) := ⟨_, rfl⟩
  rw [← hG]
  obtain ⟨D, hD⟩ : ∃ D, msD ⟨aR, aC, aF, n, g⟩ ⟨aR, aC, bF, n, h⟩ = D := ⟨_, rfl⟩
  have HD := Lib.hid (show ∀ i, subV (widV aF g i) (widV bF h i) = D i from fun i => by rw [← hD]; rfl)
  have HSn := Lib.hid (show ∀ i, msS ⟨aR, aC, aF, n, g⟩ ⟨aR, aC, bF, n, h⟩ (i + 1) = fmaV (D i) (D i) (msS ⟨aR, aC, aF, n, g⟩ ⟨aR, aC, bF, n, h⟩ i) from fun i => by rw [← hD]; rfl)
  have HS0 := Lib.hid (show msS ⟨aR, aC, aF, n, g⟩ ⟨aR, aC, bF, n, h⟩ 0 = 0 from rfl)
  have HSb := Lib.hid (show ∀ i, 0 ≤ msS ⟨aR, aC, aF, n, g⟩ ⟨aR, aC, bF, n, h⟩ i ∧ msS ⟨aR, aC, aF, n, g⟩ ⟨aR, aC, bF, n, h⟩ i ≤ 4294967295 from fun i => by
    cases i with
    | zero => exact ⟨Int.le_refl _, by show (0 : Int) ≤ 4294967295; decide⟩
    | succ i => exact fma_word _ _ _)
  rw [hD] at hG
  obtain ⟨m, hm2⟩ : ∃ m, frmV n = m := ⟨_, rfl⟩
  rw [hm2] at hG ⊢
  have HM := Lib.hid hm2
  have HGi := Lib.hid (show ∀ i, G i = divV (addV (D i) (D i)) m from fun i => by rw [hG])
  have HGB := Lib.hid (show ∀ t, 0 ≤ G t ∧ G t ≤ 4294967295 from fun t => by rw [hG]; exact div_word _ _)
  generalize msS ⟨aR, aC, aF, n, g⟩ ⟨aR, aC, bF, n, h⟩ = ST at *
  obtain ⟨RV, hRV⟩ : ∃ RV, (if (aR : Int) = 0 then (0 : Int) else divV (ST n) m) = RV := ⟨_, rfl⟩
  rw [hRV]
  have HRV := Lib.hid hRV
  have HT1 := Lib.hid ((ten_new w (.int .i64 aR) (.int .i64 aC) (.int .i64 aF) (.slice ad n ca) 24).grown (Grown.alloc (Grown.alloc (Grown.refl _) #[.int .i64 aR, .int .i64 aC, .int .i64 bF, .slice bd n cb] 24) #[.int .i64 0, .int .i64 0, .int .i64 0, .slice none 0 0] 24))
  have HT2 := Lib.hid ((ten_new2 w #[.int .i64 aR, .int .i64 aC, .int .i64 aF, .slice ad n ca] 24 (.int .i64 aR) (.int .i64 aC) (.int .i64 bF) (.slice bd n cb) 24).grown (Grown.alloc (Grown.refl _) #[.int .i64 0, .int .i64 0, .int .i64 0, .slice none 0 0] 24))
  have HT3 := Lib.hid (ten_new2 (w.alloc (.cells #[.int .i64 aR, .int .i64 aC, .int .i64 aF, .slice ad n ca] 24)) #[.int .i64 aR, .int .i64 aC, .int .i64 bF, .slice bd n cb] 24 (.int .i64 0) (.int .i64 0) (.int .i64 0) (.slice none 0 0) 24)
  have HG := Lib.hid (show Grown w (((w.alloc (.cells #[.int .i64 aR, .int .i64 aC, .int .i64 aF, .slice ad n ca] 24)).alloc (.cells #[.int .i64 aR, .int .i64 aC, .int .i64 bF, .slice bd n cb] 24)).alloc (.cells #[.int .i64 0, .int .i64 0, .int .i64 0, .slice none 0 0] 24)) from gr)
  simp only [World.size_alloc] at HT3
  clear h1 h2 hr hr2 hnn hG hD hm2 hRV
  go_enter Tryz.func17, Tryz.ntmps17
  go_wp2_with fail
  generalize (((w.alloc _).alloc _).alloc _) = W0 at HT1 HT2 HT3 HG ⊢
  refine (rright_any _ _ _ _ _ _ g _ (by assumption) (H1.out.grown HG.out)).mono ?_
  rintro e W1 ⟨he, hW⟩
  rw [K1.out] at he
  subst he
  replace HT1 := Lib.hid (HT1.out.grown hW)
  replace HT2 := Lib.hid (HT2.out.grown hW)
  replace HT3 := Lib.hid (HT3.out.grown hW)
  replace HG := Lib.hid (grown_trans HG.out hW)
  clear hW
  obtain ⟨p0, p1, p2, p3, p4, -, -, -, -⟩ := HT1.out
  obtain ⟨q0, q1, q2, q3, q4, -, -, -, -⟩ := HT2.out
  go_wp2_with fail
  clear p0 p1 p2 p3 p4 q0 q1 q2 q3 q4
  refine (rright_any _ _ _ _ _ _ h _ (by assumption) (H2.out.grown HG.out)).mono ?_
  rintro e W2 ⟨he, hW⟩
  rw [K2.out] at he
  subst he
  replace HT1 := Lib.hid (HT1.out.grown hW)
  replace HT2 := Lib.hid (HT2.out.grown hW)
  replace HT3 := Lib.hid (HT3.out.grown hW)
  replace HG := Lib.hid (grown_trans HG.out hW)
  clear hW
  obtain ⟨p0, p1, p2, p3, p4, -, -, -, -⟩ := HT1.out
  obtain ⟨q0, q1, q2, q3, q4, -, -, -, -⟩ := HT2.out
  obtain ⟨r0, r1, r2, r3, r4, r5, r6, r7, r8⟩ := HT3.out
  have hmk := run_make_row' (P := Tryz.prog) 22 29 (.int .u32 0) 4 Tryz.underlying22 (by kernel_rfl) rfl .i64 .i64 n (by omega) (by omega)
  have HA := Lib.hid (show PS w w.heap.size W2.heap.size (W2.heap.size + 1) n (.int .i64 aR) (.int .i64 aC) (.int .i64 aF) (.slice ad n ca) (.int .i64 aR) (.int .i64 aC) (.int .i64 bF) (.slice bd n cb) (.int .i64 aR) (.int .i64 aC) (.int .i64 2) G 0 (((W2.alloc (.cells (madeCells #[.int .u32 0] n) 29)).alloc (.cells #[.int .i64 aR, .int .i64 aC, .int .i64 2, .slice (some ⟨W2.heap.size, 0, none⟩) n n] 24)).drew) from
    ⟨gr, HT1.out.grown gr, HT2.out.grown gr, HT3.out.grown gr, by simpa only [World.size_alloc] using (ten_new (W2.alloc (.cells (madeCells #[.int .u32 0] n) 29)) (.int .i64 aR) (.int .i64 aC) (.int .i64 2) (.slice (some ⟨W2.heap.size, 0, none⟩) n n) 24).grown (Grown.drew (Grown.refl _)), (Filled.new W2 n G 29).grown (Grown.drew (Grown.alloc (Grown.refl _) _ _)), r0, Nat.lt_succ_of_lt r0, by omega, Nat.le_refl _⟩)
  have HB := Lib.hid (show PS w w.heap.size (W2.heap.size + 1) W2.heap.size n (.int .i64 aR) (.int .i64 aC) (.int .i64 aF) (.slice ad n ca) (.int .i64 aR) (.int .i64 aC) (.int .i64 bF) (.slice bd n cb) (.int .i64 aR) (.int .i64 aC) (.int .i64 2) G 0 (((W2.alloc (.cells #[.int .i64 aR, .int .i64 aC, .int .i64 2, .slice (some ⟨W2.heap.size + 1, 0, none⟩) n n] 24)).alloc (.cells (madeCells #[.int .u32 0] n) 29)).drew) from
    ⟨gr, HT1.out.grown gr, HT2.out.grown gr, HT3.out.grown gr, (ten_new W2 (.int .i64 aR) (.int .i64 aC) (.int .i64 2) (.slice (some ⟨W2.heap.size + 1, 0, none⟩) n n) 24).grown (Grown.drew (Grown.alloc (Grown.refl _) _ _)), by simpa only [World.size_alloc] using (Filled.new (W2.alloc (.cells #[.int .i64 aR, .int .i64 aC, .int .i64 2, .slice (some ⟨W2.heap.size + 1, 0, none⟩) n n] 24)) n G 29).grown (Grown.drew (Grown.refl _)), Nat.lt_succ_of_lt r0, r0, by omega, Nat.le_refl _⟩)
  go_wp2_with fail
  apply by_key
  · intro key
    go_region
    all_goals
      generalize hW3 : ((W2.alloc _).alloc _).drew = W3
      first
        | (have HP := hW3 ▸ HA.out
           generalize W2.heap.size + 1 = ob at HP ⊢
           generalize W2.heap.size = nb at HP ⊢)
        | (have HP := hW3 ▸ HB.out
           generalize W2.heap.size + 1 = nb at HP ⊢
           generalize W2.heap.size = ob at HP ⊢)
      replace HP := Lib.hid HP
      clear hW3
      revert HP
      revert W3
      revert nb
      revert ob
      exact key
  · intro ob nb W3 HP
    clear hmk p0 p1 p2 p3 p4 q0 q1 q2 q3 q4 r0 r1 r2 r3 r4 r5 r6 r7 r8 HA HB HT1 HT2 HT3 HG
    obtain ⟨p0, p1, p2, p3, p4, -, -, -, -⟩ := HP.out.t1; obtain ⟨q0, q1, q2, q3, q4, -, -, -, -⟩ := HP.out.t2
    go_wp2_with fail
    refine (nint_any n _ (by omega) (by omega)).mono ?_
    rintro e W4 ⟨rfl, m0, m1, hW⟩
    rw [HM.out] at m0 m1 ⊢
    replace HP := Lib.hid (HP.out.grown hW)
    clear hW p0 p1 p2 p3 p4 q0 q1 q2 q3 q4
    go_wp2_with fail
    go_loopw [9, 10, 11] (fun s i _ wr => ∃ I : Nat, I ≤ n ∧ i = .int .i64 I ∧ s = .int .u32 (ST I) ∧ Hid (PS w w.heap.size nb ob n (.int .i64 aR) (.int .i64 aC) (.int .i64 aF) (.slice ad n ca) (.int .i64 aR) (.int .i64 aC) (.int .i64 bF) (.slice bd n cb) (.int .i64 aR) (.int .i64 aC) (.int .i64 2) G I wr)) (fun _ i _ _ => n - (intOf i).toNat)
    case atStart => exact ⟨0, Nat.zero_le _, rfl, by rw [HS0.out], HP⟩
    case round =>
      rename World => wr
      clear HP
      obtain ⟨I, hI, rfl, rfl, HP⟩ := hrel
      obtain ⟨s0, s1⟩ := HSb.out I
      obtain ⟨p0, p1, p2, p3, p4, -, -, -, -⟩ := HP.out.t1; obtain ⟨q0, q1, q2, q3, q4, -, -, -, -⟩ := HP.out.t2
      by_cases hlt : I < n
      · have HG := Lib.hid HP.out.g
        obtain ⟨x0, x1⟩ := wid_bd aF g I
        obtain ⟨z0, z1⟩ := wid_bd bF h I
        have HDI := HD.out I
        obtain ⟨x, hx⟩ : ∃ x, widV aF g I = x := ⟨_, rfl⟩
        obtain ⟨z, hz⟩ : ∃ z, widV bF h I = z := ⟨_, rfl⟩
        rw [hx, hz] at HDI
        rw [hx] at x0 x1
        rw [hz] at z0 z1
        have HXX := Lib.hid hx
        have HZZ := Lib.hid hz
        have HSI := HSn.out I
        have HGI := HGi.out I
        obtain ⟨d, hd⟩ : ∃ d, D I = d := ⟨_, rfl⟩
        rw [hd] at HDI HSI HGI
        have HDI := Lib.hid HDI
        obtain ⟨s, hs⟩ : ∃ s, ST I = s := ⟨_, rfl⟩
        rw [hs] at HSI s0 s1 ⊢
        have HSI := Lib.hid HSI
        obtain ⟨q, hq⟩ : ∃ q, addV d d = q := ⟨_, rfl⟩
        rw [hq] at HGI
        have HQ := Lib.hid hq
        obtain ⟨V, hV⟩ : ∃ V, divV q m = V := ⟨_, rfl⟩
        rw [hV] at HGI
        have HV := Lib.hid hV
        have HGI := Lib.hid HGI
        clear hx hz hd hs hq hV
        go_wp2_with fail
        go_region_held3 (fun w' => w'.cell? ⟨w.heap.size, 0, none⟩ = some (.int .i64 aR) ∧ w'.cell? ⟨w.heap.size, 1, none⟩ = some (.int .i64 aC) ∧ w'.cell? ⟨w.heap.size, 2, none⟩ = some (.int .i64 aF) ∧ w'.cell? ⟨w.heap.size, 3, none⟩ = some (.slice ad n ca) ∧ w'.cell? ⟨w.heap.size + 1, 0, none⟩ = some (.int .i64 aR) ∧ w'.cell? ⟨w.heap.size + 1, 1, none⟩ = some (.int .i64 aC) ∧ w'.cell? ⟨w.heap.size + 1, 2, none⟩ = some (.int .i64 bF) ∧ w'.cell? ⟨w.heap.size + 1, 3, none⟩ = some (.slice bd n cb)) (go_keep) (first
          | (go_at_call 35; ((with_reducible refine (twide_any aR aC aF ad n ca I g _ hn hlt (H1.out.grown gr)).mono ?_); rintro e W5 ⟨he, hW⟩; rw [HXX.out] at he; subst he; replace HG := Lib.hid (show Grown w W5 from grown_trans gr hW); replace HP := Lib.hid (HP.out.grown (grown_trans gr hW)); clear hW p0 p1 p2 p3 p4 q0 q1 q2 q3 q4; obtain ⟨p0, p1, p2, p3, p4, -, -, -, -⟩ := HP.out.t1; obtain ⟨q0, q1, q2, q3, q4, -, -, -, -⟩ := HP.out.t2))
          | (go_at_call 35; ((with_reducible refine (twide_any aR aC bF bd n cb I h _ hn hlt (H2.out.grown gr)).mono ?_); rintro e W6 ⟨he, hW⟩; rw [HZZ.out] at he; subst he; replace HG := Lib.hid (show Grown w W6 from grown_trans gr hW); replace HP := Lib.hid (HP.out.grown (grown_trans gr hW)); clear hW p0 p1 p2 p3 p4 q0 q1 q2 q3 q4; obtain ⟨p0, p1, p2, p3, p4, -, -, -, -⟩ := HP.out.t1; obtain ⟨q0, q1, q2, q3, q4, -, -, -, -⟩ := HP.out.t2))
          | (go_at_call 21; (with_reducible refine (nsub_any x z _ x0 x1 z0 z1).mono ?_); rintro e W7 ⟨he, d0, d1, hW⟩; rw [HDI.out] at he d0 d1; subst he; replace HG := Lib.hid (show Grown w W7 from grown_trans gr hW); replace HP := Lib.hid (HP.out.grown (grown_trans gr hW)); clear hW p0 p1 p2 p3 p4 q0 q1 q2 q3 q4; obtain ⟨p0, p1, p2, p3, p4, -, -, -, -⟩ := HP.out.t1; obtain ⟨q0, q1, q2, q3, q4, -, -, -, -⟩ := HP.out.t2))
        go_wp2_with fail
        refine (nfma_any d d s _ d0 d1 d0 d1 s0 s1).mono ?_
        rintro e W8 ⟨rfl, -, -, hW⟩
        replace HP := Lib.hid (HP.out.grown hW)
        have HG := Lib.hid HP.out.g
        clear hW p0 p1 p2 p3 p4 q0 q1 q2 q3 q4
        obtain ⟨o0, o1, o2, o3, o4, -, -, -, -⟩ := HP.out.t4
        have y := HP.out.f.cell I hlt
        have z := HP.out.f.free I
        have n1 : ¬ nb = ob := HP.out.ne
        have n2 : ¬ ob = nb := fun e => n1 e.symm
        have n3 : w.heap.size ≤ nb := by have := HP.out.o; omega
        go_wp2_with fail
        go_region_held3 (fun w' => w'.cell? ⟨ob, 0, none⟩ = some (.int .i64 aR) ∧ w'.cell? ⟨ob, 1, none⟩ = some (.int .i64 aC) ∧ w'.cell? ⟨ob, 2, none⟩ = some (.int .i64 2) ∧ w'.cell? ⟨ob, 3, none⟩ = some (.slice (some ⟨nb, 0, none⟩) n n)) (go_keep) (first
          | (go_at_call 38; (with_reducible refine (nadd_any d d _ d0 d1 d0 d1).mono ?_); rintro e W9 ⟨he, a0, a1, hW⟩; rw [HQ.out] at he a0 a1; subst he; replace HG := Lib.hid (show Grown w W9 from grown_trans gr hW); replace HP := Lib.hid (HP.out.grown (grown_trans gr hW)); clear hW o0 o1 o2 o3 o4 y z; obtain ⟨o0, o1, o2, o3, o4, -, -, -, -⟩ := HP.out.t4; have y := HP.out.f.cell I hlt; have z := HP.out.f.free I)
          | (go_at_call 19; (with_reducible refine (ndiv_any q m _ a0 a1 m0 m1).mono ?_); rintro e W10 ⟨he, -, -, hW⟩; rw [HV.out] at he; subst he; replace HG := Lib.hid (show Grown w W10 from grown_trans gr hW); replace HP := Lib.hid (HP.out.grown (grown_trans gr hW)); clear hW o0 o1 o2 o3 o4 y z; obtain ⟨o0, o1, o2, o3, o4, -, -, -, -⟩ := HP.out.t4; have y := HP.out.f.cell I hlt; have z := HP.out.f.free I))
        go_wp2
        go_roundw
        case rel => exact ⟨I + 1, by omega, by go_num, by rw [HSI.out], Lib.hid (by
          have := HP.out.set hlt
          rw [HGI.out] at this
          exact this.grown gr)⟩
        case measure => simp [intOf]; omega
      · obtain rfl : I = n := by omega
        have HG := Lib.hid HP.out.g
        have HF := Lib.hid HP.out.f
        obtain ⟨o0, o1, o2, o3, o4, -, -, -, -⟩ := HP.out.t4
        obtain ⟨r0, r1, r2, r3, r4, r5, r6, r7, r8⟩ := HP.out.t3
        have ho : w.heap.size + 1 + 1 < nb := HP.out.o
        have ho2 : w.heap.size + 1 + 1 < ob := HP.out.o2
        obtain ⟨z, hz⟩ : ∃ z, w.heap.size + 1 + 1 = z := ⟨_, rfl⟩
        have HZ := Lib.hid hz
        have n1 : ¬ z = ob := by omega
        have n2 : ¬ ob = z := by omega
        have n3 : w.heap.size ≤ z := by omega
        have hne : nb ≠ z := by omega
        rw [hz] at r0 r1 r2 r3 r4 r5 r6 r7 r8
        obtain ⟨s, hs⟩ : ∃ s, ST I = s := ⟨_, rfl⟩
        rw [hs] at s0 s1 ⊢
        have HST := Lib.hid hs
        by_cases hR : aR = 0
        · have HV : Hid (0 = RV) := Lib.hid (by rw [← HRV.out, if_pos (by omega)])
          have hR1 : ((aR : Int) == 0) = true := by simp; omega
          clear hs
          go_wp2_with fail
          (try rw [hz])
          clear hz
          go_region_held3 (fun w' => w'.cell? ⟨ob, 0, none⟩ = some (.int .i64 aR) ∧ w'.cell? ⟨ob, 1, none⟩ = some (.int .i64 aC) ∧ w'.cell? ⟨ob, 2, none⟩ = some (.int .i64 2) ∧ w'.cell? ⟨ob, 3, none⟩ = some (.slice (some ⟨nb, 0, none⟩) I I)) (go_keep) (fail)
          go_wp2
          (try simp only [Exit.inBlock, Exit.then])
          refine bodyPost_ret (v := .tuple #[.int .u32 0, .agg #[.int .i64 aR, .int .i64 aC, .int .i64 2, .slice (some ⟨nb, 0, none⟩) I I], .int .i64 0]) ?_ rfl ⟨some ⟨nb, 0, none⟩, I, by rw [← HV.out], ?_, hm, fun x hx => by cases hx; show w.heap.size ≤ nb; omega, gr⟩
          · rw [results_three rfl]
            go_simp
          · exact ((((HF.out.other (a := ⟨z, 0, none⟩) hne _).other (a := ⟨z, 1, none⟩) hne _).other (a := ⟨z, 2, none⟩) hne _).other (a := ⟨z, 3, none⟩) hne _).reads fun t _ => HGB.out t
        · have HV : Hid (divV s m = RV) := Lib.hid (by rw [← HRV.out, if_neg (by omega), hs])
          have hR1 : ((aR : Int) == 0) = false := by simp; omega
          clear hs
          go_wp2_with fail
          (try rw [hz])
          clear hz
          go_region_held3 (fun w' => w'.cell? ⟨ob, 0, none⟩ = some (.int .i64 aR) ∧ w'.cell? ⟨ob, 1, none⟩ = some (.int .i64 aC) ∧ w'.cell? ⟨ob, 2, none⟩ = some (.int .i64 2) ∧ w'.cell? ⟨ob, 3, none⟩ = some (.slice (some ⟨nb, 0, none⟩) I I)) (go_keep) (first
            | (go_at_call 19; (with_reducible refine (ndiv_any s m _ s0 s1 m0 m1).mono ?_); rintro e W5 ⟨rfl, -, -, hW⟩; replace HG := Lib.hid (show Grown w W5 from grown_trans gr hW); replace HP := Lib.hid (HP.out.grown (grown_trans gr hW)); replace HF := Lib.hid HP.out.f; clear hW o0 o1 o2 o3 o4 r0 r1 r2 r3 r4 r5 r6 r7 r8; obtain ⟨o0, o1, o2, o3, o4, -, -, -, -⟩ := HP.out.t4; obtain ⟨r0, r1, r2, r3, r4, r5, r6, r7, r8⟩ := HP.out.t3; rw [HZ.out] at r0 r1 r2 r3 r4 r5 r6 r7 r8))
          go_wp2
          (try simp only [Exit.inBlock, Exit.then])
          refine bodyPost_ret (v := .tuple #[.int .u32 (divV s m), .agg #[.int .i64 aR, .int .i64 aC, .int .i64 2, .slice (some ⟨nb, 0, none⟩) I I], .int .i64 0]) ?_ rfl ⟨some ⟨nb, 0, none⟩, I, by rw [← HV.out], ?_, hm, fun x hx => by cases hx; show w.heap.size ≤ nb; omega, gr⟩
          · rw [results_three rfl]
            go_simp
          · exact ((((HF.out.other (a := ⟨z, 0, none⟩) hne _).other (a := ⟨z, 1, none⟩) hne _).other (a := ⟨z, 2, none⟩) hne _).other (a := ⟨z, 3, none⟩) hne _).reads fun t _ => HGB.out t

theorem rmse_any (aR aC aF bR bC bF:Int) (ad bd:Option Addr) (an bn ca cb:Nat) (g h:Nat→Int) (w:World) (hn:an≤9223372036854775807) (hn2:bn≤9223372036854775807) (h1:Reads ad an g w) (h2:Reads bd bn h w):
  Calls Tryz.prog 17 #[.agg #[.int .i64 aR,.int .i64 aC,.int .i64 aF,.slice ad an ca],.agg #[.int .i64 bR,.int .i64 bC,.int .i64 bF,.slice bd bn cb]] w (LosE (mseV ⟨aR,aC,aF,an,g⟩ ⟨bR,bC,bF,bn,h⟩) (mseT ⟨aR,aC,aF,an,g⟩ ⟨bR,bC,bF,bn,h⟩) (mseX ⟨aR,aC,aF,an,g⟩ ⟨bR,bC,bF,bn,h⟩) w):=by
 unfold mseV mseT mseX
 cases hb:msB ⟨aR,aC,aF,an,g⟩ ⟨bR,bC,bF,bn,h⟩
 ·unfold msB PT.right at hb
  dsimp only at hb
  cases e1:rightB aR aC aF an g
  ·exact rmse_bad1 aR aC aF bR bC bF ad bd an bn ca cb g h w hn hn2 h1 h2 e1
  ·cases e2:rightB bR bC bF bn h
   ·exact rmse_bad2 aR aC aF bR bC bF ad bd an bn ca cb g h w hn hn2 h1 h2 e1 e2
   ·rw [e1,e2] at hb
    by_cases e3:aR=bR
    ·by_cases e4:aC=bC
     ·subst e3 e4
      simp at hb
     ·exact rmse_bad4 aR aC aF bR bC bF ad bd an bn ca cb g h w hn hn2 h1 h2 e1 e2 e3 e4
    ·exact rmse_bad3 aR aC aF bR bC bF ad bd an bn ca cb g h w hn hn2 h1 h2 e1 e2 e3
 ·obtain ⟨e1,e2,e3,e4⟩:=msb_yes hb
  simp only at e3 e4
  subst e3 e4
  obtain ⟨r,k,f1,f2,l1,l2,f3⟩:=right_nat e1
  obtain ⟨r',k',f1',f2',_,_,f3'⟩:=right_nat e2
  simp only at f1 f2 f3 f1' f2' f3'
  subst f1 f2
  have hr:r'=r:=by omega
  have hk:k'=k:=by omega
  subst hr hk
  have hbn:bn=an:=by omega
  subst hbn
  rw [if_pos rfl,if_pos rfl,if_pos rfl]
  exact rmse_good aF bF r' k' ad bd bn ca cb g h w l1 l2 f3 h1 h2 e1 e2
end Go.Proofs.YteifobleigfbaaaGreat
