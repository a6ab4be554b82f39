/- The contract of annealref13's Back. (Written by gen57.py.) -/
import Derived.Test.YtpjpmmiepfoiaaaGreatRAct
import Derived.Test.YtpjpmmiepfoiaaaGreatRKern
import Derived.Deep.RegionHeld3
namespace Go.Proofs.YtpjpmmiepfoiaaaGreat
open Go Go.RowKit
set_option linter.unusedVariables false
set_option linter.unusedSimpArgs false

theorem bacV_bd (k F:Int) (g:Nat→Int) (F':Int) (g':Nat→Int) (i:Nat):0≤bacV k F g F' g' i∧bacV k F g F' g' i≤4294967295:=by
 unfold bacV
 obtain ⟨h0,h1⟩:=con_bd 2 F' 0 (mulV (widV F' g' i) (sloA k (widV F g i)))
 have:=mskw F'
 omega

set_option maxHeartbeats 1000000 in
theorem rback_bad1 (k aR aC aF bR bC bF:Int) (ad bd:Option Addr) (an bn ca cb:Nat) (g h:Nat→Int) (w:World) (hn:an≤9223372036854775807) (hn':bn≤9223372036854775807) (h1:Reads ad an g w) (h2:Reads bd bn h w) (hr:rightB aR aC aF an g=false):
  Calls Tryz.prog 20 #[.int .i64 k,.agg #[.int .i64 aR,.int .i64 aC,.int .i64 aF,.slice ad an ca],.agg #[.int .i64 bR,.int .i64 bC,.int .i64 bF,.slice bd bn cb]] w (TenE PT.bad 21 w):=by
 have H1:=Lib.hid h1
 have K1:=Lib.hid (show Ending.returned (.bool (rightB aR aC aF an g))=.returned (.bool false) by rw [hr])
 clear h1 h2 hr
 have HT1:=Lib.hid ((ten_new w (.int .i64 aR) (.int .i64 aC) (.int .i64 aF) (.slice ad an ca) 24).grown (Grown.alloc (Grown.alloc (Grown.refl _) #[.int .i64 bR,.int .i64 bC,.int .i64 bF,.slice bd bn cb] 24) #[.int .i64 0,.int .i64 0,.int .i64 0,.slice none 0 0] 24))
 have HT2:=Lib.hid ((ten_new (w.alloc (.cells #[.int .i64 aR,.int .i64 aC,.int .i64 aF,.slice ad an ca] 24)) (.int .i64 bR) (.int .i64 bC) (.int .i64 bF) (.slice bd bn cb) 24).grown (Grown.alloc (Grown.refl _) #[.int .i64 0,.int .i64 0,.int .i64 0,.slice none 0 0] 24))
 have HT3:=Lib.hid (ten_new ((w.alloc (.cells #[.int .i64 aR,.int .i64 aC,.int .i64 aF,.slice ad an ca] 24)).alloc (.cells #[.int .i64 bR,.int .i64 bC,.int .i64 bF,.slice bd bn cb] 24)) (.int .i64 0) (.int .i64 0) (.int .i64 0) (.slice none 0 0) 24)
 have HG:=Lib.hid (Grown.alloc (Grown.alloc (Grown.alloc (Grown.refl w) #[.int .i64 aR,.int .i64 aC,.int .i64 aF,.slice ad an ca] 24) #[.int .i64 bR,.int .i64 bC,.int .i64 bF,.slice bd bn cb] 24) #[.int .i64 0,.int .i64 0,.int .i64 0,.slice none 0 0] 24)
 go_enter Tryz.func20,Tryz.ntmps20
 go_wp2_with fail
 simp only [World.size_alloc] at HT2 HT3
 generalize ((w.alloc _).alloc _).alloc _=W0 at HT1 HT2 HT3 HG ⊢
 refine (rright_any _ _ _ _ _ _ _ _ (by assumption) (H1.out.grown HG.out)).mono ?_
 rintro e W1 ⟨he,hW⟩
 rw [K1.out] at he
 subst he
 replace HT1:=Lib.hid (HT1.out.grown hW)
 replace HT2:=Lib.hid (HT2.out.grown hW)
 replace HT3:=Lib.hid (HT3.out.grown hW)
 replace HG:=Lib.hid (grown_trans HG.out hW)
 clear hW
 obtain ⟨p0,p1,p2,p3,p4,_,_,_,_⟩:=HT1.out
 obtain ⟨q0,q1,q2,q3,q4,_,_,_,_⟩:=HT2.out
 obtain ⟨r0,r1,r2,r3,r4,r5,r6,r7,r8⟩:=HT3.out
 go_wp2
 (try simp only [Exit.inBlock,Exit.then])
 refine bodyPost_ret (v:=.tuple #[.agg #[.int .i64 0,.int .i64 0,.int .i64 0,.slice none 0 0],.int .i64 21]) ?_ rfl ⟨none,0,rfl,Reads.nil _ _ _,by decide,fresh_none _,gr⟩
 rw [results_cell_tmp rfl]
 go_simp

set_option maxHeartbeats 1000000 in
theorem rback_bad2 (k aR aC aF bR bC bF:Int) (ad bd:Option Addr) (an bn ca cb:Nat) (g h:Nat→Int) (w:World) (hn:an≤9223372036854775807) (hn':bn≤9223372036854775807) (h1:Reads ad an g w) (h2:Reads bd bn h w) (hr:rightB aR aC aF an g=true) (hr2:rightB bR bC bF bn h=false):
  Calls Tryz.prog 20 #[.int .i64 k,.agg #[.int .i64 aR,.int .i64 aC,.int .i64 aF,.slice ad an ca],.agg #[.int .i64 bR,.int .i64 bC,.int .i64 bF,.slice bd bn cb]] w (TenE PT.bad 21 w):=by
 have H1:=Lib.hid h1
 have H2:=Lib.hid h2
 have K1:=Lib.hid (show Ending.returned (.bool (rightB aR aC aF an g))=.returned (.bool true) by rw [hr])
 have K2:=Lib.hid (show Ending.returned (.bool (rightB bR bC bF bn h))=.returned (.bool false) by rw [hr2])
 clear h1 h2 hr hr2
 have HT1:=Lib.hid ((ten_new w (.int .i64 aR) (.int .i64 aC) (.int .i64 aF) (.slice ad an ca) 24).grown (Grown.alloc (Grown.alloc (Grown.refl _) #[.int .i64 bR,.int .i64 bC,.int .i64 bF,.slice bd bn cb] 24) #[.int .i64 0,.int .i64 0,.int .i64 0,.slice none 0 0] 24))
 have HT2:=Lib.hid ((ten_new (w.alloc (.cells #[.int .i64 aR,.int .i64 aC,.int .i64 aF,.slice ad an ca] 24)) (.int .i64 bR) (.int .i64 bC) (.int .i64 bF) (.slice bd bn cb) 24).grown (Grown.alloc (Grown.refl _) #[.int .i64 0,.int .i64 0,.int .i64 0,.slice none 0 0] 24))
 have HT3:=Lib.hid (ten_new ((w.alloc (.cells #[.int .i64 aR,.int .i64 aC,.int .i64 aF,.slice ad an ca] 24)).alloc (.cells #[.int .i64 bR,.int .i64 bC,.int .i64 bF,.slice bd bn cb] 24)) (.int .i64 0) (.int .i64 0) (.int .i64 0) (.slice none 0 0) 24)
 have HG:=Lib.hid (Grown.alloc (Grown.alloc (Grown.alloc (Grown.refl w) #[.int .i64 aR,.int .i64 aC,.int .i64 aF,.slice ad an ca] 24) #[.int .i64 bR,.int .i64 bC,.int .i64 bF,.slice bd bn cb] 24) #[.int .i64 0,.int .i64 0,.int .i64 0,.slice none 0 0] 24)
 go_enter Tryz.func20,Tryz.ntmps20
 go_wp2_with fail
 simp only [World.size_alloc] at HT2 HT3
 generalize ((w.alloc _).alloc _).alloc _=W0 at HT1 HT2 HT3 HG ⊢
 refine (rright_any _ _ _ _ _ _ _ _ (by assumption) (H1.out.grown HG.out)).mono ?_
 rintro e W1 ⟨he,hW⟩
 rw [K1.out] at he
 subst he
 replace HT1:=Lib.hid (HT1.out.grown hW)
 replace HT2:=Lib.hid (HT2.out.grown hW)
 replace HT3:=Lib.hid (HT3.out.grown hW)
 replace HG:=Lib.hid (grown_trans HG.out hW)
 clear hW
 obtain ⟨p0,p1,p2,p3,p4,_,_,_,_⟩:=HT1.out
 obtain ⟨q0,q1,q2,q3,q4,_,_,_,_⟩:=HT2.out
 obtain ⟨r0,r1,r2,r3,r4,r5,r6,r7,r8⟩:=HT3.out
 go_wp2_with fail
 refine (rright_any _ _ _ _ _ _ _ _ (by assumption) (H2.out.grown HG.out)).mono ?_
 rintro e W2 ⟨he,hW⟩
 rw [K2.out] at he
 subst he
 replace HT1:=Lib.hid (HT1.out.grown hW)
 replace HT2:=Lib.hid (HT2.out.grown hW)
 replace HT3:=Lib.hid (HT3.out.grown hW)
 replace HG:=Lib.hid (grown_trans HG.out hW)
 clear hW
 clear p0 p1 p2 p3 p4 q0 q1 q2 q3 q4 r0 r1 r2 r3 r4 r5 r6 r7 r8
 obtain ⟨p0,p1,p2,p3,p4,_,_,_,_⟩:=HT1.out
 obtain ⟨q0,q1,q2,q3,q4,_,_,_,_⟩:=HT2.out
 obtain ⟨r0,r1,r2,r3,r4,r5,r6,r7,r8⟩:=HT3.out
 go_wp2
 (try simp only [Exit.inBlock,Exit.then])
 refine bodyPost_ret (v:=.tuple #[.agg #[.int .i64 0,.int .i64 0,.int .i64 0,.slice none 0 0],.int .i64 21]) ?_ rfl ⟨none,0,rfl,Reads.nil _ _ _,by decide,fresh_none _,gr⟩
 rw [results_cell_tmp rfl]
 go_simp

set_option maxHeartbeats 1000000 in
theorem rback_bad3 (k aR aC aF bR bC bF:Int) (ad bd:Option Addr) (an bn ca cb:Nat) (g h:Nat→Int) (w:World) (hn:an≤9223372036854775807) (hn':bn≤9223372036854775807) (h1:Reads ad an g w) (h2:Reads bd bn h w) (hr:rightB aR aC aF an g=true) (hr2:rightB bR bC bF bn h=true) (hk:¬(aR=bR∧aC=bC)):
  Calls Tryz.prog 20 #[.int .i64 k,.agg #[.int .i64 aR,.int .i64 aC,.int .i64 aF,.slice ad an ca],.agg #[.int .i64 bR,.int .i64 bC,.int .i64 bF,.slice bd bn cb]] w (TenE PT.bad 21 w):=by
 have H1:=Lib.hid h1
 have H2:=Lib.hid h2
 have K1:=Lib.hid (show Ending.returned (.bool (rightB aR aC aF an g))=.returned (.bool true) by rw [hr])
 have K2:=Lib.hid (show Ending.returned (.bool (rightB bR bC bF bn h))=.returned (.bool true) by rw [hr2])
 clear h1 h2 hr hr2
 have HT1:=Lib.hid ((ten_new w (.int .i64 aR) (.int .i64 aC) (.int .i64 aF) (.slice ad an ca) 24).grown (Grown.alloc (Grown.alloc (Grown.refl _) #[.int .i64 bR,.int .i64 bC,.int .i64 bF,.slice bd bn cb] 24) #[.int .i64 0,.int .i64 0,.int .i64 0,.slice none 0 0] 24))
 have HT2:=Lib.hid ((ten_new (w.alloc (.cells #[.int .i64 aR,.int .i64 aC,.int .i64 aF,.slice ad an ca] 24)) (.int .i64 bR) (.int .i64 bC) (.int .i64 bF) (.slice bd bn cb) 24).grown (Grown.alloc (Grown.refl _) #[.int .i64 0,.int .i64 0,.int .i64 0,.slice none 0 0] 24))
 have HT3:=Lib.hid (ten_new ((w.alloc (.cells #[.int .i64 aR,.int .i64 aC,.int .i64 aF,.slice ad an ca] 24)).alloc (.cells #[.int .i64 bR,.int .i64 bC,.int .i64 bF,.slice bd bn cb] 24)) (.int .i64 0) (.int .i64 0) (.int .i64 0) (.slice none 0 0) 24)
 have HG:=Lib.hid (Grown.alloc (Grown.alloc (Grown.alloc (Grown.refl w) #[.int .i64 aR,.int .i64 aC,.int .i64 aF,.slice ad an ca] 24) #[.int .i64 bR,.int .i64 bC,.int .i64 bF,.slice bd bn cb] 24) #[.int .i64 0,.int .i64 0,.int .i64 0,.slice none 0 0] 24)
 by_cases k1:aR=bR
 ·have k2:¬aC=bC:=fun e=>hk ⟨k1,e⟩
  have f2:((aC:Int)==bC)=false:=by simpa using k2
  have f3:((aC:Int) != bC)=true:=by rw [bne,f2];rfl
  have f4:((aR:Int) != bR)=false:=by rw [bne,beq_iff_eq.2 k1];rfl
  have f5:((aR:Int)==bR)=true:=beq_iff_eq.2 k1
  clear hk k1 k2
  go_enter Tryz.func20,Tryz.ntmps20
  go_wp2_with fail
  simp only [World.size_alloc] at HT2 HT3
  generalize ((w.alloc _).alloc _).alloc _=W0 at HT1 HT2 HT3 HG ⊢
  refine (rright_any _ _ _ _ _ _ _ _ (by assumption) (H1.out.grown HG.out)).mono ?_
  rintro e W1 ⟨he,hW⟩
  rw [K1.out] at he
  subst he
  replace HT1:=Lib.hid (HT1.out.grown hW)
  replace HT2:=Lib.hid (HT2.out.grown hW)
  replace HT3:=Lib.hid (HT3.out.grown hW)
  replace HG:=Lib.hid (grown_trans HG.out hW)
  clear hW
  obtain ⟨p0,p1,p2,p3,p4,_,_,_,_⟩:=HT1.out
  obtain ⟨q0,q1,q2,q3,q4,_,_,_,_⟩:=HT2.out
  obtain ⟨r0,r1,r2,r3,r4,r5,r6,r7,r8⟩:=HT3.out
  go_wp2_with fail
  refine (rright_any _ _ _ _ _ _ _ _ (by assumption) (H2.out.grown HG.out)).mono ?_
  rintro e W2 ⟨he,hW⟩
  rw [K2.out] at he
  subst he
  replace HT1:=Lib.hid (HT1.out.grown hW)
  replace HT2:=Lib.hid (HT2.out.grown hW)
  replace HT3:=Lib.hid (HT3.out.grown hW)
  replace HG:=Lib.hid (grown_trans HG.out hW)
  clear hW
  clear p0 p1 p2 p3 p4 q0 q1 q2 q3 q4 r0 r1 r2 r3 r4 r5 r6 r7 r8
  obtain ⟨p0,p1,p2,p3,p4,_,_,_,_⟩:=HT1.out
  obtain ⟨q0,q1,q2,q3,q4,_,_,_,_⟩:=HT2.out
  obtain ⟨r0,r1,r2,r3,r4,r5,r6,r7,r8⟩:=HT3.out
  go_wp2
  (try simp only [Exit.inBlock,Exit.then])
  refine bodyPost_ret (v:=.tuple #[.agg #[.int .i64 0,.int .i64 0,.int .i64 0,.slice none 0 0],.int .i64 21]) ?_ rfl ⟨none,0,rfl,Reads.nil _ _ _,by decide,fresh_none _,gr⟩
  rw [results_cell_tmp rfl]
  go_simp
 ·have f2:((aR:Int)==bR)=false:=by simpa using k1
  have f3:((aR:Int) != bR)=true:=by rw [bne,f2];rfl
  clear hk k1
  go_enter Tryz.func20,Tryz.ntmps20
  go_wp2_with fail
  simp only [World.size_alloc] at HT2 HT3
  generalize ((w.alloc _).alloc _).alloc _=W0 at HT1 HT2 HT3 HG ⊢
  refine (rright_any _ _ _ _ _ _ _ _ (by assumption) (H1.out.grown HG.out)).mono ?_
  rintro e W1 ⟨he,hW⟩
  rw [K1.out] at he
  subst he
  replace HT1:=Lib.hid (HT1.out.grown hW)
  replace HT2:=Lib.hid (HT2.out.grown hW)
  replace HT3:=Lib.hid (HT3.out.grown hW)
  replace HG:=Lib.hid (grown_trans HG.out hW)
  clear hW
  obtain ⟨p0,p1,p2,p3,p4,_,_,_,_⟩:=HT1.out
  obtain ⟨q0,q1,q2,q3,q4,_,_,_,_⟩:=HT2.out
  obtain ⟨r0,r1,r2,r3,r4,r5,r6,r7,r8⟩:=HT3.out
  go_wp2_with fail
  refine (rright_any _ _ _ _ _ _ _ _ (by assumption) (H2.out.grown HG.out)).mono ?_
  rintro e W2 ⟨he,hW⟩
  rw [K2.out] at he
  subst he
  replace HT1:=Lib.hid (HT1.out.grown hW)
  replace HT2:=Lib.hid (HT2.out.grown hW)
  replace HT3:=Lib.hid (HT3.out.grown hW)
  replace HG:=Lib.hid (grown_trans HG.out hW)
  clear hW
  clear p0 p1 p2 p3 p4 q0 q1 q2 q3 q4 r0 r1 r2 r3 r4 r5 r6 r7 r8
  obtain ⟨p0,p1,p2,p3,p4,_,_,_,_⟩:=HT1.out
  obtain ⟨q0,q1,q2,q3,q4,_,_,_,_⟩:=HT2.out
  obtain ⟨r0,r1,r2,r3,r4,r5,r6,r7,r8⟩:=HT3.out
  go_wp2
  (try simp only [Exit.inBlock,Exit.then])
  refine bodyPost_ret (v:=.tuple #[.agg #[.int .i64 0,.int .i64 0,.int .i64 0,.slice none 0 0],.int .i64 21]) ?_ rfl ⟨none,0,rfl,Reads.nil _ _ _,by decide,fresh_none _,gr⟩
  rw [results_cell_tmp rfl]
  go_simp

set_option maxHeartbeats 1000000 in
theorem rback_bad4 (k aR aC aF bR bC bF:Int) (ad bd:Option Addr) (an bn ca cb:Nat) (g h:Nat→Int) (w:World) (hn:an≤9223372036854775807) (hn':bn≤9223372036854775807) (h1:Reads ad an g w) (h2:Reads bd bn h w) (hr:rightB aR aC aF an g=true) (hr2:rightB bR bC bF bn h=true) (k1:aR=bR) (k2:aC=bC) (hk:actB k=false):
  Calls Tryz.prog 20 #[.int .i64 k,.agg #[.int .i64 aR,.int .i64 aC,.int .i64 aF,.slice ad an ca],.agg #[.int .i64 bR,.int .i64 bC,.int .i64 bF,.slice bd bn cb]] w (TenE PT.bad 22 w):=by
 have H1:=Lib.hid h1
 have H2:=Lib.hid h2
 have K1:=Lib.hid (show Ending.returned (.bool (rightB aR aC aF an g))=.returned (.bool true) by rw [hr])
 have K2:=Lib.hid (show Ending.returned (.bool (rightB bR bC bF bn h))=.returned (.bool true) by rw [hr2])
 have K3:=Lib.hid (show Ending.returned (.bool (actB k))=.returned (.bool false) by rw [hk])
 have g1:((aR:Int)==bR)=true:=by rw [k1];simp
 have g2:((aR:Int) != bR)=false:=by rw [bne,g1];rfl
 have g3:((aC:Int)==bC)=true:=by rw [k2];simp
 have g4:((aC:Int) != bC)=false:=by rw [bne,g3];rfl
 clear h1 h2 hr hr2 k1 k2 hk
 have HT1:=Lib.hid ((ten_new w (.int .i64 aR) (.int .i64 aC) (.int .i64 aF) (.slice ad an ca) 24).grown (Grown.alloc (Grown.alloc (Grown.refl _) #[.int .i64 bR,.int .i64 bC,.int .i64 bF,.slice bd bn cb] 24) #[.int .i64 0,.int .i64 0,.int .i64 0,.slice none 0 0] 24))
 have HT2:=Lib.hid ((ten_new (w.alloc (.cells #[.int .i64 aR,.int .i64 aC,.int .i64 aF,.slice ad an ca] 24)) (.int .i64 bR) (.int .i64 bC) (.int .i64 bF) (.slice bd bn cb) 24).grown (Grown.alloc (Grown.refl _) #[.int .i64 0,.int .i64 0,.int .i64 0,.slice none 0 0] 24))
 have HT3:=Lib.hid (ten_new ((w.alloc (.cells #[.int .i64 aR,.int .i64 aC,.int .i64 aF,.slice ad an ca] 24)).alloc (.cells #[.int .i64 bR,.int .i64 bC,.int .i64 bF,.slice bd bn cb] 24)) (.int .i64 0) (.int .i64 0) (.int .i64 0) (.slice none 0 0) 24)
 have HG:=Lib.hid (Grown.alloc (Grown.alloc (Grown.alloc (Grown.refl w) #[.int .i64 aR,.int .i64 aC,.int .i64 aF,.slice ad an ca] 24) #[.int .i64 bR,.int .i64 bC,.int .i64 bF,.slice bd bn cb] 24) #[.int .i64 0,.int .i64 0,.int .i64 0,.slice none 0 0] 24)
 go_enter Tryz.func20,Tryz.ntmps20
 go_wp2_with fail
 simp only [World.size_alloc] at HT2 HT3
 generalize ((w.alloc _).alloc _).alloc _=W0 at HT1 HT2 HT3 HG ⊢
 refine (rright_any _ _ _ _ _ _ _ _ (by assumption) (H1.out.grown HG.out)).mono ?_
 rintro e W1 ⟨he,hW⟩
 rw [K1.out] at he
 subst he
 replace HT1:=Lib.hid (HT1.out.grown hW)
 replace HT2:=Lib.hid (HT2.out.grown hW)
 replace HT3:=Lib.hid (HT3.out.grown hW)
 replace HG:=Lib.hid (grown_trans HG.out hW)
 clear hW
 obtain ⟨p0,p1,p2,p3,p4,_,_,_,_⟩:=HT1.out
 obtain ⟨q0,q1,q2,q3,q4,_,_,_,_⟩:=HT2.out
 obtain ⟨r0,r1,r2,r3,r4,r5,r6,r7,r8⟩:=HT3.out
 go_wp2_with fail
 refine (rright_any _ _ _ _ _ _ _ _ (by assumption) (H2.out.grown HG.out)).mono ?_
 rintro e W2 ⟨he,hW⟩
 rw [K2.out] at he
 subst he
 replace HT1:=Lib.hid (HT1.out.grown hW)
 replace HT2:=Lib.hid (HT2.out.grown hW)
 replace HT3:=Lib.hid (HT3.out.grown hW)
 replace HG:=Lib.hid (grown_trans HG.out hW)
 clear hW
 clear p0 p1 p2 p3 p4 q0 q1 q2 q3 q4 r0 r1 r2 r3 r4 r5 r6 r7 r8
 obtain ⟨p0,p1,p2,p3,p4,_,_,_,_⟩:=HT1.out
 obtain ⟨q0,q1,q2,q3,q4,_,_,_,_⟩:=HT2.out
 obtain ⟨r0,r1,r2,r3,r4,r5,r6,r7,r8⟩:=HT3.out
 go_wp2_with (go_at_call 44;refine (ract_any _ _).mono ?_;rintro e w' ⟨he,rfl⟩;rw [K3.out] at he;subst he)
 (try simp only [Exit.inBlock,Exit.then])
 refine bodyPost_ret (v:=.tuple #[.agg #[.int .i64 0,.int .i64 0,.int .i64 0,.slice none 0 0],.int .i64 22]) ?_ rfl ⟨none,0,rfl,Reads.nil _ _ _,by decide,fresh_none _,gr⟩
 rw [results_cell_tmp rfl]
 go_simp

set_option maxRecDepth 100000 in
set_option maxHeartbeats 4000000 in
theorem rback_good (k aF bF : Int) (aR aC bR bC : Nat) (ad bd : Option Addr) (an bn ca cb : Nat) (g h : Nat → Int) (w : World) (hn2 : an ≤ 16777216) (hn2' : bn ≤ 16777216) (h1 : Reads ad an g w) (h2 : Reads bd bn h w)
    (ha1 : aR ≤ 4096) (ha2 : aC ≤ 4096) (hb1 : bR ≤ 4096) (hb2 : bC ≤ 4096) (hr : rightB aR aC aF an g = true) (hr2 : rightB bR bC bF bn h = true) (k1 : aR = bR) (k2 : aC = bC) (hix : ∀ i, i < bn → i < an) (hk : actB k = true) :
    Calls Tryz.prog 20 #[.int .i64 k, .agg #[.int .i64 aR, .int .i64 aC, .int .i64 aF, .slice ad an ca], .agg #[.int .i64 bR, .int .i64 bC, .int .i64 bF, .slice bd bn cb]] w (TenE ⟨bR, bC, bF, bn, bacV k aF g bF h⟩ 0 w) := by
  have H1 := Lib.hid h1
  have H2 := Lib.hid h2
  have K1 := Lib.hid (show Ending.returned (.bool (rightB aR aC aF an g)) = .returned (.bool true) by rw [hr])
  have K2 := Lib.hid (show Ending.returned (.bool (rightB bR bC bF bn h)) = .returned (.bool true) by rw [hr2])
  have K3 := Lib.hid (show Ending.returned (.bool (actB k)) = .returned (.bool true) by rw [hk])
  have hn : an ≤ 9223372036854775807 := by omega
  have hn' : bn ≤ 9223372036854775807 := by omega
  have HIX := Lib.hid hix
  clear h1 h2 hr hr2 hix hk
  obtain ⟨G, hG⟩ : ∃ G : Nat → Int, G = bacV k aF g bF h := ⟨_, rfl⟩
  rw [← hG]
  have HGB := Lib.hid (show ∀ t, 0 ≤ G t ∧ G t ≤ 4294967295 from fun t => by rw [hG]; exact bacV_bd _ _ _ _ _ _)
  have HGG := Lib.hid hG
  clear hG
  have HT1 := Lib.hid ((ten_new w (.int .i64 (aR : Int)) (.int .i64 (aC : Int)) (.int .i64 aF) (.slice ad an ca) 24).grown (Grown.alloc (Grown.alloc (Grown.refl _) #[.int .i64 (bR : Int), .int .i64 (bC : Int), .int .i64 bF, .slice bd bn cb] 24) #[.int .i64 0, .int .i64 0, .int .i64 0, .slice none 0 0] 24))
  have HT2 := Lib.hid ((ten_new (w.alloc (.cells #[.int .i64 (aR : Int), .int .i64 (aC : Int), .int .i64 aF, .slice ad an ca] 24)) (.int .i64 (bR : Int)) (.int .i64 (bC : Int)) (.int .i64 bF) (.slice bd bn cb) 24).grown (Grown.alloc (Grown.refl _) #[.int .i64 0, .int .i64 0, .int .i64 0, .slice none 0 0] 24))
  have HT3 := Lib.hid (ten_new ((w.alloc (.cells #[.int .i64 (aR : Int), .int .i64 (aC : Int), .int .i64 aF, .slice ad an ca] 24)).alloc (.cells #[.int .i64 (bR : Int), .int .i64 (bC : Int), .int .i64 bF, .slice bd bn cb] 24)) (.int .i64 0) (.int .i64 0) (.int .i64 0) (.slice none 0 0) 24)
  have HG := Lib.hid (Grown.alloc (Grown.alloc (Grown.alloc (Grown.refl w) #[.int .i64 (aR : Int), .int .i64 (aC : Int), .int .i64 aF, .slice ad an ca] 24) #[.int .i64 (bR : Int), .int .i64 (bC : Int), .int .i64 bF, .slice bd bn cb] 24) #[.int .i64 0, .int .i64 0, .int .i64 0, .slice none 0 0] 24)
  have g1 : ((aR : Int) == bR) = true := by rw [k1]; simp
  have g2 : ((aR : Int) != bR) = false := by rw [bne, g1]; rfl
  have g3 : ((aC : Int) == bC) = true := by rw [k2]; simp
  have g4 : ((aC : Int) != bC) = false := by rw [bne, g3]; rfl
  clear k1 k2
  go_enter Tryz.func20, Tryz.ntmps20
  go_wp2_with fail
  simp only [World.size_alloc] at HT2 HT3
  generalize ((w.alloc _).alloc _).alloc _ = W0 at HT1 HT2 HT3 HG ⊢
  refine (rright_any _ _ _ _ _ _ _ _ (by assumption) (H1.out.grown HG.out)).mono ?_
  rintro e W1 ⟨he, hW⟩
  rw [K1.out] at he
  subst he
  replace HT1 := Lib.hid (HT1.out.grown hW)
  replace HT2 := Lib.hid (HT2.out.grown hW)
  replace HT3 := Lib.hid (HT3.out.grown hW)
  replace HG := Lib.hid (grown_trans HG.out hW)
  clear hW
  obtain ⟨p0, p1, p2, p3, p4, _, _, _, _⟩ := HT1.out
  obtain ⟨q0, q1, q2, q3, q4, _, _, _, _⟩ := HT2.out
  obtain ⟨r0, r1, r2, r3, r4, r5, r6, r7, r8⟩ := HT3.out
  go_wp2_with fail
  refine (rright_any _ _ _ _ _ _ _ _ (by assumption) (H2.out.grown HG.out)).mono ?_
  rintro e W2 ⟨he, hW⟩
  rw [K2.out] at he
  subst he
  replace HT1 := Lib.hid (HT1.out.grown hW)
  replace HT2 := Lib.hid (HT2.out.grown hW)
  replace HT3 := Lib.hid (HT3.out.grown hW)
  replace HG := Lib.hid (grown_trans HG.out hW)
  clear hW
  clear p0 p1 p2 p3 p4 q0 q1 q2 q3 q4 r0 r1 r2 r3 r4 r5 r6 r7 r8
  obtain ⟨p0, p1, p2, p3, p4, _, _, _, _⟩ := HT1.out
  obtain ⟨q0, q1, q2, q3, q4, _, _, _, _⟩ := HT2.out
  obtain ⟨r0, r1, r2, r3, r4, r5, r6, r7, r8⟩ := HT3.out
  have hmk := run_make_row' (P := Tryz.prog) 22 25 (.int .u32 0) 4 Tryz.underlying22 (by kernel_rfl) rfl .i64 .i64 bn (by omega) (by omega)
  have HA := Lib.hid (show PS w w.heap.size W2.heap.size (W2.heap.size + 1) bn (.int .i64 aR) (.int .i64 aC) (.int .i64 aF) (.slice ad an ca) (.int .i64 bR) (.int .i64 bC) (.int .i64 bF) (.slice bd bn cb) (.int .i64 bR) (.int .i64 bC) (.int .i64 bF) G 0 (((W2.alloc (.cells (madeCells #[.int .u32 0] bn) 25)).alloc (.cells #[.int .i64 (bR : Int), .int .i64 (bC : Int), .int .i64 bF, .slice (some ⟨W2.heap.size, 0, none⟩) bn bn] 24)).drew) from
    ⟨gr, HT1.out.grown gr, HT2.out.grown gr, HT3.out.grown gr, by simpa only [World.size_alloc] using (ten_new (W2.alloc (.cells (madeCells #[.int .u32 0] bn) 25)) (.int .i64 (bR : Int)) (.int .i64 (bC : Int)) (.int .i64 bF) (.slice (some ⟨W2.heap.size, 0, none⟩) bn bn) 24).grown (Grown.drew (Grown.refl _)), (Filled.new W2 bn G 25).grown (Grown.drew (Grown.alloc (Grown.refl _) _ _)), r0, Nat.lt_succ_of_lt r0, by omega, Nat.le_refl _⟩)
  have HB := Lib.hid (show PS w w.heap.size (W2.heap.size + 1) W2.heap.size bn (.int .i64 aR) (.int .i64 aC) (.int .i64 aF) (.slice ad an ca) (.int .i64 bR) (.int .i64 bC) (.int .i64 bF) (.slice bd bn cb) (.int .i64 bR) (.int .i64 bC) (.int .i64 bF) G 0 (((W2.alloc (.cells #[.int .i64 (bR : Int), .int .i64 (bC : Int), .int .i64 bF, .slice (some ⟨W2.heap.size + 1, 0, none⟩) bn bn] 24)).alloc (.cells (madeCells #[.int .u32 0] bn) 25)).drew) from
    ⟨gr, HT1.out.grown gr, HT2.out.grown gr, HT3.out.grown gr, (ten_new W2 (.int .i64 (bR : Int)) (.int .i64 (bC : Int)) (.int .i64 bF) (.slice (some ⟨W2.heap.size + 1, 0, none⟩) bn bn) 24).grown (Grown.drew (Grown.alloc (Grown.refl _) _ _)), by simpa only [World.size_alloc] using (Filled.new (W2.alloc (.cells #[.int .i64 (bR : Int), .int .i64 (bC : Int), .int .i64 bF, .slice (some ⟨W2.heap.size + 1, 0, none⟩) bn bn] 24)) bn G 25).grown (Grown.drew (Grown.refl _)), Nat.lt_succ_of_lt r0, r0, by omega, Nat.le_refl _⟩)
  go_wp2_with fail
  refine (ract_any _ _).mono ?_
  rintro e w' ⟨he, rfl⟩
  rw [K3.out] at he
  subst he
  go_wp2_with fail
  go_region
  all_goals
    go_wp2_with fail
    clear hmk g1 g2 g3 g4 p0 p1 p2 p3 p4 q0 q1 q2 q3 q4 r0 r1 r2 r3 r4 r5 r6 r7 r8
    generalize hW3 : ((W2.alloc _).alloc _).drew = W3
    first
      | (have HP := hW3 ▸ HA.out
         clear hW3 HA HB
         generalize W2.heap.size + 1 = ob at HP ⊢
         generalize W2.heap.size = nb at HP ⊢)
      | (have HP := hW3 ▸ HB.out
         clear hW3 HA HB
         generalize W2.heap.size + 1 = nb at HP ⊢
         generalize W2.heap.size = ob at HP ⊢)
    replace HP := Lib.hid HP
    clear HT1 HT2 HT3 HG
    go_loopw [9] (fun i wr => ProdOut (fun I => PS w w.heap.size nb ob bn (.int .i64 aR) (.int .i64 aC) (.int .i64 aF) (.slice ad an ca) (.int .i64 bR) (.int .i64 bC) (.int .i64 bF) (.slice bd bn cb) (.int .i64 bR) (.int .i64 bC) (.int .i64 bF) G I) bn 1 i wr) (fun i _ => bn - (intOf i).toNat)
    case atStart => exact ⟨0, Nat.zero_le _, rfl, HP.out⟩
    case round =>
      rename World => wr
      clear HP
      obtain ⟨I, hI, rfl, hP⟩ := hrel
      rw [Nat.mul_one] at hP
      have HP := Lib.hid hP
      clear hP
      by_cases hI2 : I < bn
      · have hJ := HIX.out I hI2
        have B1 := wid_bd aF g I
        have B2 := wid_bd bF h I
        have B3 := sloA_bd k (widV aF g I)
        have B4 := mulV_bd (widV bF h I) (sloA k (widV aF g I))
        obtain ⟨u, hu⟩ : ∃ u, widV aF g I = u := ⟨_, rfl⟩
        obtain ⟨v, hv⟩ : ∃ v, widV bF h I = v := ⟨_, rfl⟩
        rw [hu, hv] at B4
        rw [hu] at B1 B3
        rw [hv] at B2
        obtain ⟨s, hs⟩ : ∃ s, sloA k u = s := ⟨_, rfl⟩
        rw [hs] at B3 B4
        obtain ⟨m, hm⟩ : ∃ m, mulV v s = m := ⟨_, rfl⟩
        rw [hm] at B4
        have HGI := Lib.hid (show G I = conV 2 bF 0 m by rw [HGG.out]; show conV 2 bF 0 (mulV (widV bF h I) (sloA k (widV aF g I))) = _; rw [hu, hv, hs, hm])
        have HU := Lib.hid hu
        have HV := Lib.hid hv
        have HS := Lib.hid hs
        have HM := Lib.hid hm
        have HG := Lib.hid HP.out.g
        clear hu hv hs hm
        obtain ⟨p0, p1, p2, p3, p4, _, _, _, _⟩ := HP.out.t1
        obtain ⟨q0, q1, q2, q3, q4, _, _, _, _⟩ := HP.out.t2
        obtain ⟨o0, o1, o2, o3, o4, _, _, _, _⟩ := HP.out.t4
        have y := HP.out.f.cell I hI2
        have z := HP.out.f.free I
        have n1 : ¬ nb = w.heap.size := by have := HP.out.o; omega
        have n2 : ¬ nb = w.heap.size + 1 := by have := HP.out.o; omega
        have n3 : ¬ nb = ob := HP.out.ne
        go_wp2_with fail
        go_region_held3 (fun w' => w'.cell? ⟨w.heap.size, 0, none⟩ = some (.int .i64 aR) ∧ w'.cell? ⟨w.heap.size, 1, none⟩ = some (.int .i64 aC) ∧ w'.cell? ⟨w.heap.size, 2, none⟩ = some (.int .i64 aF) ∧ w'.cell? ⟨w.heap.size, 3, none⟩ = some (.slice ad an ca) ∧ w'.cell? ⟨w.heap.size + 1, 0, none⟩ = some (.int .i64 bR) ∧ w'.cell? ⟨w.heap.size + 1, 1, none⟩ = some (.int .i64 bC) ∧ w'.cell? ⟨w.heap.size + 1, 2, none⟩ = some (.int .i64 bF) ∧ w'.cell? ⟨w.heap.size + 1, 3, none⟩ = some (.slice bd bn cb) ∧ w'.cell? ⟨ob, 3, none⟩ = some (.slice (some ⟨nb, 0, none⟩) bn bn)) (go_keep) (first
          | (go_at_call 45; ((with_reducible refine (twide_any aR aC aF ad an ca I g _ hn hJ (H1.out.grown gr)).mono ?_); rintro e W4 ⟨he, hW⟩; rw [HU.out] at he; subst he; replace HG := Lib.hid (show Grown w W4 from grown_trans gr hW); replace HP := Lib.hid (HP.out.grown hW); clear hW p0 p1 p2 p3 p4 q0 q1 q2 q3 q4 o0 o1 o2 o3 o4 y z; obtain ⟨p0, p1, p2, p3, p4, _, _, _, _⟩ := HP.out.t1; obtain ⟨q0, q1, q2, q3, q4, _, _, _, _⟩ := HP.out.t2; obtain ⟨o0, o1, o2, o3, o4, _, _, _, _⟩ := HP.out.t4; have y := HP.out.f.cell I hI2; have z := HP.out.f.free I))
          | (go_at_call 45; ((with_reducible refine (twide_any bR bC bF bd bn cb I h _ hn' hI2 (H2.out.grown gr)).mono ?_); rintro e W5 ⟨he, hW⟩; rw [HV.out] at he; subst he; replace HG := Lib.hid (show Grown w W5 from grown_trans gr hW); replace HP := Lib.hid (HP.out.grown hW); clear hW p0 p1 p2 p3 p4 q0 q1 q2 q3 q4 o0 o1 o2 o3 o4 y z; obtain ⟨p0, p1, p2, p3, p4, _, _, _, _⟩ := HP.out.t1; obtain ⟨q0, q1, q2, q3, q4, _, _, _, _⟩ := HP.out.t2; obtain ⟨o0, o1, o2, o3, o4, _, _, _, _⟩ := HP.out.t4; have y := HP.out.f.cell I hI2; have z := HP.out.f.free I))
          | (go_at_call 16; refine (rslope_any k u _ B1.1 B1.2).mono ?_; rintro e W6 ⟨he, hW⟩; rw [HS.out] at he; subst he; replace HG := Lib.hid (show Grown w W6 from grown_trans gr hW); replace HP := Lib.hid (HP.out.grown hW); clear hW p0 p1 p2 p3 p4 q0 q1 q2 q3 q4 o0 o1 o2 o3 o4 y z; obtain ⟨p0, p1, p2, p3, p4, _, _, _, _⟩ := HP.out.t1; obtain ⟨q0, q1, q2, q3, q4, _, _, _, _⟩ := HP.out.t2; obtain ⟨o0, o1, o2, o3, o4, _, _, _, _⟩ := HP.out.t4; have y := HP.out.f.cell I hI2; have z := HP.out.f.free I)
          | (go_at_call 38; refine (nmul_any v s _ B2.1 B2.2 B3.1 B3.2).mono ?_; rintro e W7 ⟨he, h0, h1, hW⟩; rw [HM.out] at he; subst he; replace HG := Lib.hid (show Grown w W7 from grown_trans gr hW); replace HP := Lib.hid (HP.out.grown hW); clear hW p0 p1 p2 p3 p4 q0 q1 q2 q3 q4 o0 o1 o2 o3 o4 y z; obtain ⟨p0, p1, p2, p3, p4, _, _, _, _⟩ := HP.out.t1; obtain ⟨q0, q1, q2, q3, q4, _, _, _, _⟩ := HP.out.t2; obtain ⟨o0, o1, o2, o3, o4, _, _, _, _⟩ := HP.out.t4; have y := HP.out.f.cell I hI2; have z := HP.out.f.free I)
          | (go_at_call 26; refine (rnarrow_any bF m _ B4.1 B4.2).mono ?_; rintro e W8 ⟨rfl, hW⟩; replace HG := Lib.hid (show Grown w W8 from grown_trans gr hW); replace HP := Lib.hid (HP.out.grown hW); clear hW p0 p1 p2 p3 p4 q0 q1 q2 q3 q4 o0 o1 o2 o3 o4 y z; obtain ⟨p0, p1, p2, p3, p4, _, _, _, _⟩ := HP.out.t1; obtain ⟨q0, q1, q2, q3, q4, _, _, _, _⟩ := HP.out.t2; obtain ⟨o0, o1, o2, o3, o4, _, _, _, _⟩ := HP.out.t4; have y := HP.out.f.cell I hI2; have z := HP.out.f.free I))
        go_wp2
        go_roundw
        case rel => exact ⟨I + 1, by omega, by go_num, by
          have := HP.out.set hI2
          rw [HGI.out] at this
          rw [Nat.mul_one]
          exact this.grown gr⟩
        case measure => simp [intOf]; omega
      · have hI3 : bn = I := by omega
        subst hI3
        obtain ⟨p0, p1, p2, p3, p4, _, _, _, _⟩ := HP.out.t4
        obtain ⟨q0, q1, q2, q3, q4, q5, q6, q7, q8⟩ := HP.out.t3
        obtain ⟨r0, r1, r2, r3, r4, _, _, _, _⟩ := HP.out.t2
        have HF := Lib.hid HP.out.f
        have ho : w.heap.size + 1 + 1 < nb := HP.out.o
        have ho2 : w.heap.size + 1 + 1 < ob := HP.out.o2
        have HG := Lib.hid HP.out.g
        go_wp2
        (try simp only [Exit.inBlock, Exit.then])
        refine bodyPost_ret (v := .tuple #[.agg #[.int .i64 (bR : Int), .int .i64 (bC : Int), .int .i64 bF, .slice (some ⟨nb, 0, none⟩) bn bn], .int .i64 0]) ?_ rfl ⟨_, _, rfl, ?_, hn', fun x hx => by cases hx; show w.heap.size ≤ nb; omega, ?_⟩
        · rw [results_cell_tmp rfl]
          go_simp
        · have hne : nb ≠ w.heap.size + 1 + 1 := by omega
          exact ((((HF.out.other (a := ⟨w.heap.size + 1 + 1, 0, none⟩) hne _).other (a := ⟨w.heap.size + 1 + 1, 1, none⟩) hne _).other (a := ⟨w.heap.size + 1 + 1, 2, none⟩) hne _).other (a := ⟨w.heap.size + 1 + 1, 3, none⟩) hne _).reads fun t _ => HGB.out t
        · exact gr

theorem rback_any (k aR aC aF bR bC bF:Int) (ad bd:Option Addr) (an bn ca cb:Nat) (g h:Nat→Int) (w:World) (hn:an≤9223372036854775807) (hn':bn≤9223372036854775807) (h1:Reads ad an g w) (h2:Reads bd bn h w):
  Calls Tryz.prog 20 #[.int .i64 k,.agg #[.int .i64 aR,.int .i64 aC,.int .i64 aF,.slice ad an ca],.agg #[.int .i64 bR,.int .i64 bC,.int .i64 bF,.slice bd bn cb]] w (TenE (bacT k ⟨aR,aC,aF,an,g⟩ ⟨bR,bC,bF,bn,h⟩) (bacX k ⟨aR,aC,aF,an,g⟩ ⟨bR,bC,bF,bn,h⟩) w):=by
 unfold bacT bacX bacOk PT.right
 dsimp only
 cases hr:rightB aR aC aF an g
 ·exact rback_bad1 k aR aC aF bR bC bF ad bd an bn ca cb g h w hn hn' h1 h2 hr
 ·cases hr2:rightB bR bC bF bn h
  ·exact rback_bad2 k aR aC aF bR bC bF ad bd an bn ca cb g h w hn hn' h1 h2 hr hr2
  ·by_cases hq:aR=bR∧aC=bC
   ·have hcq:(true&&true&&(aR==bR&&aC==bC))=true:=by simp [hq.1,hq.2]
    rw [hcq,if_pos (c:=true=true) rfl,if_pos (c:=true=true) rfl]
    cases hk:actB k
    ·exact rback_bad4 k aR aC aF bR bC bF ad bd an bn ca cb g h w hn hn' h1 h2 hr hr2 hq.1 hq.2 hk
    ·obtain ⟨r,c,e1,e2,l1,l2,e3⟩:=right_nat (t:=⟨aR,aC,aF,an,g⟩) hr
     obtain ⟨r',c',f1,f2,l3,l4,f3⟩:=right_nat (t:=⟨bR,bC,bF,bn,h⟩) hr2
     simp only at e1 e2 e3 f1 f2 f3
     subst e1 e2 f1 f2
     obtain ⟨_,m1⟩:=wrap_mul r c an l1 l2 e3.symm
     obtain ⟨_,m2⟩:=wrap_mul r' c' bn l3 l4 f3.symm
     obtain ⟨hk1,hk2⟩:=hq
     have j1:r=r':=by omega
     have j2:c=c':=by omega
     have hx:∀ i,i<bn→i<an:=by
      intro i hi
      rw [e3,j1,j2,←f3];exact hi
     exact rback_good k aF bF r c r' c' ad bd an bn ca cb g h w m1 m2 h1 h2 l1 l2 l3 l4 hr hr2 j1 j2 hx hk
   ·rw [if_neg (by simpa using hq),if_neg (by simpa using hq)]
    exact rback_bad3 k aR aC aF bR bC bF ad bd an bn ca cb g h w hn hn' h1 h2 hr hr2 hq
end Go.Proofs.YtpjpmmiepfoiaaaGreat
