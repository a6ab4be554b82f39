/- The contracts of the landed package loss: Softmax whole, Mse, Right. (Written by gen66.py.) -/
import Derived.Test.YteifobleigfbaaaGreatLosB
import Derived.Deep.RegionHeld3
import Derived.KernelRfl
namespace Go.Proofs.YteifobleigfbaaaGreat
open Go Go.RowKit
set_option linter.unusedVariables false
set_option linter.unusedSimpArgs false

theorem lsoft_any (R C F:Int) (ad yd:Option Addr) (n c yn yc:Nat) (g y:Nat→Int) (w:World) (hn:n≤9223372036854775807) (hyn:yn≤9223372036854775807) (hr:Reads ad n g w) (hy:ReadsI yd yn y w):
  Calls Tryz.prog 11 #[.agg #[.int .i64 R,.int .i64 C,.int .i64 F,.slice ad n c],.slice yd yn yc] w (LosE (sofV ⟨R,C,F,n,g⟩ yn y) (sofT ⟨R,C,F,n,g⟩ yn y) (labX ⟨R,C,F,n,g⟩ yn y) w):=by
 unfold sofV sofT
 by_cases h:labX ⟨R,C,F,n,g⟩ yn y=0
 ·rw [if_pos h,if_pos h]
  obtain ⟨h1,h2,h3,h4⟩:=lab_zero h
  obtain ⟨r,k,e1,e2,l1,l2,e3⟩:=right_nat h1
  simp only at e1 e2 e3 h2 h3 h4
  subst e1 e2
  have hry:yn=r:=by omega
  subst hry
  rw [h]
  rcases Nat.eq_zero_or_pos yn with h0 | h0
  ·subst h0
   rw [Nat.zero_mul] at e3
   subst e3
   exact lsoft_none k F ad yd c yc g y _ w h1
  ·obtain ⟨b,off,rfl,hl,hc⟩:=readi_at hy h0
   rw [if_neg (show ¬((yn:Nat):Int)=0 by omega)]
   exact lsoft_some F yn k ad n c yc b off g y w l1 h0 l2 (by omega) e3 hr h h4 hl hc
 ·rw [if_neg h,if_neg h]
  exact lsoft_bad R C F ad yd n c yn yc g y w hn hyn hr hy h

structure SmS (w:World) (b n:Nat) (a0 a1 a2 a3 b0 b1 b2 b3:Value) (h:Nat→Int) (ld:Option Addr) (ln:Nat) (u:Nat→Int) (W:World):Prop where
 g:Grown w W
 t1:TenAt w.heap.size a0 a1 a2 a3 W
 t2:TenAt (w.heap.size+1) b0 b1 b2 b3 W
 t3:TenAt (w.heap.size+1+1) (.int .i64 0) (.int .i64 0) (.int .i64 0) (.slice none 0 0) W
 r:Rowed b n h W
 l:Reads ld ln u W
 o:w.heap.size+1+1<b
 f:∀ x,ld=some x→x.block≠b

theorem SmS.grown {w:World} {b n:Nat} {a0 a1 a2 a3 b0 b1 b2 b3:Value} {h:Nat→Int} {ld:Option Addr} {ln:Nat} {u:Nat→Int} {W W':World} (s:SmS w b n a0 a1 a2 a3 b0 b1 b2 b3 h ld ln u W) (g:Grown W W'):SmS w b n a0 a1 a2 a3 b0 b1 b2 b3 h ld ln u W':=
 ⟨grown_trans s.g g,s.t1.grown g,s.t2.grown g,s.t3.grown g,s.r.grown g,s.l.grown g,s.o,s.f⟩

theorem SmS.set {w:World} {b n:Nat} {a0 a1 a2 a3 b0 b1 b2 b3:Value} {h h':Nat→Int} {ld:Option Addr} {ln:Nat} {u:Nat→Int} {W:World} (s:SmS w b n a0 a1 a2 a3 b0 b1 b2 b3 h ld ln u W) {j:Nat} {v:Int} (e1:h' j=v) (e2:∀ t,t≠j→h' t=h t):SmS w b n a0 a1 a2 a3 b0 b1 b2 b3 h' ld ln u (W.setCell ⟨b,j,none⟩ (.int .u32 v)):=
 ⟨Grown.setCell s.g (by have:=s.o;show w.heap.size≤b;omega) _,s.t1.set (by have:=s.o;show w.heap.size≠b;omega) _,s.t2.set (by have:=s.o;show w.heap.size+1≠b;omega) _,s.t3.set (by have:=s.o;show w.heap.size+1+1≠b;omega) _,s.r.set e1 e2,s.l.set s.f _,s.o,s.f⟩

set_option maxHeartbeats 1000000 in
theorem lmse_bad1 (aR aC aF bR bC bF:Int) (ad bd:Option Addr) (an bn ca cb:Nat) (g h:Nat→Int) (w:World) (hn:an≤9223372036854775807) (hn2:bn≤9223372036854775807) (h1:Reads ad an g w) (h2:Reads bd bn h w) (hr:rightB aR aC aF an g=false):
  Calls Tryz.prog 16 #[.agg #[.int .i64 aR,.int .i64 aC,.int .i64 aF,.slice ad an ca],.agg #[.int .i64 bR,.int .i64 bC,.int .i64 bF,.slice bd bn cb]] w (LosE 0 PT.bad 21 w):=by
 have H1:=Lib.hid h1
 have H2:=Lib.hid h2
 have K1:=Lib.hid (show Ending.returned (.bool (rightB aR aC aF an g))=.returned (.bool false) by rw [hr])
 have HT1:=Lib.hid ((ten_new w (.int .i64 aR) (.int .i64 aC) (.int .i64 aF) (.slice ad an ca) 24).grown (Grown.alloc (Grown.alloc (Grown.refl _) #[.int .i64 bR,.int .i64 bC,.int .i64 bF,.slice bd bn cb] 24) #[.int .i64 0,.int .i64 0,.int .i64 0,.slice none 0 0] 24))
 have HT2:=Lib.hid ((ten_new2 w #[.int .i64 aR,.int .i64 aC,.int .i64 aF,.slice ad an ca] 24 (.int .i64 bR) (.int .i64 bC) (.int .i64 bF) (.slice bd bn cb) 24).grown (Grown.alloc (Grown.refl _) #[.int .i64 0,.int .i64 0,.int .i64 0,.slice none 0 0] 24))
 have HT3:=Lib.hid (ten_new2 (w.alloc (.cells #[.int .i64 aR,.int .i64 aC,.int .i64 aF,.slice ad an ca] 24)) #[.int .i64 bR,.int .i64 bC,.int .i64 bF,.slice bd bn cb] 24 (.int .i64 0) (.int .i64 0) (.int .i64 0) (.slice none 0 0) 24)
 have HG:=Lib.hid (show Grown w (((w.alloc (.cells #[.int .i64 aR,.int .i64 aC,.int .i64 aF,.slice ad an ca] 24)).alloc (.cells #[.int .i64 bR,.int .i64 bC,.int .i64 bF,.slice bd bn cb] 24)).alloc (.cells #[.int .i64 0,.int .i64 0,.int .i64 0,.slice none 0 0] 24)) from gr)
 simp only [World.size_alloc] at HT3
 clear h1 h2 hr
 go_enter Tryz.func16,Tryz.ntmps16
 go_wp2_with fail
 generalize (((w.alloc _).alloc _).alloc _)=W0 at HT1 HT2 HT3 HG ⊢
 refine (tright_any _ _ _ _ _ _ g _ (by assumption) (H1.out.grown HG.out)).mono ?_
 rintro e W1 ⟨he,hW⟩
 rw [K1.out] at he
 subst he
 replace HT1:=Lib.hid (HT1.out.grown hW)
 replace HT2:=Lib.hid (HT2.out.grown hW)
 replace HT3:=Lib.hid (HT3.out.grown hW)
 replace HG:=Lib.hid (grown_trans HG.out hW)
 clear hW
 obtain ⟨p0,p1,p2,p3,p4,-,-,-,-⟩:=HT1.out
 obtain ⟨q0,q1,q2,q3,q4,-,-,-,-⟩:=HT2.out
 obtain ⟨r0,r1,r2,r3,r4,r5,r6,r7,r8⟩:=HT3.out
 go_wp2
 (try simp only [Exit.inBlock,Exit.then])
 refine bodyPost_ret (v:=.tuple #[.int .u32 0,.agg #[.int .i64 0,.int .i64 0,.int .i64 0,.slice none 0 0],.int .i64 21]) ?_ rfl ⟨none,0,rfl,Reads.nil _ _ _,Nat.zero_le _,fresh_none _,gr⟩
 rw [results_three rfl]
 go_simp

set_option maxHeartbeats 1000000 in
theorem lmse_bad2 (aR aC aF bR bC bF:Int) (ad bd:Option Addr) (an bn ca cb:Nat) (g h:Nat→Int) (w:World) (hn:an≤9223372036854775807) (hn2:bn≤9223372036854775807) (h1:Reads ad an g w) (h2:Reads bd bn h w) (hr:rightB aR aC aF an g=true) (hr2:rightB bR bC bF bn h=false):
  Calls Tryz.prog 16 #[.agg #[.int .i64 aR,.int .i64 aC,.int .i64 aF,.slice ad an ca],.agg #[.int .i64 bR,.int .i64 bC,.int .i64 bF,.slice bd bn cb]] w (LosE 0 PT.bad 21 w):=by
 have H1:=Lib.hid h1
 have H2:=Lib.hid h2
 have K1:=Lib.hid (show Ending.returned (.bool (rightB aR aC aF an g))=.returned (.bool true) by rw [hr])
 have K2:=Lib.hid (show Ending.returned (.bool (rightB bR bC bF bn h))=.returned (.bool false) by rw [hr2])
 have HT1:=Lib.hid ((ten_new w (.int .i64 aR) (.int .i64 aC) (.int .i64 aF) (.slice ad an ca) 24).grown (Grown.alloc (Grown.alloc (Grown.refl _) #[.int .i64 bR,.int .i64 bC,.int .i64 bF,.slice bd bn cb] 24) #[.int .i64 0,.int .i64 0,.int .i64 0,.slice none 0 0] 24))
 have HT2:=Lib.hid ((ten_new2 w #[.int .i64 aR,.int .i64 aC,.int .i64 aF,.slice ad an ca] 24 (.int .i64 bR) (.int .i64 bC) (.int .i64 bF) (.slice bd bn cb) 24).grown (Grown.alloc (Grown.refl _) #[.int .i64 0,.int .i64 0,.int .i64 0,.slice none 0 0] 24))
 have HT3:=Lib.hid (ten_new2 (w.alloc (.cells #[.int .i64 aR,.int .i64 aC,.int .i64 aF,.slice ad an ca] 24)) #[.int .i64 bR,.int .i64 bC,.int .i64 bF,.slice bd bn cb] 24 (.int .i64 0) (.int .i64 0) (.int .i64 0) (.slice none 0 0) 24)
 have HG:=Lib.hid (show Grown w (((w.alloc (.cells #[.int .i64 aR,.int .i64 aC,.int .i64 aF,.slice ad an ca] 24)).alloc (.cells #[.int .i64 bR,.int .i64 bC,.int .i64 bF,.slice bd bn cb] 24)).alloc (.cells #[.int .i64 0,.int .i64 0,.int .i64 0,.slice none 0 0] 24)) from gr)
 simp only [World.size_alloc] at HT3
 clear h1 h2 hr hr2
 go_enter Tryz.func16,Tryz.ntmps16
 go_wp2_with fail
 generalize (((w.alloc _).alloc _).alloc _)=W0 at HT1 HT2 HT3 HG ⊢
 refine (tright_any _ _ _ _ _ _ g _ (by assumption) (H1.out.grown HG.out)).mono ?_
 rintro e W1 ⟨he,hW⟩
 rw [K1.out] at he
 subst he
 replace HT1:=Lib.hid (HT1.out.grown hW)
 replace HT2:=Lib.hid (HT2.out.grown hW)
 replace HT3:=Lib.hid (HT3.out.grown hW)
 replace HG:=Lib.hid (grown_trans HG.out hW)
 clear hW
 obtain ⟨p0,p1,p2,p3,p4,-,-,-,-⟩:=HT1.out
 obtain ⟨q0,q1,q2,q3,q4,-,-,-,-⟩:=HT2.out
 go_wp2_with fail
 clear p0 p1 p2 p3 p4 q0 q1 q2 q3 q4
 refine (tright_any _ _ _ _ _ _ h _ (by assumption) (H2.out.grown HG.out)).mono ?_
 rintro e W2 ⟨he,hW⟩
 rw [K2.out] at he
 subst he
 replace HT1:=Lib.hid (HT1.out.grown hW)
 replace HT2:=Lib.hid (HT2.out.grown hW)
 replace HT3:=Lib.hid (HT3.out.grown hW)
 replace HG:=Lib.hid (grown_trans HG.out hW)
 clear hW
 obtain ⟨p0,p1,p2,p3,p4,-,-,-,-⟩:=HT1.out
 obtain ⟨q0,q1,q2,q3,q4,-,-,-,-⟩:=HT2.out
 obtain ⟨r0,r1,r2,r3,r4,r5,r6,r7,r8⟩:=HT3.out
 go_wp2
 (try simp only [Exit.inBlock,Exit.then])
 refine bodyPost_ret (v:=.tuple #[.int .u32 0,.agg #[.int .i64 0,.int .i64 0,.int .i64 0,.slice none 0 0],.int .i64 21]) ?_ rfl ⟨none,0,rfl,Reads.nil _ _ _,Nat.zero_le _,fresh_none _,gr⟩
 rw [results_three rfl]
 go_simp

set_option maxHeartbeats 1000000 in
theorem lmse_bad3 (aR aC aF bR bC bF:Int) (ad bd:Option Addr) (an bn ca cb:Nat) (g h:Nat→Int) (w:World) (hn:an≤9223372036854775807) (hn2:bn≤9223372036854775807) (h1:Reads ad an g w) (h2:Reads bd bn h w) (hr:rightB aR aC aF an g=true) (hr2:rightB bR bC bF bn h=true) (hs:aR≠bR):
  Calls Tryz.prog 16 #[.agg #[.int .i64 aR,.int .i64 aC,.int .i64 aF,.slice ad an ca],.agg #[.int .i64 bR,.int .i64 bC,.int .i64 bF,.slice bd bn cb]] w (LosE 0 PT.bad 21 w):=by
 have H1:=Lib.hid h1
 have H2:=Lib.hid h2
 have K1:=Lib.hid (show Ending.returned (.bool (rightB aR aC aF an g))=.returned (.bool true) by rw [hr])
 have K2:=Lib.hid (show Ending.returned (.bool (rightB bR bC bF bn h))=.returned (.bool true) by rw [hr2])
 have e1:(aR==bR)=false:=by simp [hs]
 have e2:(aR != bR)=true:=by simp [hs]
 have HT1:=Lib.hid ((ten_new w (.int .i64 aR) (.int .i64 aC) (.int .i64 aF) (.slice ad an ca) 24).grown (Grown.alloc (Grown.alloc (Grown.refl _) #[.int .i64 bR,.int .i64 bC,.int .i64 bF,.slice bd bn cb] 24) #[.int .i64 0,.int .i64 0,.int .i64 0,.slice none 0 0] 24))
 have HT2:=Lib.hid ((ten_new2 w #[.int .i64 aR,.int .i64 aC,.int .i64 aF,.slice ad an ca] 24 (.int .i64 bR) (.int .i64 bC) (.int .i64 bF) (.slice bd bn cb) 24).grown (Grown.alloc (Grown.refl _) #[.int .i64 0,.int .i64 0,.int .i64 0,.slice none 0 0] 24))
 have HT3:=Lib.hid (ten_new2 (w.alloc (.cells #[.int .i64 aR,.int .i64 aC,.int .i64 aF,.slice ad an ca] 24)) #[.int .i64 bR,.int .i64 bC,.int .i64 bF,.slice bd bn cb] 24 (.int .i64 0) (.int .i64 0) (.int .i64 0) (.slice none 0 0) 24)
 have HG:=Lib.hid (show Grown w (((w.alloc (.cells #[.int .i64 aR,.int .i64 aC,.int .i64 aF,.slice ad an ca] 24)).alloc (.cells #[.int .i64 bR,.int .i64 bC,.int .i64 bF,.slice bd bn cb] 24)).alloc (.cells #[.int .i64 0,.int .i64 0,.int .i64 0,.slice none 0 0] 24)) from gr)
 simp only [World.size_alloc] at HT3
 clear h1 h2 hr hr2 hs
 go_enter Tryz.func16,Tryz.ntmps16
 go_wp2_with fail
 generalize (((w.alloc _).alloc _).alloc _)=W0 at HT1 HT2 HT3 HG ⊢
 refine (tright_any _ _ _ _ _ _ g _ (by assumption) (H1.out.grown HG.out)).mono ?_
 rintro e W1 ⟨he,hW⟩
 rw [K1.out] at he
 subst he
 replace HT1:=Lib.hid (HT1.out.grown hW)
 replace HT2:=Lib.hid (HT2.out.grown hW)
 replace HT3:=Lib.hid (HT3.out.grown hW)
 replace HG:=Lib.hid (grown_trans HG.out hW)
 clear hW
 obtain ⟨p0,p1,p2,p3,p4,-,-,-,-⟩:=HT1.out
 obtain ⟨q0,q1,q2,q3,q4,-,-,-,-⟩:=HT2.out
 go_wp2_with fail
 clear p0 p1 p2 p3 p4 q0 q1 q2 q3 q4
 refine (tright_any _ _ _ _ _ _ h _ (by assumption) (H2.out.grown HG.out)).mono ?_
 rintro e W2 ⟨he,hW⟩
 rw [K2.out] at he
 subst he
 replace HT1:=Lib.hid (HT1.out.grown hW)
 replace HT2:=Lib.hid (HT2.out.grown hW)
 replace HT3:=Lib.hid (HT3.out.grown hW)
 replace HG:=Lib.hid (grown_trans HG.out hW)
 clear hW
 obtain ⟨p0,p1,p2,p3,p4,-,-,-,-⟩:=HT1.out
 obtain ⟨q0,q1,q2,q3,q4,-,-,-,-⟩:=HT2.out
 obtain ⟨r0,r1,r2,r3,r4,r5,r6,r7,r8⟩:=HT3.out
 go_wp2
 (try simp only [Exit.inBlock,Exit.then])
 refine bodyPost_ret (v:=.tuple #[.int .u32 0,.agg #[.int .i64 0,.int .i64 0,.int .i64 0,.slice none 0 0],.int .i64 21]) ?_ rfl ⟨none,0,rfl,Reads.nil _ _ _,Nat.zero_le _,fresh_none _,gr⟩
 rw [results_three rfl]
 go_simp

set_option maxHeartbeats 1000000 in
theorem lmse_bad4 (aR aC aF bR bC bF:Int) (ad bd:Option Addr) (an bn ca cb:Nat) (g h:Nat→Int) (w:World) (hn:an≤9223372036854775807) (hn2:bn≤9223372036854775807) (h1:Reads ad an g w) (h2:Reads bd bn h w) (hr:rightB aR aC aF an g=true) (hr2:rightB bR bC bF bn h=true) (hs:aR=bR) (hs2:aC≠bC):
  Calls Tryz.prog 16 #[.agg #[.int .i64 aR,.int .i64 aC,.int .i64 aF,.slice ad an ca],.agg #[.int .i64 bR,.int .i64 bC,.int .i64 bF,.slice bd bn cb]] w (LosE 0 PT.bad 21 w):=by
 have H1:=Lib.hid h1
 have H2:=Lib.hid h2
 have K1:=Lib.hid (show Ending.returned (.bool (rightB aR aC aF an g))=.returned (.bool true) by rw [hr])
 have K2:=Lib.hid (show Ending.returned (.bool (rightB bR bC bF bn h))=.returned (.bool true) by rw [hr2])
 have e1:(aC==bC)=false:=by simp [hs2]
 have e2:(aC != bC)=true:=by simp [hs2]
 subst hs
 have HT1:=Lib.hid ((ten_new w (.int .i64 aR) (.int .i64 aC) (.int .i64 aF) (.slice ad an ca) 24).grown (Grown.alloc (Grown.alloc (Grown.refl _) #[.int .i64 aR,.int .i64 bC,.int .i64 bF,.slice bd bn cb] 24) #[.int .i64 0,.int .i64 0,.int .i64 0,.slice none 0 0] 24))
 have HT2:=Lib.hid ((ten_new2 w #[.int .i64 aR,.int .i64 aC,.int .i64 aF,.slice ad an ca] 24 (.int .i64 aR) (.int .i64 bC) (.int .i64 bF) (.slice bd bn cb) 24).grown (Grown.alloc (Grown.refl _) #[.int .i64 0,.int .i64 0,.int .i64 0,.slice none 0 0] 24))
 have HT3:=Lib.hid (ten_new2 (w.alloc (.cells #[.int .i64 aR,.int .i64 aC,.int .i64 aF,.slice ad an ca] 24)) #[.int .i64 aR,.int .i64 bC,.int .i64 bF,.slice bd bn cb] 24 (.int .i64 0) (.int .i64 0) (.int .i64 0) (.slice none 0 0) 24)
 have HG:=Lib.hid (show Grown w (((w.alloc (.cells #[.int .i64 aR,.int .i64 aC,.int .i64 aF,.slice ad an ca] 24)).alloc (.cells #[.int .i64 aR,.int .i64 bC,.int .i64 bF,.slice bd bn cb] 24)).alloc (.cells #[.int .i64 0,.int .i64 0,.int .i64 0,.slice none 0 0] 24)) from gr)
 simp only [World.size_alloc] at HT3
 clear h1 h2 hr hr2 hs2
 go_enter Tryz.func16,Tryz.ntmps16
 go_wp2_with fail
 generalize (((w.alloc _).alloc _).alloc _)=W0 at HT1 HT2 HT3 HG ⊢
 refine (tright_any _ _ _ _ _ _ g _ (by assumption) (H1.out.grown HG.out)).mono ?_
 rintro e W1 ⟨he,hW⟩
 rw [K1.out] at he
 subst he
 replace HT1:=Lib.hid (HT1.out.grown hW)
 replace HT2:=Lib.hid (HT2.out.grown hW)
 replace HT3:=Lib.hid (HT3.out.grown hW)
 replace HG:=Lib.hid (grown_trans HG.out hW)
 clear hW
 obtain ⟨p0,p1,p2,p3,p4,-,-,-,-⟩:=HT1.out
 obtain ⟨q0,q1,q2,q3,q4,-,-,-,-⟩:=HT2.out
 go_wp2_with fail
 clear p0 p1 p2 p3 p4 q0 q1 q2 q3 q4
 refine (tright_any _ _ _ _ _ _ h _ (by assumption) (H2.out.grown HG.out)).mono ?_
 rintro e W2 ⟨he,hW⟩
 rw [K2.out] at he
 subst he
 replace HT1:=Lib.hid (HT1.out.grown hW)
 replace HT2:=Lib.hid (HT2.out.grown hW)
 replace HT3:=Lib.hid (HT3.out.grown hW)
 replace HG:=Lib.hid (grown_trans HG.out hW)
 clear hW
 obtain ⟨p0,p1,p2,p3,p4,-,-,-,-⟩:=HT1.out
 obtain ⟨q0,q1,q2,q3,q4,-,-,-,-⟩:=HT2.out
 obtain ⟨r0,r1,r2,r3,r4,r5,r6,r7,r8⟩:=HT3.out
 go_wp2
 (try simp only [Exit.inBlock,Exit.then])
 refine bodyPost_ret (v:=.tuple #[.int .u32 0,.agg #[.int .i64 0,.int .i64 0,.int .i64 0,.slice none 0 0],.int .i64 21]) ?_ rfl ⟨none,0,rfl,Reads.nil _ _ _,Nat.zero_le _,fresh_none _,gr⟩
 rw [results_three rfl]
 go_simp

set_option maxHeartbeats 2000000 in
theorem lmse_good (aF bF:Int) (aR aC:Nat) (ad bd:Option Addr) (n ca cb:Nat) (g h:Nat→Int) (w:World) (ha1:aR≤4096) (ha2:aC≤4096) (hnn:n=aR*aC) (h1:Reads ad n g w) (h2:Reads bd n h w) (hr:rightB aR aC aF n g=true) (hr2:rightB aR aC bF n h=true) (hn0:0<n):
  Calls Tryz.prog 16 #[.agg #[.int .i64 aR,.int .i64 aC,.int .i64 aF,.slice ad n ca],.agg #[.int .i64 aR,.int .i64 aC,.int .i64 bF,.slice bd n cb]] w (LosE (divV (msS ⟨aR,aC,aF,n,g⟩ ⟨aR,aC,bF,n,h⟩ n) (frmV n)) ⟨aR,aC,2,n,fun i=>divV (addV (msD ⟨aR,aC,aF,n,g⟩ ⟨aR,aC,bF,n,h⟩ i) (msD ⟨aR,aC,aF,n,g⟩ ⟨aR,aC,bF,n,h⟩ i)) (frmV n)⟩ 0 w):=by
 have H1:=Lib.hid h1
 have H2:=Lib.hid h2
 have K1:=Lib.hid (show Ending.returned (.bool (rightB aR aC aF n g))=.returned (.bool true) by rw [hr])
 have K2:=Lib.hid (show Ending.returned (.bool (rightB aR aC bF n h))=.returned (.bool true) by rw [hr2])
 obtain ⟨hwm,hm⟩:=wrap_mul aR aC n ha1 ha2 hnn.symm
 have hn:n≤9223372036854775807:=by omega
 have hR0:¬(aR:Int)=0:=by
  intro e
  have:aR=0:=by omega
  rw [this,Nat.zero_mul] at hnn
  omega
 obtain ⟨G,hG⟩:∃ G:Nat→Int,G=fun i=>divV (addV (msD ⟨aR,aC,aF,n,g⟩ ⟨aR,aC,bF,n,h⟩ i) (msD ⟨aR,aC,aF,n,g⟩ ⟨aR,aC,bF,n,h⟩ i)) (frmV n):=⟨_,rfl⟩
 rw [←hG]
 obtain ⟨D,hD⟩:∃ D,msD ⟨aR,aC,aF,n,g⟩ ⟨aR,aC,bF,n,h⟩=D:=⟨_,rfl⟩
 have HD:=Lib.hid (show ∀ i,subV (widV aF g i) (widV bF h i)=D i from fun i=>by rw [←hD];rfl)
 have HSn:=Lib.hid (show ∀ i,msS ⟨aR,aC,aF,n,g⟩ ⟨aR,aC,bF,n,h⟩ (i+1)=fmaV (D i) (D i) (msS ⟨aR,aC,aF,n,g⟩ ⟨aR,aC,bF,n,h⟩ i) from fun i=>by rw [←hD];rfl)
 have HS0:=Lib.hid (show msS ⟨aR,aC,aF,n,g⟩ ⟨aR,aC,bF,n,h⟩ 0=0 from rfl)
 have HSb:=Lib.hid (show ∀ i,0≤msS ⟨aR,aC,aF,n,g⟩ ⟨aR,aC,bF,n,h⟩ i∧msS ⟨aR,aC,aF,n,g⟩ ⟨aR,aC,bF,n,h⟩ i≤4294967295 from fun i=>by
  cases i with
  | zero=>exact ⟨Int.le_refl _,by show (0:Int)≤4294967295;decide⟩
  | succ i=>exact fma_word _ _ _)
 rw [hD] at hG
 obtain ⟨m,hm2⟩:∃ m,frmV n=m:=⟨_,rfl⟩
 rw [hm2] at hG ⊢
 have HM:=Lib.hid hm2
 have HGi:=Lib.hid (show ∀ i,G i=divV (addV (D i) (D i)) m from fun i=>by rw [hG])
 have HGb:=Lib.hid (show ∀ t,0≤G t∧G t≤4294967295 from fun t=>by rw [hG];exact div_word _ _)
 generalize msS ⟨aR,aC,aF,n,g⟩ ⟨aR,aC,bF,n,h⟩=ST at*
 have HT1:=Lib.hid ((ten_new w (.int .i64 aR) (.int .i64 aC) (.int .i64 aF) (.slice ad n ca) 24).grown (Grown.alloc (Grown.alloc (Grown.refl _) #[.int .i64 aR,.int .i64 aC,.int .i64 bF,.slice bd n cb] 24) #[.int .i64 0,.int .i64 0,.int .i64 0,.slice none 0 0] 24))
 have HT2:=Lib.hid ((ten_new2 w #[.int .i64 aR,.int .i64 aC,.int .i64 aF,.slice ad n ca] 24 (.int .i64 aR) (.int .i64 aC) (.int .i64 bF) (.slice bd n cb) 24).grown (Grown.alloc (Grown.refl _) #[.int .i64 0,.int .i64 0,.int .i64 0,.slice none 0 0] 24))
 have HT3:=Lib.hid (ten_new2 (w.alloc (.cells #[.int .i64 aR,.int .i64 aC,.int .i64 aF,.slice ad n ca] 24)) #[.int .i64 aR,.int .i64 aC,.int .i64 bF,.slice bd n cb] 24 (.int .i64 0) (.int .i64 0) (.int .i64 0) (.slice none 0 0) 24)
 have HG:=Lib.hid (show Grown w (((w.alloc (.cells #[.int .i64 aR,.int .i64 aC,.int .i64 aF,.slice ad n ca] 24)).alloc (.cells #[.int .i64 aR,.int .i64 aC,.int .i64 bF,.slice bd n cb] 24)).alloc (.cells #[.int .i64 0,.int .i64 0,.int .i64 0,.slice none 0 0] 24)) from gr)
 simp only [World.size_alloc] at HT3
 clear h1 h2 hr hr2 hnn hG hD hm2
 go_enter Tryz.func16,Tryz.ntmps16
 go_wp2_with fail
 generalize (((w.alloc _).alloc _).alloc _)=W0 at HT1 HT2 HT3 HG ⊢
 refine (tright_any _ _ _ _ _ _ g _ (by assumption) (H1.out.grown HG.out)).mono ?_
 rintro e W1 ⟨he,hW⟩
 rw [K1.out] at he
 subst he
 replace HT1:=Lib.hid (HT1.out.grown hW)
 replace HT2:=Lib.hid (HT2.out.grown hW)
 replace HT3:=Lib.hid (HT3.out.grown hW)
 replace HG:=Lib.hid (grown_trans HG.out hW)
 clear hW
 obtain ⟨p0,p1,p2,p3,p4,-,-,-,-⟩:=HT1.out
 obtain ⟨q0,q1,q2,q3,q4,-,-,-,-⟩:=HT2.out
 go_wp2_with fail
 clear p0 p1 p2 p3 p4 q0 q1 q2 q3 q4
 refine (tright_any _ _ _ _ _ _ h _ (by assumption) (H2.out.grown HG.out)).mono ?_
 rintro e W2 ⟨he,hW⟩
 rw [K2.out] at he
 subst he
 replace HT1:=Lib.hid (HT1.out.grown hW)
 replace HT2:=Lib.hid (HT2.out.grown hW)
 replace HT3:=Lib.hid (HT3.out.grown hW)
 replace HG:=Lib.hid (grown_trans HG.out hW)
 clear hW
 obtain ⟨p0,p1,p2,p3,p4,-,-,-,-⟩:=HT1.out
 obtain ⟨q0,q1,q2,q3,q4,-,-,-,-⟩:=HT2.out
 go_wp2_with fail
 go_region_held3 (fun w'=>w'.cell? ⟨w.heap.size,0,none⟩=some (.int .i64 aR)∧w'.cell? ⟨w.heap.size,1,none⟩=some (.int .i64 aC)∧w'.cell? ⟨w.heap.size,2,none⟩=some (.int .i64 aF)∧w'.cell? ⟨w.heap.size,3,none⟩=some (.slice ad n ca)) (go_keep) (first
  | (go_at_call 27;(with_reducible refine (lint_any n _ (by omega) (by omega)).mono ?_);rintro e W3 ⟨rfl,m0,m1,hW⟩;rw [HM.out] at m0 m1 ⊢;replace HT1:=Lib.hid (HT1.out.grown (grown_trans gr hW));replace HT2:=Lib.hid (HT2.out.grown (grown_trans gr hW));replace HT3:=Lib.hid (HT3.out.grown (grown_trans gr hW));replace HG:=Lib.hid (show Grown w W3 from grown_trans gr hW);have HT3o:=Lib.hid HT3.out.lies;clear hW p0 p1 p2 p3 p4;obtain ⟨p0,p1,p2,p3,p4,-,-,-,-⟩:=HT1.out)
  | (go_at_call 28;(with_reducible refine (lwide_any aR aC aF ad n ca g _ hm (H1.out.grown gr)).mono ?_);rintro e W4 ⟨xd,xc,rfl,own,-,hW⟩;replace HT1:=Lib.hid (HT1.out.grown (grown_trans gr hW));replace HT2:=Lib.hid (HT2.out.grown (grown_trans gr hW));replace HT3:=Lib.hid (HT3.out.grown (grown_trans gr hW));replace HG:=Lib.hid (show Grown w W4 from grown_trans gr hW);clear hW p0 p1 p2 p3 p4;obtain ⟨p0,p1,p2,p3,p4,-,-,-,-⟩:=HT1.out))
 rcases own with ⟨h,-,-⟩ | ⟨b,rfl,hb,hro,hxc⟩
 ·exact absurd h (by omega)
 clear p0 p1 p2 p3 p4 q0 q1 q2 q3 q4
 obtain ⟨q0,q1,q2,q3,q4,-,-,-,-⟩:=HT2.out
 go_wp2_with fail
 refine (lwide_any aR aC bF bd n cb h _ hm (H2.out.grown gr)).mono ?_
 rintro e W5 ⟨ld,lc,rfl,own,-,hW⟩
 have HS:Hid (SmS w b n (.int .i64 aR) (.int .i64 aC) (.int .i64 aF) (.slice ad n ca) (.int .i64 aR) (.int .i64 aC) (.int .i64 bF) (.slice bd n cb) (fun t=>if t<0 then G t else widV aF g t) ld n (fun t=>widV bF h t) W5):=
  Lib.hid ⟨grown_trans gr hW,HT1.out.grown hW,HT2.out.grown hW,HT3.out.grown hW,(hro.grown hW).congr fun t _=>if_neg (Nat.not_lt_zero t),own.reads (fun t _=>wid_bd bF h t),by have:=HT3o.out;omega,own.fresh.off hro.lies⟩
 have HXC:=Lib.hid hxc
 clear own hW hro hb q0 q1 q2 q3 q4 HT1 HT2 HT3 HG hxc HT3o
 go_wp2_with fail
 go_loopw [8,10,11,12,47] (fun s _ _ _ i wr=>∃ I:Nat,I≤n∧i=.int .i64 I∧s=.int .u32 (ST I)∧Hid (SmS w b n (.int .i64 aR) (.int .i64 aC) (.int .i64 aF) (.slice ad n ca) (.int .i64 aR) (.int .i64 aC) (.int .i64 bF) (.slice bd n cb) (fun t=>if t<I then G t else widV aF g t) ld n (fun t=>widV bF h t) wr)) (fun _ _ _ _ i _=>n - (intOf i).toNat)
 case atStart=>exact ⟨0,Nat.zero_le _,rfl,by rw [HS0.out],HS⟩
 case round=>
  rename World=>wr
  clear HS
  obtain ⟨I,hI,rfl,rfl,HS⟩:=hrel
  obtain ⟨s0,s1⟩:=HSb.out I
  by_cases hlt:I<n
  ·obtain ⟨lb,lo,rfl,hl,hc⟩:∃ b off,ld=some ⟨b,off,none⟩∧b<wr.heap.size∧∀ i,i<n→wr.cell? ⟨b,off+i,none⟩=some (.int .u32 (widV bF h i)):=by
    rcases HS.out.l.2 with h | h
    ·omega
    ·exact h
   have yl:=hc I hlt
   have y:=(HS.out.r.cell I hlt).trans (by rw [if_neg (Nat.lt_irrefl I)])
   obtain ⟨x0,x1⟩:=wid_bd aF g I
   obtain ⟨z0,z1⟩:=wid_bd bF h I
   have HDI:=HD.out I
   obtain ⟨x,hx⟩:∃ x,widV aF g I=x:=⟨_,rfl⟩
   obtain ⟨z,hz⟩:∃ z,widV bF h I=z:=⟨_,rfl⟩
   rw [hx,hz] at HDI
   rw [hx] at y x0 x1
   rw [hz] at yl z0 z1
   have HSI:=HSn.out I
   have HGI:=HGi.out I
   obtain ⟨d,hd⟩:∃ d,D I=d:=⟨_,rfl⟩
   rw [hd] at HDI HSI HGI
   have HDI:=Lib.hid HDI
   obtain ⟨s,hs⟩:∃ s,ST I=s:=⟨_,rfl⟩
   rw [hs] at HSI s0 s1 ⊢
   have HSI:=Lib.hid HSI
   obtain ⟨q,hq⟩:∃ q,addV d d=q:=⟨_,rfl⟩
   rw [hq] at HGI
   have HQ:=Lib.hid hq
   obtain ⟨V,hV⟩:∃ V,divV q m=V:=⟨_,rfl⟩
   rw [hV] at HGI
   have HV:=Lib.hid hV
   have HGI:=Lib.hid HGI
   clear hc hx hz hd hs hq hV
   go_wp2_with fail
   refine (lsub_any x z _ x0 x1 z0 z1).mono ?_
   rintro e W6 ⟨rfl,d0,d1,hW⟩
   rw [HDI.out] at d0 d1 ⊢
   replace HS:=Lib.hid (HS.out.grown hW)
   clear hW y yl
   go_wp2_with fail
   refine (lfma_any d d s _ d0 d1 d0 d1 s0 s1).mono ?_
   rintro e W7 ⟨rfl,-,-,hW⟩
   replace HS:=Lib.hid (HS.out.grown hW)
   clear hW
   go_wp2_with fail
   refine (ladd_any d d _ d0 d1 d0 d1).mono ?_
   rintro e W8 ⟨rfl,a0,a1,hW⟩
   rw [HQ.out] at a0 a1 ⊢
   replace HS:=Lib.hid (HS.out.grown hW)
   clear hW
   go_wp2_with fail
   refine (ldiv_any q m _ a0 a1 m0 m1).mono ?_
   rintro e W9 ⟨rfl,-,-,hW⟩
   rw [HV.out]
   replace HS:=Lib.hid (HS.out.grown hW)
   have z1:=HS.out.r.cell I hlt
   have z2:=HS.out.r.free I
   have HS2:=Lib.hid (HS.out.set (j:=I) (v:=V) (h':=fun t=>if t<I+1 then G t else widV aF g t) (by show (if I<I+1 then G I else widV aF g I)=V;rw [if_pos (Nat.lt_succ_self I),HGI.out]) (fun t ht=>by
    show (if t<I+1 then G t else widV aF g t)=if t<I then G t else widV aF g t
    by_cases c:t<I
    ·rw [if_pos c,if_pos (by omega)]
    ·rw [if_neg c,if_neg (by omega)]))
   clear hW HS
   go_wp2
   go_roundw
   case rel=>exact ⟨I+1,by omega,by go_num,by rw [HSI.out],HS2⟩
   case measure=>simp [intOf];omega
  ·obtain rfl:I=n:=by omega
   have HG:=Lib.hid HS.out.g
   obtain ⟨p0,p1,p2,p3,p4,-,-,-,-⟩:=HS.out.t1
   obtain ⟨r0,r1,r2,r3,r4,r5,r6,r7,r8⟩:=HS.out.t3
   obtain ⟨s,hs⟩:∃ s,ST I=s:=⟨_,rfl⟩
   rw [hs] at s0 s1 ⊢
   have HST:=Lib.hid hs
   have HV:=Lib.hid (show (if (aR:Int)=0 then (0:Int) else divV s m)=divV s m from if_neg hR0)
   obtain ⟨z,hz⟩:∃ z,w.heap.size+1+1=z:=⟨_,rfl⟩
   have HZ:=Lib.hid hz
   have n1:¬z=w.heap.size:=by omega
   have n3:w.heap.size≤z:=by omega
   rw [hz] at r0 r1 r2 r3 r4 r5 r6 r7 r8
   clear hs
   go_wp2_with fail
   (try rw [hz])
   clear hz
   go_region_held3 (fun w'=>w'.cell? ⟨w.heap.size,0,none⟩=some (.int .i64 aR)∧w'.cell? ⟨w.heap.size,1,none⟩=some (.int .i64 aC)∧w'.cell? ⟨w.heap.size,2,none⟩=some (.int .i64 aF)∧w'.cell? ⟨w.heap.size,3,none⟩=some (.slice ad I ca)) (go_keep) (first
    | (go_at_call 32;(with_reducible refine (lmean_any aR aC aF ad I ca s m _ s0 s1 m0 m1).mono ?_);rintro e W6 ⟨rfl,hW⟩;rw [HV.out];replace HS:=Lib.hid (HS.out.grown (grown_trans gr hW));replace HG:=Lib.hid (show Grown w W6 from grown_trans gr hW);clear hW p0 p1 p2 p3 p4 r0 r1 r2 r3 r4 r5 r6 r7 r8;obtain ⟨p0,p1,p2,p3,p4,-,-,-,-⟩:=HS.out.t1;obtain ⟨r0,r1,r2,r3,r4,r5,r6,r7,r8⟩:=HS.out.t3;rw [HZ.out] at r0 r1 r2 r3 r4 r5 r6 r7 r8)
    | (go_at_call 33;(with_reducible refine (lshaped_any aR aC aF ad (some ⟨b,0,none⟩) I ca I xc _).mono ?_);rintro e W7 ⟨rfl,hW⟩;replace HS:=Lib.hid (HS.out.grown (grown_trans gr hW));replace HG:=Lib.hid (show Grown w W7 from grown_trans gr hW);clear hW p0 p1 p2 p3 p4 r0 r1 r2 r3 r4 r5 r6 r7 r8;obtain ⟨p0,p1,p2,p3,p4,-,-,-,-⟩:=HS.out.t1;obtain ⟨r0,r1,r2,r3,r4,r5,r6,r7,r8⟩:=HS.out.t3;rw [HZ.out] at r0 r1 r2 r3 r4 r5 r6 r7 r8))
   have ho:=HS.out.o
   have hne:b≠z:=by have:=HZ.out;omega
   have HR:=Lib.hid (HS.out.r.congr (h':=G) fun t ht=>(if_pos ht).symm)
   go_wp2
   (try simp only [Exit.inBlock,Exit.then])
   refine bodyPost_ret (v:=.tuple #[.int .u32 (divV s m),.agg #[.int .i64 aR,.int .i64 aC,.int .i64 2,.slice (some ⟨b,0,none⟩) I xc],.int .i64 0]) ?_ rfl ⟨some ⟨b,0,none⟩,xc,by rw [HST.out],?_,hm,fun x hx=>by cases hx;show w.heap.size≤b;omega,gr⟩
   ·rw [results_three rfl]
    go_simp
   ·have q:=(((HR.out.other (a:=⟨z,0,none⟩) hne (.int .i64 aR)).other (a:=⟨z,1,none⟩) hne (.int .i64 aC)).other (a:=⟨z,2,none⟩) hne (.int .i64 2)).other (a:=⟨z,3,none⟩) hne (.slice (some ⟨b,0,none⟩) I xc)
    exact ⟨fun t _=>HGb.out t,.inr ⟨b,0,rfl,q.lies,fun t ht=>by rw [Nat.zero_add];exact q.cell t ht⟩⟩

set_option maxHeartbeats 2000000 in
theorem lmse_nil (aF bF:Int) (aR aC:Nat) (ad bd:Option Addr) (ca cb:Nat) (g h:Nat→Int) (w:World) (ha1:aR≤4096) (ha2:aC≤4096) (hnn:0=aR*aC) (h1:Reads ad 0 g w) (h2:Reads bd 0 h w) (hr:rightB aR aC aF 0 g=true) (hr2:rightB aR aC bF 0 h=true) (G:Nat→Int):
  Calls Tryz.prog 16 #[.agg #[.int .i64 aR,.int .i64 aC,.int .i64 aF,.slice ad 0 ca],.agg #[.int .i64 aR,.int .i64 aC,.int .i64 bF,.slice bd 0 cb]] w (LosE (if (aR:Int)=0 then 0 else divV 0 (frmV 0)) ⟨aR,aC,2,0,G⟩ 0 w):=by
 have H1:=Lib.hid h1
 have H2:=Lib.hid h2
 have K1:=Lib.hid (show Ending.returned (.bool (rightB aR aC aF 0 g))=.returned (.bool true) by rw [hr])
 have K2:=Lib.hid (show Ending.returned (.bool (rightB aR aC bF 0 h))=.returned (.bool true) by rw [hr2])
 obtain ⟨hwm,-⟩:=wrap_mul aR aC 0 ha1 ha2 hnn.symm
 have hn:0≤9223372036854775807:=by omega
 obtain ⟨m,hm2⟩:∃ m,frmV 0=m:=⟨_,rfl⟩
 rw [hm2]
 have HM:=Lib.hid hm2
 obtain ⟨V,hV⟩:∃ V,(if (aR:Int)=0 then (0:Int) else divV 0 m)=V:=⟨_,rfl⟩
 rw [hV]
 have HV:=Lib.hid hV
 have HT1:=Lib.hid ((ten_new w (.int .i64 aR) (.int .i64 aC) (.int .i64 aF) (.slice ad 0 ca) 24).grown (Grown.alloc (Grown.alloc (Grown.refl _) #[.int .i64 aR,.int .i64 aC,.int .i64 bF,.slice bd 0 cb] 24) #[.int .i64 0,.int .i64 0,.int .i64 0,.slice none 0 0] 24))
 have HT2:=Lib.hid ((ten_new2 w #[.int .i64 aR,.int .i64 aC,.int .i64 aF,.slice ad 0 ca] 24 (.int .i64 aR) (.int .i64 aC) (.int .i64 bF) (.slice bd 0 cb) 24).grown (Grown.alloc (Grown.refl _) #[.int .i64 0,.int .i64 0,.int .i64 0,.slice none 0 0] 24))
 have HT3:=Lib.hid (ten_new2 (w.alloc (.cells #[.int .i64 aR,.int .i64 aC,.int .i64 aF,.slice ad 0 ca] 24)) #[.int .i64 aR,.int .i64 aC,.int .i64 bF,.slice bd 0 cb] 24 (.int .i64 0) (.int .i64 0) (.int .i64 0) (.slice none 0 0) 24)
 have HG:=Lib.hid (show Grown w (((w.alloc (.cells #[.int .i64 aR,.int .i64 aC,.int .i64 aF,.slice ad 0 ca] 24)).alloc (.cells #[.int .i64 aR,.int .i64 aC,.int .i64 bF,.slice bd 0 cb] 24)).alloc (.cells #[.int .i64 0,.int .i64 0,.int .i64 0,.slice none 0 0] 24)) from gr)
 simp only [World.size_alloc] at HT3
 clear h1 h2 hr hr2 hnn hm2 hV
 go_enter Tryz.func16,Tryz.ntmps16
 go_wp2_with fail
 generalize (((w.alloc _).alloc _).alloc _)=W0 at HT1 HT2 HT3 HG ⊢
 refine (tright_any _ _ _ _ _ _ g _ (by assumption) (H1.out.grown HG.out)).mono ?_
 rintro e W1 ⟨he,hW⟩
 rw [K1.out] at he
 subst he
 replace HT1:=Lib.hid (HT1.out.grown hW)
 replace HT2:=Lib.hid (HT2.out.grown hW)
 replace HT3:=Lib.hid (HT3.out.grown hW)
 replace HG:=Lib.hid (grown_trans HG.out hW)
 clear hW
 obtain ⟨p0,p1,p2,p3,p4,-,-,-,-⟩:=HT1.out
 obtain ⟨q0,q1,q2,q3,q4,-,-,-,-⟩:=HT2.out
 go_wp2_with fail
 clear p0 p1 p2 p3 p4 q0 q1 q2 q3 q4
 refine (tright_any _ _ _ _ _ _ h _ (by assumption) (H2.out.grown HG.out)).mono ?_
 rintro e W2 ⟨he,hW⟩
 rw [K2.out] at he
 subst he
 replace HT1:=Lib.hid (HT1.out.grown hW)
 replace HT2:=Lib.hid (HT2.out.grown hW)
 replace HT3:=Lib.hid (HT3.out.grown hW)
 replace HG:=Lib.hid (grown_trans HG.out hW)
 clear hW
 obtain ⟨p0,p1,p2,p3,p4,-,-,-,-⟩:=HT1.out
 obtain ⟨q0,q1,q2,q3,q4,-,-,-,-⟩:=HT2.out
 go_wp2_with fail
 go_region_held3 (fun w'=>w'.cell? ⟨w.heap.size,0,none⟩=some (.int .i64 aR)∧w'.cell? ⟨w.heap.size,1,none⟩=some (.int .i64 aC)∧w'.cell? ⟨w.heap.size,2,none⟩=some (.int .i64 aF)∧w'.cell? ⟨w.heap.size,3,none⟩=some (.slice ad 0 ca)) (go_keep) (first
  | (go_at_call 27;(with_reducible refine (lint_any 0 _ (by omega) (by omega)).mono ?_);rintro e W3 ⟨rfl,m0,m1,hW⟩;rw [HM.out] at m0 m1 ⊢;replace HT1:=Lib.hid (HT1.out.grown (grown_trans gr hW));replace HT2:=Lib.hid (HT2.out.grown (grown_trans gr hW));replace HT3:=Lib.hid (HT3.out.grown (grown_trans gr hW));replace HG:=Lib.hid (show Grown w W3 from grown_trans gr hW);clear hW p0 p1 p2 p3 p4;obtain ⟨p0,p1,p2,p3,p4,-,-,-,-⟩:=HT1.out)
  | (go_at_call 28;(with_reducible refine (lwide_nil aR aC aF ad ca _).mono ?_);rintro e W4 ⟨rfl,hW⟩;replace HT1:=Lib.hid (HT1.out.grown (grown_trans gr hW));replace HT2:=Lib.hid (HT2.out.grown (grown_trans gr hW));replace HT3:=Lib.hid (HT3.out.grown (grown_trans gr hW));replace HG:=Lib.hid (show Grown w W4 from grown_trans gr hW);clear hW p0 p1 p2 p3 p4;obtain ⟨p0,p1,p2,p3,p4,-,-,-,-⟩:=HT1.out))
 clear p0 p1 p2 p3 p4 q0 q1 q2 q3 q4
 obtain ⟨q0,q1,q2,q3,q4,-,-,-,-⟩:=HT2.out
 go_wp2_with fail
 refine (lwide_nil aR aC bF bd cb _).mono ?_
 rintro e W5 ⟨rfl,hW⟩
 replace HT1:=Lib.hid (HT1.out.grown hW)
 replace HT3:=Lib.hid (HT3.out.grown hW)
 replace HG:=Lib.hid (grown_trans HG.out hW)
 clear hW q0 q1 q2 q3 q4 HT2
 obtain ⟨p0,p1,p2,p3,p4,-,-,-,-⟩:=HT1.out
 obtain ⟨r0,r1,r2,r3,r4,r5,r6,r7,r8⟩:=HT3.out
 obtain ⟨z,hz⟩:∃ z,w.heap.size+1+1=z:=⟨_,rfl⟩
 have HZ:=Lib.hid hz
 have n1:¬z=w.heap.size:=by omega
 have n3:w.heap.size≤z:=by omega
 rw [hz] at r0 r1 r2 r3 r4 r5 r6 r7 r8
 go_wp2_with fail
 refine wp_loop_rounds 1 ?_
 rw [rounds_succ]
 go_wp2_with fail
 (try rw [hz])
 clear hz
 go_region_held3 (fun w'=>w'.cell? ⟨w.heap.size,0,none⟩=some (.int .i64 aR)∧w'.cell? ⟨w.heap.size,1,none⟩=some (.int .i64 aC)∧w'.cell? ⟨w.heap.size,2,none⟩=some (.int .i64 aF)∧w'.cell? ⟨w.heap.size,3,none⟩=some (.slice ad 0 ca)) (go_keep) (first
  | (go_at_call 32;(with_reducible refine (lmean_any aR aC aF ad 0 ca 0 m _ (by decide) (by decide) m0 m1).mono ?_);rintro e W6 ⟨rfl,hW⟩;rw [HV.out];replace HT1:=Lib.hid (HT1.out.grown (grown_trans gr hW));replace HT3:=Lib.hid (HT3.out.grown (grown_trans gr hW));replace HG:=Lib.hid (show Grown w W6 from grown_trans gr hW);clear hW p0 p1 p2 p3 p4 r0 r1 r2 r3 r4 r5 r6 r7 r8;obtain ⟨p0,p1,p2,p3,p4,-,-,-,-⟩:=HT1.out;obtain ⟨r0,r1,r2,r3,r4,r5,r6,r7,r8⟩:=HT3.out;rw [HZ.out] at r0 r1 r2 r3 r4 r5 r6 r7 r8)
  | (go_at_call 33;(with_reducible refine (lshaped_any aR aC aF ad none 0 ca 0 0 _).mono ?_);rintro e W7 ⟨rfl,hW⟩;replace HT1:=Lib.hid (HT1.out.grown (grown_trans gr hW));replace HT3:=Lib.hid (HT3.out.grown (grown_trans gr hW));replace HG:=Lib.hid (show Grown w W7 from grown_trans gr hW);clear hW p0 p1 p2 p3 p4 r0 r1 r2 r3 r4 r5 r6 r7 r8;obtain ⟨p0,p1,p2,p3,p4,-,-,-,-⟩:=HT1.out;obtain ⟨r0,r1,r2,r3,r4,r5,r6,r7,r8⟩:=HT3.out;rw [HZ.out] at r0 r1 r2 r3 r4 r5 r6 r7 r8))
 go_wp2
 (try simp only [Exit.inBlock,Exit.then])
 refine bodyPost_ret (v:=.tuple #[.int .u32 V,.agg #[.int .i64 aR,.int .i64 aC,.int .i64 2,.slice none 0 0],.int .i64 0]) ?_ rfl ⟨none,0,rfl,Reads.nil _ _ _,Nat.zero_le _,fresh_none _,gr⟩
 rw [results_three rfl]
 go_simp

theorem lmse_any (aR aC aF bR bC bF:Int) (ad bd:Option Addr) (an bn ca cb:Nat) (g h:Nat→Int) (w:World) (hn:an≤9223372036854775807) (hn2:bn≤9223372036854775807) (h1:Reads ad an g w) (h2:Reads bd bn h w):
  Calls Tryz.prog 16 #[.agg #[.int .i64 aR,.int .i64 aC,.int .i64 aF,.slice ad an ca],.agg #[.int .i64 bR,.int .i64 bC,.int .i64 bF,.slice bd bn cb]] w (LosE (mseV ⟨aR,aC,aF,an,g⟩ ⟨bR,bC,bF,bn,h⟩) (mseT ⟨aR,aC,aF,an,g⟩ ⟨bR,bC,bF,bn,h⟩) (mseX ⟨aR,aC,aF,an,g⟩ ⟨bR,bC,bF,bn,h⟩) w):=by
 unfold mseV mseT mseX
 cases hb:msB ⟨aR,aC,aF,an,g⟩ ⟨bR,bC,bF,bn,h⟩
 ·unfold msB PT.right at hb
  dsimp only at hb
  cases e1:rightB aR aC aF an g
  ·exact lmse_bad1 aR aC aF bR bC bF ad bd an bn ca cb g h w hn hn2 h1 h2 e1
  ·cases e2:rightB bR bC bF bn h
   ·exact lmse_bad2 aR aC aF bR bC bF ad bd an bn ca cb g h w hn hn2 h1 h2 e1 e2
   ·rw [e1,e2] at hb
    by_cases e3:aR=bR
    ·by_cases e4:aC=bC
     ·subst e3 e4
      simp at hb
     ·exact lmse_bad4 aR aC aF bR bC bF ad bd an bn ca cb g h w hn hn2 h1 h2 e1 e2 e3 e4
    ·exact lmse_bad3 aR aC aF bR bC bF ad bd an bn ca cb g h w hn hn2 h1 h2 e1 e2 e3
 ·obtain ⟨e1,e2,e3,e4⟩:=msb_yes hb
  simp only at e3 e4
  subst e3 e4
  obtain ⟨r,k,f1,f2,l1,l2,f3⟩:=right_nat e1
  obtain ⟨r',k',f1',f2',_,_,f3'⟩:=right_nat e2
  simp only at f1 f2 f3 f1' f2' f3'
  subst f1 f2
  have hr:r'=r:=by omega
  have hk:k'=k:=by omega
  subst hr hk
  have hbn:bn=an:=by omega
  subst hbn
  rw [if_pos rfl,if_pos rfl,if_pos rfl]
  rcases Nat.eq_zero_or_pos bn with h0 | h0
  ·subst h0
   exact lmse_nil aF bF r' k' ad bd ca cb g h w l1 l2 f3 h1 h2 e1 e2 _
  ·have hr0:¬((r':Nat):Int)=0:=by
    intro e
    have:r'=0:=by omega
    rw [this,Nat.zero_mul] at f3
    omega
   rw [if_neg hr0]
   exact lmse_good aF bF r' k' ad bd bn ca cb g h w l1 l2 f3 h1 h2 e1 e2 h0

set_option maxHeartbeats 1000000 in
theorem lright_bad (R C F:Int) (ad yd:Option Addr) (n c yn yc:Nat) (g y:Nat→Int) (w:World) (hn:n≤9223372036854775807) (hyn:yn≤9223372036854775807) (hr:Reads ad n g w) (hy:ReadsI yd yn y w) (h:¬labX ⟨R,C,F,n,g⟩ yn y=0):
  Calls Tryz.prog 13 #[.agg #[.int .i64 R,.int .i64 C,.int .i64 F,.slice ad n c],.slice yd yn yc] w fun e w'=>e=.returned (.tuple #[.int .i64 0,.int .i64 (labX ⟨R,C,F,n,g⟩ yn y)])∧Grown w w':=by
 obtain ⟨X,hX⟩:∃ X,labX ⟨R,C,F,n,g⟩ yn y=X:=⟨_,rfl⟩
 rw [hX] at h ⊢
 have HX:=Lib.hid (show Ending.returned (.int .i64 (labX ⟨R,C,F,n,g⟩ yn y))=.returned (.int .i64 X) by rw [hX])
 have h1:(X==0)=false:=by simp [h]
 have h2:(X != 0)=true:=by simp [h]
 have H1:=Lib.hid hr
 have H2:=Lib.hid hy
 have HG:=Lib.hid (show Grown w (w.alloc (.cells #[.int .i64 R,.int .i64 C,.int .i64 F,.slice ad n c] 24)) from gr)
 clear h hX hr hy
 go_enter Tryz.func13,Tryz.ntmps13
 go_wp2_with fail
 generalize w.alloc _=W0 at HG ⊢
 refine (llab_any _ _ _ _ _ _ _ _ _ g y _ hn hyn (H1.out.grown HG.out) (H2.out.grown HG.out)).mono ?_
 rintro e W1 ⟨he,hW1⟩
 rw [HX.out] at he
 subst he
 replace HG:=Lib.hid (grown_trans HG.out hW1)
 clear hW1
 go_wp2
 go_ret2
 exact ⟨rfl,gr⟩

set_option maxHeartbeats 1000000 in
theorem lright_none (C F:Int) (ad yd:Option Addr) (c yc:Nat) (g y:Nat→Int) (w:World) (hX:labX ⟨0,C,F,0,g⟩ 0 y=0):
  Calls Tryz.prog 13 #[.agg #[.int .i64 0,.int .i64 C,.int .i64 F,.slice ad 0 c],.slice yd 0 yc] w fun e w'=>e=.returned (.tuple #[.int .i64 0,.int .i64 0])∧Grown w w':=by
 have H1:Hid (∀ W,Reads ad 0 g W):=Lib.hid fun W=>Reads.nil ad g W
 have H2:Hid (∀ W,ReadsI yd 0 y W):=Lib.hid fun W=>⟨fun i hi=>absurd hi (Nat.not_lt_zero i),.inl rfl⟩
 have HX:=Lib.hid (show Ending.returned (.int .i64 (labX ⟨0,C,F,0,g⟩ 0 y))=.returned (.int .i64 0) by rw [hX])
 have HT:=Lib.hid (ten_new w (.int .i64 0) (.int .i64 C) (.int .i64 F) (.slice ad 0 c) 24)
 have HG:=Lib.hid (show Grown w (w.alloc (.cells #[.int .i64 0,.int .i64 C,.int .i64 F,.slice ad 0 c] 24)) from gr)
 clear hX
 go_enter Tryz.func13,Tryz.ntmps13
 go_wp2_with fail
 generalize w.alloc _=W0 at HT HG ⊢
 refine (llab_any _ _ _ _ _ _ _ _ _ g y _ (by omega) (by omega) (H1.out _) (H2.out _)).mono ?_
 rintro e W1 ⟨he,hW1⟩
 rw [HX.out] at he
 subst he
 replace HT:=Lib.hid (HT.out.grown hW1)
 replace HG:=Lib.hid (grown_trans HG.out hW1)
 clear hW1
 obtain ⟨p0,p1,p2,p3,p4,-,-,-,-⟩:=HT.out
 go_wp2_with fail
 refine (lwide_nil 0 C F ad c _).mono ?_
 rintro e W2 ⟨rfl,hW⟩
 replace HG:=Lib.hid (grown_trans HG.out hW)
 clear hW
 go_wp2_with fail
 refine wp_loop_rounds 1 ?_
 rw [rounds_succ]
 go_wp2
 go_ret2
 exact ⟨rfl,gr⟩

set_option maxHeartbeats 2000000 in
theorem lright_some (F:Int) (R C:Nat) (ad:Option Addr) (n c by' yo yc:Nat) (g ys:Nat→Int) (w:World) (hR:R≤4096) (hR0:0<R) (hC:C≤4096) (hC0:0<C) (hn:n=R*C) (hr:Reads ad n g w) (hX:labX ⟨R,C,F,n,g⟩ R ys=0)
  (hlab:∀ i,i<R→0≤ys i∧ys i<C) (hbl:by'<w.heap.size) (hy:∀ i,i<R→w.cell? ⟨by',yo+i,none⟩=some (.int .i64 (ys i))):
  Calls Tryz.prog 13 #[.agg #[.int .i64 R,.int .i64 C,.int .i64 F,.slice ad n c],.slice (some ⟨by',yo,none⟩) R yc] w fun e w'=>e=.returned (.tuple #[.int .i64 (rgN ⟨R,C,F,n,g⟩ ys R),.int .i64 0])∧Grown w w':=by
 have hm:n≤16777216:=by rw [hn];exact (wrap_mul R C _ hR hC rfl).2
 have hn0:0<n:=by rw [hn];exact Nat.mul_pos hR0 hC0
 have HN:=Lib.hid hn
 have HX:=Lib.hid (show Ending.returned (.int .i64 (labX ⟨R,C,F,n,g⟩ R ys))=.returned (.int .i64 0) by rw [hX])
 have HTn:=Lib.hid (show ∀ r,rgN ⟨R,C,F,n,g⟩ ys (r+1)=rgN ⟨R,C,F,n,g⟩ ys r+(if firB (rowU ⟨R,C,F,n,g⟩ r) C (ys r) then 1 else 0) from fun r=>rfl)
 have HT0:=Lib.hid (show rgN ⟨R,C,F,n,g⟩ ys 0=0 from rfl)
 have HTb:=Lib.hid (rgN_bd ⟨R,C,F,n,g⟩ ys)
 have HUr:=Lib.hid (show ∀ r j,rowU ⟨R,C,F,n,g⟩ r j=widV F g (r*C+j) from fun r j=>rfl)
 generalize rgN ⟨R,C,F,n,g⟩ ys=ST at*
 generalize rowU ⟨R,C,F,n,g⟩=U at*
 have H1:=Lib.hid hr
 have H2:=Lib.hid (show ReadsI (some ⟨by',yo,none⟩) R ys w from ⟨fun i hi=>by have:=hlab i hi;omega,.inr ⟨by',yo,rfl,hbl,hy⟩⟩)
 have HY:=Lib.hid hy
 have HL:=Lib.hid hlab
 have HT:=Lib.hid (ten_new w (.int .i64 R) (.int .i64 C) (.int .i64 F) (.slice ad n c) 24)
 have HG:=Lib.hid (show Grown w (w.alloc (.cells #[.int .i64 R,.int .i64 C,.int .i64 F,.slice ad n c] 24)) from gr)
 clear hX hr hy hlab hn
 go_enter Tryz.func13,Tryz.ntmps13
 go_wp2_with fail
 generalize w.alloc _=W0 at HT HG ⊢
 refine (llab_any _ _ _ _ _ _ _ _ _ g ys _ (by omega) (by omega) (H1.out.grown HG.out) (H2.out.grown HG.out)).mono ?_
 rintro e W1 ⟨he,hW1⟩
 rw [HX.out] at he
 subst he
 replace HT:=Lib.hid (HT.out.grown hW1)
 replace HG:=Lib.hid (grown_trans HG.out hW1)
 clear hW1
 obtain ⟨p0,p1,p2,p3,p4,-,-,-,-⟩:=HT.out
 go_wp2_with fail
 refine (lwide_any R C F ad n c g _ hm (H1.out.grown gr)).mono ?_
 rintro e W3 ⟨xd,xc,rfl,own,-,hW⟩
 rcases own with ⟨h,-,-⟩ | ⟨b,rfl,hb,hro,hxc⟩
 ·exact absurd h (by omega)
 have HS:Hid (WiS w b n (.int .i64 R) (.int .i64 C) (.int .i64 F) (.slice ad n c) (fun t=>widV F g t) W3):=Lib.hid ⟨grown_trans HG.out hW,HT.out.grown hW,hro,Nat.lt_of_lt_of_le p0 hb⟩
 have HXC:=Lib.hid hxc
 clear hro hb p0 p1 p2 p3 p4 HT HG hxc hW
 go_wp2_with fail
 go_loopw [7,9,10,21] (fun s _ _ i wr=>∃ I:Nat,I≤R∧i=.int .i64 I∧s=.int .i64 (ST I)∧Hid (WiS w b n (.int .i64 R) (.int .i64 C) (.int .i64 F) (.slice ad n c) (fun t=>widV F g t) wr)) (fun _ _ _ i _=>R - (intOf i).toNat)
 case atStart=>exact ⟨0,Nat.zero_le _,rfl,by rw [HT0.out],HS⟩
 case round=>
  rename World=>wr
  clear HS
  obtain ⟨I,hI,rfl,rfl,HS⟩:=hrel
  obtain ⟨s0,s1⟩:=HTb.out I
  by_cases hlt:I<R
  ·have y:=grown_cell HS.out.g (HY.out I hlt) hbl
   obtain ⟨l0,l1⟩:=HL.out I hlt
   obtain ⟨lab,hlb⟩:∃ lab:Nat,ys I=(lab:Int):=⟨(ys I).toNat,by omega⟩
   have HSI:=HTn.out I
   rw [hlb] at y l0 l1 HSI
   have hl2:lab<C:=by omega
   have hin:=row_in (C:=C) hlt
   rw [←HN.out] at hin
   obtain ⟨s,hs⟩:∃ s,ST I=s:=⟨_,rfl⟩
   rw [hs] at s0 s1 HSI ⊢
   obtain ⟨Bq,hB⟩:∃ B,firB (U I) C lab=B:=⟨_,rfl⟩
   rw [hB] at HSI
   have HSI:=Lib.hid HSI
   have HB:=Lib.hid hB
   have HUI:=Lib.hid (HUr.out I)
   obtain ⟨p0,p1,p2,p3,p4,-,-,-,-⟩:=HS.out.t1
   have hwr:IntKind.i64.wrap (s+1)=s+1:=by rw [IntKind.wrap_i64];omega
   clear hlb hs hB
   go_wp2_with fail
   refine (lrow_any R F C I ad n c b n xc _ (by omega) hC hC0 hin HXC.out).mono ?_
   rintro e W4 ⟨k,rfl,hk,hW4⟩
   replace HS:=Lib.hid (HS.out.grown hW4)
   clear hW4 y p0 p1 p2 p3 p4
   go_wp2_with fail
   refine (lfirst_any b (I*C) C k lab (U I) _ hC hl2 ⟨fun j hj=>by rw [HUI.out];exact wid_bd F g _,.inr ⟨b,I*C,rfl,HS.out.r.lies,fun j hj=>by rw [HUI.out];exact HS.out.r.cell (I*C+j) (by omega)⟩⟩).mono ?_
   rintro e W5 ⟨rfl,hW⟩
   rw [HB.out]
   replace HS:=Lib.hid (HS.out.grown hW)
   clear hW
   cases Bq
   ·go_wp2
    go_roundw
    case rel=>exact ⟨I+1,by omega,by go_num,by rw [HSI.out];simp,HS⟩
    case measure=>simp [intOf];omega
   ·go_wp2
    go_roundw
    case rel=>exact ⟨I+1,by omega,by go_num,by rw [HSI.out];simp,HS⟩
    case measure=>simp [intOf];omega
  ·obtain rfl:I=R:=by omega
   have HG:=Lib.hid HS.out.g
   go_wp2
   go_ret2
   exact ⟨rfl,HG.out⟩

theorem lright_any (R C F:Int) (ad yd:Option Addr) (n c yn yc:Nat) (g y:Nat→Int) (w:World) (hn:n≤9223372036854775807) (hyn:yn≤9223372036854775807) (hr:Reads ad n g w) (hy:ReadsI yd yn y w):
  Calls Tryz.prog 13 #[.agg #[.int .i64 R,.int .i64 C,.int .i64 F,.slice ad n c],.slice yd yn yc] w fun e w'=>e=.returned (.tuple #[.int .i64 (rgtN ⟨R,C,F,n,g⟩ yn y),.int .i64 (labX ⟨R,C,F,n,g⟩ yn y)])∧Grown w w':=by
 unfold rgtN
 by_cases h:labX ⟨R,C,F,n,g⟩ yn y=0
 ·rw [if_pos h]
  obtain ⟨h1,h2,h3,h4⟩:=lab_zero h
  obtain ⟨r,k,e1,e2,l1,l2,e3⟩:=right_nat h1
  simp only at e1 e2 e3 h2 h3 h4
  subst e1 e2
  have hry:yn=r:=by omega
  subst hry
  rw [h]
  rcases Nat.eq_zero_or_pos yn with h0 | h0
  ·subst h0
   rw [Nat.zero_mul] at e3
   subst e3
   exact lright_none k F ad yd c yc g y w h
  ·obtain ⟨b,off,rfl,hl,hc⟩:=readi_at hy h0
   exact lright_some F yn k ad n c b off yc g y w l1 h0 l2 (by omega) e3 hr h h4 hl hc
 ·rw [if_neg h]
  exact lright_bad R C F ad yd n c yn yc g y w hn hyn hr hy h
end Go.Proofs.YteifobleigfbaaaGreat
