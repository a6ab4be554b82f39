/- What the laws of layer 16 ask first. (Written by gen68.py.) -/
import Derived.Test.YteifobleigfbaaaGreatLosC
import Derived.Test.YteifobleigfbaaaGreatFrame
namespace Go.Proofs.YteifobleigfbaaaGreat
open Go Go.RowKit
set_option linter.unusedVariables false
set_option linter.unusedSimpArgs false

def k16:PT:=⟨1,2,2,2,fun i=>[0,0].getD i 0⟩

theorem k16_s1:subV 0 0=0:=by kernel_rfl

theorem k16_s2:expI 0=1065353216:=by kernel_rfl

theorem k16_s3:addV 0 1065353216=1065353216:=by kernel_rfl

theorem k16_s4:addV 1065353216 1065353216=1073741824:=by kernel_rfl

theorem k16_s5:divV 1065353216 1073741824=1056964608:=by kernel_rfl

theorem k16_s6:subV 1056964608 0=1056964608∧subV 1056964608 1065353216=3204448256:=⟨by kernel_rfl,by kernel_rfl⟩

theorem k16_s7:frmV 1=1065353216∧frmV 2=1073741824:=⟨by kernel_rfl,by kernel_rfl⟩

theorem k16_s8:divV 1056964608 1065353216=1056964608∧divV 3204448256 1065353216=3204448256:=⟨by kernel_rfl,by kernel_rfl⟩

theorem k16_s9:conV 2 2 0 0=0∧maxO 2 0 0=0:=⟨by kernel_rfl,by kernel_rfl⟩

theorem k16_s10:fmaV 0 0 0=0∧divV 0 1073741824=0:=⟨by kernel_rfl,by kernel_rfl⟩

theorem k16_wid (i:Nat) (h:i<2):widV 2 (fun i=>[0,0].getD i 0) i=0:=by
 unfold widV
 rcases (show i=0∨i=1 by omega) with rfl | rfl <;> exact k16_s9.1

theorem k16_e (i:Nat) (h:i<2):sfE (rowU k16 0) (sfM k16 0) i=1065353216:=by
 have h0:rowU k16 0 0=0:=k16_wid 0 (by decide)
 have h1:rowU k16 0 1=0:=k16_wid 1 (by decide)
 have hm:sfM k16 0=0:=by
  show maxO 2 (rowU k16 0 0) (rowU k16 0 1)=0
  rw [h0,h1];exact k16_s9.2
 unfold sfE
 have hi:rowU k16 0 i=0:=by
  rcases (show i=0∨i=1 by omega) with rfl | rfl
  ·exact h0
  ·exact h1
 rw [hm,hi,k16_s1]
 exact k16_s2

theorem k16_s:sfS k16 0=1073741824:=by
 show addV (addV 0 (sfE (rowU k16 0) (sfM k16 0) 0)) (sfE (rowU k16 0) (sfM k16 0) 1)=_
 rw [k16_e 0 (by decide),k16_e 1 (by decide),k16_s3,k16_s4]

theorem k16_o (c:Nat) (h:c<2):sfO k16 (fun i=>[1].getD i 0) 0 c=if c=1 then 3204448256 else 1056964608:=by
 show divV (subV (divV (sfE (rowU k16 0) (sfM k16 0) c) (sfS k16 0)) (if (c:Int)=1 then 1065353216 else 0)) (frmV 1)=_
 rw [k16_e c h,k16_s,k16_s5,k16_s7.1]
 rcases (show c=0∨c=1 by omega) with rfl | rfl
 ·rw [if_neg (by decide),k16_s6.1,k16_s8.1,if_neg (by decide)]
 ·rw [if_pos (by decide),k16_s6.2,k16_s8.2,if_pos rfl]

theorem k16_lab:labX k16 1 (fun i=>[1].getD i 0)=0∧labX k16 1 (fun i=>[2].getD i 0)=22∧msB k16 k16=true:=⟨by decide,by decide,by decide⟩

theorem k16_ms:mseV k16 k16=0:=by
 have d:∀ i,i<2→msD k16 k16 i=0:=fun i hi=>by
  show subV (widV 2 (fun i=>[0,0].getD i 0) i) (widV 2 (fun i=>[0,0].getD i 0) i)=0
  rw [k16_wid i hi];exact k16_s1
 unfold mseV
 rw [if_pos k16_lab.2.2,if_neg (by decide)]
 show divV (fmaV (msD k16 k16 1) (msD k16 k16 1) (fmaV (msD k16 k16 0) (msD k16 k16 0) 0)) (frmV 2)=0
 rw [d 0 (by decide),d 1 (by decide),k16_s10.1,k16_s10.1,k16_s7.2]
 exact k16_s10.2

theorem k16_vals:mseX k16 k16=0∧mseV k16 k16=0∧(mseT k16 k16).n=2∧labX k16 1 (fun i=>[1].getD i 0)=0∧(sofT k16 1 (fun i=>[1].getD i 0)).R=1∧(sofT k16 1 (fun i=>[1].getD i 0)).C=2∧(sofT k16 1 (fun i=>[1].getD i 0)).F=2∧(sofT k16 1 (fun i=>[1].getD i 0)).n=2
  ∧ (sofT k16 1 (fun i=>[1].getD i 0)).g 0=1056964608∧(sofT k16 1 (fun i=>[1].getD i 0)).g 1=3204448256∧labX k16 1 (fun i=>[2].getD i 0)=22:=by
 obtain ⟨l1,l2,l3⟩:=k16_lab
 have hs:sofT k16 1 (fun i=>[1].getD i 0)=⟨1,2,2,2,fun i=>sfO k16 (fun i=>[1].getD i 0) (i / 2) (i%2)⟩:=by
  unfold sofT
  rw [if_pos l1]
  rfl
 have hm:mseX k16 k16=0∧(mseT k16 k16).n=2:=by
  unfold mseX mseT
  rw [if_pos l3,if_pos l3]
  exact ⟨rfl,rfl⟩
 rw [hs]
 refine ⟨hm.1,k16_ms,hm.2,l1,rfl,rfl,rfl,rfl,?_,?_,l2⟩
 ·have h:=k16_o 0 (by decide)
  rw [if_neg (by decide)] at h
  dsimp only
  rw [show 0 / 2=0 from rfl,show 0%2=0 from rfl,h]
 ·have h:=k16_o 1 (by decide)
  rw [if_pos rfl] at h
  dsimp only
  rw [show 1 / 2=0 from rfl,show 1%2=1 from rfl,h]

theorem readi_one (w:World) (x:Int) (t:TypeId) (h0:-9223372036854775808≤x) (h1:x≤9223372036854775807):ReadsI (some ⟨w.heap.size,0,none⟩) 1 (fun i=>[x].getD i 0) (w.alloc (.cells #[.int .i64 x] t)):=by
 refine ⟨fun i hi=>?_,.inr ⟨w.heap.size,0,rfl,by simp,fun i hi=>?_⟩⟩
 ·obtain rfl:i=0:=by omega
  exact ⟨h0,h1⟩
 ·obtain rfl:i=0:=by omega
  rw [World.cell?_alloc_at (hn:=rfl)]
  rfl

set_option maxRecDepth 100000 in
set_option maxHeartbeats 4000000 in
theorem known16_any (w:World):Calls Tryz.prog 7 #[] w fun e w'=>e=.returned (.bool true)∧Grown w w':=by
 obtain ⟨v1,v2,v3,v4,v5,v6,v7,v8,v9,v10,v11⟩:=k16_vals
 have V1:=Lib.hid v1
 have V2:=Lib.hid v2
 have V3:=Lib.hid v3
 have V4:=Lib.hid v4
 have V5:=Lib.hid v5
 have V6:=Lib.hid v6
 have V7:=Lib.hid v7
 have V8:=Lib.hid v8
 have V9:=Lib.hid v9
 have V10:=Lib.hid v10
 have V11:=Lib.hid v11
 clear v1 v2 v3 v4 v5 v6 v7 v8 v9 v10 v11
 go_enter Tryz.func7,Tryz.ntmps7
 have HZ:=Lib.hid ((reads_lit w [0,0] 29 2 _ rfl (by decide) rfl).grown (Grown.alloc (Grown.refl _) #[.int .i64 1,.int .i64 2,.int .i64 2,.slice (some ⟨w.heap.size,0,none⟩) 2 2] 24))
 have HL:Hid (Lot [.ten (w.heap.size+1) (.int .i64 1) (.int .i64 2) (.int .i64 2) (.slice (some ⟨w.heap.size,0,none⟩) 2 2),.rd (some ⟨w.heap.size,0,none⟩) 2 (fun i=>[0,0].getD i 0),.gr w] ((w.alloc (.cells #[.int .u32 0,.int .u32 0] 29)).alloc (.cells #[.int .i64 1,.int .i64 2,.int .i64 2,.slice (some ⟨w.heap.size,0,none⟩) 2 2] 24))):=
  Lib.hid ((((Lot.nil _).add (f:=.gr w) gr).add (f:=.rd _ 2 _) HZ.out).add (f:=.ten _ _ _ _ _) (ten_new2 w #[.int .u32 0,.int .u32 0] 29 _ _ _ _ _))
 clear HZ
 go_wp2_with fail
 generalize w.heap.size=z at HL ⊢
 generalize (w.alloc _).alloc _=U0 at HL ⊢
 refine (lmse_any 1 2 2 1 2 2 _ _ 2 2 2 2 _ _ _ (by decide) (by decide) (HL.out.rd 1 rfl) (HL.out.rd 1 rfl)).mono ?_
 show ∀ e w',LosE (mseV k16 k16) (mseT k16 k16) (mseX k16 k16) _ e w'→_
 rintro e W1 ⟨xd,xc,he,-,-,-,hW⟩
 rw [V1.out,V2.out,V3.out] at he
 subst he
 obtain ⟨M,hM⟩:∃ M,mseT k16 k16=M:=⟨_,rfl⟩
 rw [hM]
 replace HL:=Lib.hid (HL.out.grown hW)
 clear hW hM
 obtain ⟨p0,p1,p2,p3,p4,-,-,-,-⟩:=HL.out.ten 0 rfl
 go_wp2_with fail
 replace HL:=Lib.hid (((HL.out.grown (Grown.alloc (Grown.refl W1) #[.int .i64 M.R,.int .i64 M.C,.int .i64 M.F,.slice xd 2 xc] 24)).add (f:=.ten W1.heap.size (.int .i64 M.R) (.int .i64 M.C) (.int .i64 M.F) (.slice xd 2 xc)) (ten_new W1 _ _ _ _ _)))
 have HY:=Lib.hid (readi_one (W1.alloc (.cells #[.int .i64 M.R,.int .i64 M.C,.int .i64 M.F,.slice xd 2 xc] 24)) 1 3 (by decide) (by decide))
 replace HL:=Lib.hid (HL.out.grown (Grown.alloc (Grown.refl (W1.alloc (.cells #[.int .i64 M.R,.int .i64 M.C,.int .i64 M.F,.slice xd 2 xc] 24))) #[.int .i64 1] 3))
 simp only [World.size_alloc] at HY
 clear p0 p1 p2 p3 p4
 generalize W1.heap.size=o1 at HL HY ⊢
 generalize (W1.alloc _).alloc _=U1 at HL HY ⊢
 refine (lsoft_any 1 2 2 _ _ 2 2 1 1 _ _ _ (by decide) (by decide) (HL.out.rd 2 rfl) HY.out).mono ?_
 show ∀ e w',LosE (sofV k16 1 (fun i=>[1].getD i 0)) (sofT k16 1 (fun i=>[1].getD i 0)) (labX k16 1 (fun i=>[1].getD i 0)) _ e w'→_
 rintro e W2 ⟨sd,sc,he,hR,-,-,hW⟩
 rw [V4.out,V5.out,V6.out,V7.out,V8.out] at he
 rw [V8.out] at hR
 subst he
 replace HL:=Lib.hid ((HL.out.grown hW).add (f:=.rd sd 2 (sofT k16 1 (fun i=>[1].getD i 0)).g) hR)
 generalize sofV k16 1 (fun i=>[1].getD i 0)=sv at*
 generalize (sofT k16 1 (fun i=>[1].getD i 0)).g=sg at V9 V10 HL
 clear hW hR HY V4 V5 V6 V7 V8
 obtain ⟨p0,p1,p2,p3,p4,-,-,-,-⟩:=HL.out.ten 2 rfl
 go_wp2_with fail
 replace HL:=Lib.hid (((HL.out.grown (Grown.alloc (Grown.refl W2) #[.int .i64 1,.int .i64 2,.int .i64 2,.slice sd 2 sc] 24)).add (f:=.ten W2.heap.size (.int .i64 1) (.int .i64 2) (.int .i64 2) (.slice sd 2 sc)) (ten_new W2 _ _ _ _ _)))
 have HY:=Lib.hid (readi_one (W2.alloc (.cells #[.int .i64 1,.int .i64 2,.int .i64 2,.slice sd 2 sc] 24)) 2 3 (by decide) (by decide))
 replace HL:=Lib.hid (HL.out.grown (Grown.alloc (Grown.refl (W2.alloc (.cells #[.int .i64 1,.int .i64 2,.int .i64 2,.slice sd 2 sc] 24))) #[.int .i64 2] 3))
 simp only [World.size_alloc] at HY
 clear p0 p1 p2 p3 p4
 generalize W2.heap.size=o2 at HL HY ⊢
 generalize (W2.alloc _).alloc _=U2 at HL HY ⊢
 refine (lsoft_any 1 2 2 _ _ 2 2 1 1 _ _ _ (by decide) (by decide) (HL.out.rd 4 rfl) HY.out).mono ?_
 show ∀ e w',LosE (sofV k16 1 (fun i=>[2].getD i 0)) (sofT k16 1 (fun i=>[2].getD i 0)) (labX k16 1 (fun i=>[2].getD i 0)) _ e w'→_
 rintro e W3 ⟨td,tc,he,-,-,-,hW⟩
 rw [V11.out] at he
 subst he
 replace HL:=Lib.hid (HL.out.grown hW)
 generalize sofV k16 1 (fun i=>[2].getD i 0)=tv at*
 generalize sofT k16 1 (fun i=>[2].getD i 0)=tT at*
 have HG:=Lib.hid (HL.out.gr 5 rfl)
 obtain ⟨q0,q1,q2,q3,q4,-,-,-,-⟩:=HL.out.ten 0 rfl
 obtain ⟨r0,r1,r2,r3,r4,-,-,-,-⟩:=HL.out.ten 2 rfl
 have hrd:=HL.out.rd 1 rfl
 obtain ⟨sb,so,rfl,hsl,hsc⟩:∃ b off,sd=some ⟨b,off,none⟩∧b<W3.heap.size∧∀ i,i<2→W3.cell? ⟨b,off+i,none⟩=some (.int .u32 (sg i)):=by
  rcases hrd.2 with h | h
  ·exact absurd h (by decide)
  ·exact h
 have y0:=hsc 0 (by decide)
 have y1:=hsc 1 (by decide)
 rw [V9.out,Nat.add_zero] at y0
 rw [V10.out] at y1
 clear hW HY hrd hsc HL V9 V10 V11 V1 V2 V3
 go_wp2
 go_ret
 exact ⟨rfl,gr⟩
end Go.Proofs.YteifobleigfbaaaGreat
