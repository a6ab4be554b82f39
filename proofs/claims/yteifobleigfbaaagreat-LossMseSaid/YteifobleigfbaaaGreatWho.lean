/- Contracts of package whole: what each call comes to. -/
import Derived.Test.YteifobleigfbaaaGreatDict
import Derived.Test.YteifobleigfbaaaGreatFunMath
import Derived.Test.YteifobleigfbaaaGreatRd
import Derived.Deep.RegionHeld3
import Derived.StillTailTactics
import Derived.KernelRfl
namespace Go.Proofs.YteifobleigfbaaaGreat
open Go.RowKit
set_option linter.unusedVariables false
set_option linter.unusedSimpArgs false

theorem un_one (f:Int):unE f 1=lst f:=by
 rcases fmt_cases f with ⟨rfl,hf⟩ | ⟨rfl,hf⟩ | ⟨⟨c0,c1⟩,hf⟩ <;> obtain ⟨e1,e2,e3,e4,e5,e6,e7,e8,e9⟩:=hf
 ·decide
 ·decide
 ·unfold unE fX;rw [e3,e4];simp

theorem wgreatest_any (neg:Bool) (w:World):
  Calls Tryz.prog 179 #[.bool neg] w fun e w'=>e=.returned (.int .u64 (if neg then 2147483648 else 2147483647))∧w=w':=by
 go_enter Tryz.func179,Tryz.ntmps179
 cases neg
 all_goals
  go_wp2
  go_ret
  exact ⟨rfl,rfl⟩

theorem wreach_any (n:Int) (w:World) (n0:-9223372036854775808≤n) (n1:n≤9223372036854775807):
  Calls Tryz.prog 180 #[.int .i64 n] w fun e w'=>e=.returned (.int .i64 (limI n))∧w=w':=by
 go_enter Tryz.func180,Tryz.ntmps180
 go_wp2
 all_goals
  go_ret
  exact ⟨ret_int (by unfold limI;(repeat' split) <;> simp_all <;> omega),rfl⟩

set_option maxHeartbeats 1000000 in
theorem wfromint_any (f mode v:Int) (w:World) (v0:-9223372036854775808≤v) (v1:v≤9223372036854775807):
  Calls Tryz.prog 62 #[.int .i64 f,.int .i64 mode,.int .i64 v] w fun e w'=>e=fromE f mode v∧Grown w w':=by
 have HX0:=Lib.hid (exc_new w 75)
 have HG0:=Lib.hid (Grown.alloc (Grown.refl w) #[.bool false,.bool false,.bool false,.bool false,.bool false] 75)
 by_cases c:v<0
 ·have HQ:=Lib.hid (show fromE f mode v=PackE f mode true (valN (clampE 0) (-v) false) from (if_pos c))
  have hw:IntKind.u64.wrap (-IntKind.u64.wrap v)=-v:=by rw [IntKind.wrap_u64,IntKind.wrap_u64];omega
  have hw2:IntKind.u64.wrap v=18446744073709551616+v:=by rw [IntKind.wrap_u64];omega
  have hw3:IntKind.u64.wrap (-(18446744073709551616+v))=-v:=by rw [IntKind.wrap_u64];omega
  go_enter Tryz.func62,Tryz.ntmps62
  go_wp2_with fail
  refine (pack_any _ _ _ _ (-v) _ _ (by omega) (by omega) (by omega) (by omega)).mono ?_
  rintro e W1 ⟨he,hW1⟩
  rw [←packE_is] at he
  exact dx_17
 ·have HQ:=Lib.hid (show fromE f mode v=PackE f mode false (valN (clampE 0) v false) from (if_neg c))
  have hw2:IntKind.u64.wrap v=v:=by rw [IntKind.wrap_u64];omega
  go_enter Tryz.func62,Tryz.ntmps62
  go_wp2_with fail
  refine (pack_any _ _ _ _ v _ _ (by omega) (by omega) (by omega) (by omega)).mono ?_
  rintro e W1 ⟨he,hW1⟩
  rw [←packE_is] at he
  exact dx_17

theorem who_five (A:Int):A=5∨(A=4∧(A==5)=false)∨(A=0∧(A==5)=false∧(A==4)=false)∨(A=3∧(A==5)=false∧(A==4)=false)∨((A==0)=false∧(A==3)=false∧(A==4)=false∧(A==5)=false):=by
 simp only [beq_eq_false_iff_ne,ne_eq];omega

theorem sca_cls (f mode a n C:Int) (a0:0≤a) (a1:a≤4294967295) (hC:clsI f a=C):scaE f mode a n=
  if (C==4)=true then Ending.returned (.tuple #[.int .u32 (nanI f),.agg #[.bool false,.bool false,.bool false,.bool false,.bool false]])
  else if (C==5)=true then Ending.returned (.tuple #[.int .u32 (nanI f),.agg #[.bool true,.bool false,.bool false,.bool false,.bool false]])
  else if (C==3)=true then inxE (infI f (fS f a)) false else PackE f mode (fS f a) (valN (clampE (unE f a+limI n)) (unM f a) false):=by
 have hm:=mask_inf f a a0 a1
 have c:=cls_cases f a
 have ht:=topx_pos f
 unfold scaE
 unfold infB at hm
 unfold nanB sigB finI
 rw [hC] at hm c ⊢
 rcases c with ⟨rfl,x,y⟩ | ⟨rfl,x,y⟩ | ⟨rfl,x,y⟩ | ⟨rfl,x,y⟩ | ⟨rfl,x,y⟩ | ⟨rfl,x,y⟩
 ·simp [x,ht]
 ·simp [x,ht]
 ·simp [y]
 ·simp [x,hm rfl]
 ·simp
 ·simp

set_option maxRecDepth 100000 in
set_option maxHeartbeats 4000000 in
theorem wscale_any (f mode a n:Int) (w:World) (a0:0≤a) (a1:a≤4294967295) (n0:-9223372036854775808≤n) (n1:n≤9223372036854775807):
  Calls Tryz.prog 176 #[.int .i64 f,.int .i64 mode,.int .u32 a,.int .i64 n] w fun e w'=>e=scaE f mode a n∧Grown w w':=by
 have HX0:=Lib.hid (exc_new w 75)
 have HG0:=Lib.hid (Grown.alloc (Grown.refl w) #[.bool false,.bool false,.bool false,.bool false,.bool false] 75)
 obtain ⟨e0,e1⟩:=unE_bd f a
 obtain ⟨m0,m1⟩:=unM_bd f a
 obtain ⟨l0,l1⟩:=lim_bd n
 obtain ⟨C,hC⟩:∃ C,clsI f a=C:=⟨_,rfl⟩
 obtain ⟨s,hs⟩:∃ s,fS f a=s:=⟨_,rfl⟩
 obtain ⟨x,hx⟩:∃ x,unE f a=x:=⟨_,rfl⟩
 obtain ⟨p,hp⟩:∃ p,unM f a=p:=⟨_,rfl⟩
 obtain ⟨L,hL⟩:∃ L,limI n=L:=⟨_,rfl⟩
 have HUa:=Lib.hid (show Ending.returned (.tuple #[.bool (fS f a),.int .i64 (unE f a),.int .u64 (unM f a)])=.returned (.tuple #[.bool s,.int .i64 x,.int .u64 p]) by rw [hs,hx,hp])
 have HL:=Lib.hid (show Ending.returned (.int .i64 (limI n))=.returned (.int .i64 L) by rw [hL])
 have HM:=Lib.hid (sca_cls f mode a n C a0 a1 hC)
 have HC:=Lib.hid (show Ending.returned (.int .i64 (clsI f a))=.returned (.int .i64 C) by rw [hC])
 have HMM:=Lib.hid (show scaE f mode a n=if (C==4)=true then Ending.returned (.tuple #[.int .u32 (nanI f),.agg #[.bool false,.bool false,.bool false,.bool false,.bool false]]) else if (C==5)=true then Ending.returned (.tuple #[.int .u32 (nanI f),.agg #[.bool true,.bool false,.bool false,.bool false,.bool false]]) else if (C==3)=true then inxE (infI f s) false else PackE f mode s (valN (clampE (x+L)) p false) by
  rw [HM.out,hs,hx,hp,hL])
 rw [hx] at e0 e1
 rw [hp] at m0 m1
 rw [hL] at l0 l1
 clear HM hC hs hx hp hL
 obtain ⟨xb,x0,x1,x2,x3,x4,z0,z1,z2,z3,z4⟩:=HX0.out
 rcases who_five C with rfl | ⟨rfl,C5⟩ | ⟨rfl,C5,C4⟩ | ⟨rfl,C5,C4⟩ | ⟨C0,C3,C4,C5⟩
 ·have HQ:=Lib.hid (HMM.out.trans (by rw [if_neg (by decide),if_pos (by decide)]))
  exact dx_27
 ·have HQ:=Lib.hid (HMM.out.trans (by rw [if_pos (by decide)]))
  exact dx_27
 ·have HQ:=Lib.hid (HMM.out.trans (by rw [if_neg (by decide),if_neg (by decide),if_neg (by decide)]))
  exact dx_22
 ·have HQ:=Lib.hid (HMM.out.trans (by rw [if_neg (by decide),if_neg (by decide),if_pos (by decide)]))
  clear HMM
  go_enter Tryz.func176,Tryz.ntmps176
  go_wp2_with (first
   | (go_at_call 145;refine (unpack_any _ _ _ a0 a1).mono ?_;rintro e w' ⟨he,dm,rfl⟩;rw [HUa.out] at he;subst he)
   | (go_at_call 100;refine (class_any _ _ _ a0 a1).mono ?_;rintro e w' ⟨he,dm2,rfl⟩;rw [HC.out] at he;subst he)
   | (go_at_call 104;refine (inf_any _ _ _).mono ?_;rintro e w' ⟨rfl,rfl⟩)
   | (go_at_call 103;refine (nan_any _ _).mono ?_;rintro e w' ⟨rfl,rfl⟩)
   | (go_at_call 180;refine (wreach_any _ _ n0 n1).mono ?_;rintro e w' ⟨he,rfl⟩;rw [HL.out] at he;subst he))
  (try simp only [Exit.inBlock,Exit.then])
  refine bodyPost_ret (v:=.tuple #[.int .u32 (infI f s),.agg #[.bool false,.bool false,.bool false,.bool false,.bool false]]) ?_ rfl ⟨(show _=inxE _ _ from rfl).trans HQ.out.symm,?_⟩
  ·rw [results_tmp_cell rfl]
   go_simp
  ·repeat (first | with_reducible exact HG0.out | with_reducible refine Grown.setCell ?_ (by simp <;> omega) _ | with_reducible refine Grown.alloc ?_ _ _ | with_reducible refine grown_more ?_ _ | with_reducible refine Grown.drew ?_)
 ·have HQ:=Lib.hid (HMM.out.trans (by rw [C4,C5,C3,if_neg (by decide),if_neg (by decide),if_neg (by decide)]))
  exact dx_22

set_option maxRecDepth 100000 in
set_option maxHeartbeats 4000000 in
theorem wround_any (f mode a:Int) (w:World) (a0:0≤a) (a1:a≤4294967295):
  Calls Tryz.prog 178 #[.int .i64 f,.int .i64 mode,.int .u32 a] w fun e w'=>e=wholE f mode a∧Grown w w':=by
 have HX0:=Lib.hid (exc_new w 75)
 have HG0:=Lib.hid (Grown.alloc (Grown.refl w) #[.bool false,.bool false,.bool false,.bool false,.bool false] 75)
 obtain ⟨v1,g1,g2,g3,g4,g5,v2,h1,h2,h3,h4,h5,hs1,b0,b1,hs2,hq⟩:=round_ways f mode a a0 a1
 obtain ⟨l0,l1⟩:=lst_bd f
 have ho:=un_one f
 obtain ⟨l,hl⟩:∃ l,lst f=l:=⟨_,rfl⟩
 rw [hl] at hs1 hs2 l0 l1 ho
 have hneg:wrap64 (-l)=-l:=by unfold wrap64;omega
 obtain ⟨so,hso⟩:∃ so,fS f 1=so:=⟨_,rfl⟩
 obtain ⟨mo,hmo⟩:∃ mo,unM f 1=mo:=⟨_,rfl⟩
 have HO:=Lib.hid (show Ending.returned (.tuple #[.bool (fS f 1),.int .i64 (unE f 1),.int .u64 (unM f 1)])=.returned (.tuple #[.bool so,.int .i64 l,.int .u64 mo]) by rw [hso,ho,hmo])
 have HS1:=Lib.hid hs1
 have HS2:=Lib.hid hs2
 have HQ:=Lib.hid hq
 clear hs1 hs2 hq ho hl hso hmo
 obtain ⟨xb,x0,x1,x2,x3,x4,z0,z1,z2,z3,z4⟩:=HX0.out
 go_enter Tryz.func178,Tryz.ntmps178
 go_wp2_with (go_at_call 145;refine (unpack_any _ _ _ (by omega) (by omega)).mono ?_;rintro e w' ⟨he,dm,rfl⟩;rw [HO.out] at he;subst he)
 refine (wscale_any _ _ _ _ _ a0 a1 (by omega) (by omega)).mono ?_
 rintro e W1 ⟨he,hW1⟩
 rw [HS1.out] at he
 subst he
 have HG1:=Lib.hid (show Grown w W1 from grown_trans (by repeat (first | with_reducible exact HG0.out | with_reducible refine Grown.setCell ?_ (by simp <;> omega) _ | with_reducible refine Grown.alloc ?_ _ _ | with_reducible refine grown_more ?_ _ | with_reducible refine Grown.drew ?_)) hW1)
 have HE1:=Lib.hid (show ExcAt w.heap.size W1 from HX0.out.grown (grown_trans (by repeat (first | with_reducible exact Grown.refl _ | with_reducible refine Grown.setCell ?_ (by simp <;> omega) _ | with_reducible refine Grown.alloc ?_ _ _ | with_reducible refine grown_more ?_ _ | with_reducible refine Grown.drew ?_)) hW1))
 clear hW1 xb x0 x1 x2 x3 x4 z0 z1 z2 z3 z4
 obtain ⟨xb,x0,x1,x2,x3,x4,z0,z1,z2,z3,z4⟩:=HE1.out
 go_wp2_with fail
 refine (wscale_any _ _ _ _ _ b0 b1 (by omega) (by omega)).mono ?_
 rintro e W2 ⟨he,hW2⟩
 rw [HS2.out] at he
 subst he
 have HG2:=Lib.hid (show Grown w W2 from grown_trans (by repeat (first | with_reducible exact HG1.out | with_reducible refine Grown.setCell ?_ (by simp <;> omega) _ | with_reducible refine Grown.alloc ?_ _ _ | with_reducible refine grown_more ?_ _ | with_reducible refine Grown.drew ?_)) hW2)
 have HE2:=Lib.hid (show ExcAt w.heap.size W2 from HE1.out.grown (grown_trans (by repeat (first | with_reducible exact Grown.refl _ | with_reducible refine Grown.setCell ?_ (by simp <;> omega) _ | with_reducible refine Grown.alloc ?_ _ _ | with_reducible refine grown_more ?_ _ | with_reducible refine Grown.drew ?_)) hW2))
 have HF:=Lib.hid (grown_new5 hW2)
 clear hW2 xb x0 x1 x2 x3 x4 z0 z1 z2 z3 z4
 obtain ⟨xb,x0,x1,x2,x3,x4,z0,z1,z2,z3,z4⟩:=HE2.out
 obtain ⟨yb,y0,y1,y2,y3,y4⟩:=HF.out
 have hbne:¬W1.heap.size=w.heap.size:=by have:=HE1.out.1;omega
 go_wp2
 refine wp_region_still_tail 7 (by kernel_rfl) (by kernel_rfl) ?_
 simp only [List.take_succ_cons,List.take_zero,List.drop_succ_cons,List.drop_zero]
 change wpStill _ _ (World.drew _) (fun a'=>wpList _ _ _ _ a' (World.drew _)) _ _
 repeat (first | still_step)
 try refine wpStill_nil ?_
 go_wp2
 (try simp only [Exit.inBlock,Exit.then])
 refine bodyPost_ret ?_ rfl ⟨HQ.out.symm,?_⟩
 ·rw [results_tmp_cell rfl]
  go_simp
 ·repeat (first | with_reducible exact HG2.out | with_reducible refine Grown.setCell ?_ (by simp <;> omega) _ | with_reducible refine Grown.alloc ?_ _ _ | with_reducible refine grown_more ?_ _ | with_reducible refine Grown.drew ?_)

set_option maxRecDepth 100000 in
set_option maxHeartbeats 4000000 in
theorem wtoint_any (f mode a:Int) (w:World) (a0:0≤a) (a1:a≤4294967295):
  Calls Tryz.prog 174 #[.int .i64 f,.int .i64 mode,.int .u32 a] w fun e w'=>e=toE f mode a∧Grown w w':=by
 have HX0:=Lib.hid (exc_new w 75)
 have HG0:=Lib.hid (Grown.alloc (Grown.refl w) #[.bool false,.bool false,.bool false,.bool false,.bool false] 75)
 obtain ⟨v,g1,g5,hw,b0,b1,hfin,hways⟩:=to_ways f mode a a0 a1
 obtain ⟨e0,e1⟩:=unE_bd f v
 obtain ⟨m0,m1⟩:=unM_bd f v
 obtain ⟨z0',z1'⟩:=shV_bd (unM f v) (-unE f v) m0 (by omega)
 obtain ⟨V,hV⟩:∃ V,finI f a=V:=⟨_,rfl⟩
 obtain ⟨s,hs⟩:∃ s,fS f v=s:=⟨_,rfl⟩
 obtain ⟨x,hx⟩:∃ x,unE f v=x:=⟨_,rfl⟩
 obtain ⟨p,hp⟩:∃ p,unM f v=p:=⟨_,rfl⟩
 obtain ⟨N,hN⟩:∃ N:Int,(whN f mode a:Int)=N:=⟨_,rfl⟩
 obtain ⟨Z,hZ⟩:∃ Z,shV (unM f v) (-unE f v)=Z:=⟨_,rfl⟩
 obtain ⟨O,hO⟩:∃ O,shO (unM f v) (-unE f v)=O:=⟨_,rfl⟩
 have hways2:V=true→g1=false∧g5=whX f a∧s=fS f a∧((O=true∧18446744073709551616≤N)∨(O=false∧N=Z)):=fun h=>by
  obtain ⟨c1,c2,c3,c4⟩:=hways (hV.trans h)
  rw [hO,hZ] at c4
  rw [←hN]
  refine ⟨c1,c2,by rw [←hs,c3],?_⟩
  rcases c4 with ⟨d1,d2⟩ | ⟨d1,d2⟩
  ·exact .inl ⟨d1,by omega⟩
  ·exact .inr ⟨d1,d2.symm⟩
 have HM:=Lib.hid (show toE f mode a=if (!V || decide (2147483648<N) || (decide (N=2147483648)&&!fS f a))=true then Ending.returned (.tuple #[.int .i32 (-2147483648),.agg #[.bool true,.bool false,.bool false,.bool false,.bool false]])
   else Ending.returned (.tuple #[.int .i32 (if fS f a then -N else N),.agg #[.bool false,.bool false,.bool false,.bool false,.bool (whX f a)]]) by
  have e1:decide (2147483648<whN f mode a)=decide (2147483648<N):=by rw [←hN,Bool.eq_iff_iff];simp;omega
  have e2:decide (whN f mode a=2147483648)=decide (N=2147483648):=by rw [←hN,Bool.eq_iff_iff];simp;omega
  unfold toE noInt;rw [hV,hN,e1,e2])
 have HU:=Lib.hid (show Ending.returned (.tuple #[.bool (fS f v),.int .i64 (unE f v),.int .u64 (unM f v)])=.returned (.tuple #[.bool s,.int .i64 x,.int .u64 p]) by rw [hs,hx,hp])
 have HSh:=Lib.hid (show Ending.returned (.tuple #[.int .u64 (shV p (-x)),.bool (shO p (-x))])=.returned (.tuple #[.int .u64 Z,.bool O]) by rw [←hp,←hx,hZ,hO])
 have HF:=Lib.hid (show Ending.returned (.bool (finI f v))=.returned (.bool V) by rw [hfin,hV])
 rw [hx] at e0 e1
 rw [hp] at m0 m1
 rw [hZ] at z0' z1'
 have HW:=Lib.hid hw
 have hnx:wrap64 (-x)=-x:=by unfold wrap64;omega
 clear hw hways hfin hV hs hx hp hN hZ hO
 obtain ⟨xb,x0,x1,x2,x3,x4,z0,z1,z2,z3,z4⟩:=HX0.out
 cases V
 case false=>
  have HQ:=Lib.hid (HM.out.trans (if_pos rfl))
  clear HM hways2
  exact dx_10
 case true=>
  obtain ⟨rfl,hX,hS,hor⟩:=hways2 rfl
  rw [←hX,←hS] at HM
  clear hX hS hways2
  rcases hor with ⟨rfl,hN⟩ | ⟨rfl,rfl⟩
  ·have HQ:=Lib.hid (HM.out.trans (if_pos (by simp;omega)))
   clear HM
   exact dx_10
  ·cases s
   ·by_cases c:2147483647<N
    ·have HQ:=Lib.hid (HM.out.trans (if_pos (by simp;omega)))
     clear HM
     exact dx_10
    ·have HQ:=Lib.hid (HM.out.trans (if_neg (by simp;omega)))
     clear HM
     have hi:IntKind.i32.wrap N=N:=by rw [IntKind.wrap_i32];omega
     exact dx_20
   ·by_cases c:2147483648<N
    ·have HQ:=Lib.hid (HM.out.trans (if_pos (by simp;omega)))
     clear HM
     exact dx_10
    ·have HQ:=Lib.hid (HM.out.trans (if_neg (by simp;omega)))
     clear HM
     have hi:IntKind.i32.wrap (-N)=-N:=by rw [IntKind.wrap_i32];omega
     exact dx_20
end Go.Proofs.YteifobleigfbaaaGreat
