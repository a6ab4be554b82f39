/- The walk of LossMse. (Written by gen72.py.) -/
import Derived.Test.YteifobleigfbaaaGreatLosKnown
import Derived.Test.YteifobleigfbaaaGreatLosMse
import Derived.Test.YteifobleigfbaaaGreatSeatT
import Derived.Test.YteifobleigfbaaaGreatActM
import Derived.Deep.RegionHeld3
namespace Go.Proofs.YteifobleigfbaaaGreat
open Go Go.RowKit
set_option linter.unusedVariables false
set_option linter.unusedSimpArgs false

theorem four_more (m:Int) (m0:0≤m):∃ x X:Nat,m%4=(x:Int)∧(x:Int)+1=(X:Int)∧1≤X∧X≤4∧IntKind.i64.wrap ((x:Int)+1)=(X:Int):=by
 refine ⟨(m%4).toNat,(m%4).toNat+1,by omega,by omega,by omega,by omega,?_⟩
 rw [IntKind.wrap_i64];omega

theorem allB_step (k:Nat) (p:Nat→Bool):allB (k+1) p=(allB k p&&p k):=by
 unfold allB
 rw [List.range_succ,List.all_append]
 simp

set_option maxRecDepth 100000 in
set_option maxHeartbeats 4000000 in
theorem lmsewalk_go (w:World) (m n:Int) (ld rd:Option Addr) (ln lc rn rc:Nat) (lg rg:Nat→Int) (hl:ln≤30) (hr:rn≤30) (Rl:Reads ld ln lg w) (Rr:Reads rd rn rg w) (m0:0≤m) (m1:m≤255) (n0:0≤n) (n1:n≤255):
  Calls Tryz.prog 5 #[.int .u8 m,.int .u8 n,.slice ld ln lc,.slice rd rn rc] w fun e w'=>e=.returned (.bool true)∧Grown w w':=by
 have t1:¬(30:Int)<(ln:Int):=by omega
 have t2:¬(30:Int)<(rn:Int):=by omega
 have HL:=Lib.hid ((((Lot.nil w).add (f:=.gr w) (Grown.refl w)).add (f:=.rd rd rn rg) Rr).add (f:=.rd ld ln lg) Rl)
 obtain ⟨x,X,hx,hx2,lx0,lx,hwx⟩:=four_more m m0
 obtain ⟨y,Y,hy,hy2,ly0,ly,hwy⟩:=four_more n n0
 obtain ⟨M,hM⟩:∃ M,X*Y=M:=⟨_,rfl⟩
 have X1:Hid ((X:Int)*(Y:Int)=(M:Int)):=Lib.hid (by rw [←hM,Int.natCast_mul])
 have lM:M≤16:=by have:=Nat.mul_le_mul lx ly;omega
 have lM0:1≤M:=by have:=Nat.mul_le_mul lx0 ly0;omega
 have HM:=Lib.hid hM.symm
 clear hM Rl Rr
 go_enter Tryz.func5,Tryz.ntmps5
 go_wp2_with fail
 refine (known16_any _).mono ?_
 rintro e W1 ⟨rfl,hW⟩
 replace HL:=Lib.hid (HL.out.grown hW)
 clear hW
 go_wp2_with fail
 refine (seatt_any X Y 2 M ld ln lc lg true _ (by omega) (HL.out.rd 0 rfl) (by omega) (by omega) (by omega) (by omega) X1.out).mono ?_
 rintro e W2 ⟨zd,zc,zg,rfl,hR,-,hW,hm,-⟩
 have HZM:=Lib.hid (show ∀ i,i<M→∃ k,0≤k∧zg i=milI 2 k from fun i hi=>by obtain ⟨k,k0,_,hk⟩:=hm rfl i hi;exact ⟨k,k0,hk⟩)
 replace HL:=Lib.hid ((HL.out.grown hW).add (f:=.rd zd M zg) hR)
 clear hR hW hm
 replace HL:=Lib.hid ((HL.out.grown (Grown.alloc (Grown.refl W2) #[.int .i64 X,.int .i64 Y,.int .i64 2,.slice zd M zc] 24)).add (f:=.ten W2.heap.size (.int .i64 X) (.int .i64 Y) (.int .i64 2) (.slice zd M zc)) (ten_new W2 _ _ _ _ _))
 go_wp2_with fail
 generalize W2.alloc _=W3 at HL ⊢
 generalize W2.heap.size=oz at HL ⊢
 obtain ⟨p0,p1,p2,p3,p4,-,-,-,-⟩:=HL.out.ten 0 rfl
 go_wp2_with fail
 clear p0 p1 p2 p3 p4
 refine (seatt_any X Y 2 M rd rn rc rg true _ (by omega) (HL.out.rd 3 rfl) (by omega) (by omega) (by omega) (by omega) X1.out).mono ?_
 rintro e W4 ⟨td,tc,tg,rfl,hR,-,hW,hm,-⟩
 have HTM:=Lib.hid (show ∀ i,i<M→∃ k,0≤k∧tg i=milI 2 k from fun i hi=>by obtain ⟨k,k0,_,hk⟩:=hm rfl i hi;exact ⟨k,k0,hk⟩)
 replace HL:=Lib.hid ((HL.out.grown hW).add (f:=.rd td M tg) hR)
 clear hR hW hm
 obtain ⟨p0,p1,p2,p3,p4,-,-,-,-⟩:=HL.out.ten 1 rfl
 go_wp2_with fail
 clear p0 p1 p2 p3 p4
 replace HL:=Lib.hid ((HL.out.grown (Grown.alloc (Grown.refl W4) #[.int .i64 X,.int .i64 Y,.int .i64 2,.slice td M tc] 24)).add (f:=.ten W4.heap.size (.int .i64 X) (.int .i64 Y) (.int .i64 2) (.slice td M tc)) (ten_new W4 _ _ _ _ _))
 generalize W4.alloc _=W5 at HL ⊢
 generalize W4.heap.size=ot at HL ⊢
 have right:∀ g:Nat→Int,(∀ i,i<M→∃ k,0≤k∧g i=milI 2 k)→rightB X Y 2 M g=true:=fun g hg=>ten_right (by omega) (by omega) (by decide) HM.out (fun i hi=>by
  obtain ⟨k,k0,hk⟩:=hg i hi
  rw [hk];exact mil_lea 2 k k0)
 have HB:Hid (msB ⟨X,Y,2,M,zg⟩ ⟨X,Y,2,M,tg⟩=true):=Lib.hid (by
  unfold msB PT.right
  dsimp only
  rw [right zg HZM.out,right tg HTM.out]
  simp)
 clear right
 obtain ⟨hz1,hz2⟩:=mse_zero ⟨X,Y,2,M,zg⟩ ⟨X,Y,2,M,tg⟩ ⟨rfl,rfl⟩ M rfl lM0 lM HB.out (by show (X:Int)≠0;omega) HZM.out HTM.out
 have HZ2:=Lib.hid hz2
 have HX:Hid (mseX ⟨X,Y,2,M,zg⟩ ⟨X,Y,2,M,tg⟩=0):=Lib.hid (by unfold mseX;rw [if_pos HB.out])
 have hTT:mseT ⟨X,Y,2,M,zg⟩ ⟨X,Y,2,M,tg⟩=⟨X,Y,2,M,(mseT ⟨X,Y,2,M,zg⟩ ⟨X,Y,2,M,tg⟩).g⟩:=by unfold mseT;rw [if_pos HB.out]
 have HEND:=Lib.hid (show (mseV ⟨X,Y,2,M,zg⟩ ⟨X,Y,2,M,tg⟩==0)=allB M (fun i=>cmpC 2 (zg i) (tg i)==0) by
  rw [Bool.eq_iff_iff]
  constructor
  ·intro h
   exact allB_yes fun i hi=>beq_iff_eq.2 (hz1.1 (beq_iff_eq.1 h) i hi)
  ·intro h
   exact beq_iff_eq.2 (hz1.2 fun i hi=>beq_iff_eq.1 (allB_of h hi)))
 clear hz1 hz2
 refine (lmse_any X Y 2 X Y 2 zd td M M zc tc zg tg _ (by omega) (by omega) (HL.out.rd 3 rfl) (HL.out.rd 1 rfl)).mono ?_
 rintro e W6 ⟨gd,gc,he,hR,-,-,hW⟩
 rw [hTT,HX.out] at he
 rw [hTT] at hR
 dsimp only at he hR
 generalize (mseT ⟨X,Y,2,M,zg⟩ ⟨X,Y,2,M,tg⟩).g=gg at*
 generalize mseV ⟨X,Y,2,M,zg⟩ ⟨X,Y,2,M,tg⟩=V at*
 clear hTT
 subst he
 have HGB:=Lib.hid hR.1
 have HZB:=Lib.hid (HL.out.rd 3 rfl).1
 have HTB:=Lib.hid (HL.out.rd 1 rfl).1
 replace HL:=Lib.hid ((HL.out.grown hW).add (f:=.rd gd M gg) hR)
 clear hR hW
 obtain ⟨p0,p1,p2,p3,p4,-,-,-,-⟩:=HL.out.ten 3 rfl
 go_wp2_with fail
 clear p0 p1 p2 p3 p4
 replace HL:=Lib.hid ((HL.out.grown (Grown.alloc (Grown.refl W6) #[.int .i64 X,.int .i64 Y,.int .i64 2,.slice gd M gc] 24)).add (f:=.ten W6.heap.size (.int .i64 X) (.int .i64 Y) (.int .i64 2) (.slice gd M gc)) (ten_new W6 _ _ _ _ _))
 generalize W6.alloc _=W7 at HL ⊢
 generalize W6.heap.size=og at HL ⊢
 go_loopw [14,15,16,17,18,19] (fun al i _ _ _ _ wr=>∃ k:Nat,k≤M∧i=.int .i64 k∧al=.bool (allB k (fun i=>cmpC 2 (zg i) (tg i)==0))∧Hid (Lot [.ten og (.int .i64 X) (.int .i64 Y) (.int .i64 2) (.slice gd M gc),.rd gd M gg,.ten ot (.int .i64 X) (.int .i64 Y) (.int .i64 2) (.slice td M tc),.rd td M tg,.ten oz (.int .i64 X) (.int .i64 Y) (.int .i64 2) (.slice zd M zc),.rd zd M zg,.rd ld ln lg,.rd rd rn rg,.gr w] wr)) (fun _ i _ _ _ _ _=>M - (intOf i).toNat)
 case atStart=>exact ⟨0,Nat.zero_le _,rfl,rfl,HL⟩
 case round=>
  rename World=>wr
  clear HL
  obtain ⟨k,hk,rfl,rfl,HL⟩:=hrel
  obtain ⟨p0,p1,p2,p3,p4,-,-,-,-⟩:=HL.out.ten 4 rfl
  by_cases hlt:k<M
  ·obtain ⟨bz,zo,rfl,-,-⟩:∃ b off,zd=some ⟨b,off,none⟩∧b<wr.heap.size∧∀ i,i<M→wr.cell? ⟨b,off+i,none⟩=some (.int .u32 (zg i)):=by
    rcases (HL.out.rd 5 rfl).2 with h | h
    ·omega
    ·exact h
   obtain ⟨bt,to,rfl,-,-⟩:∃ b off,td=some ⟨b,off,none⟩∧b<wr.heap.size∧∀ i,i<M→wr.cell? ⟨b,off+i,none⟩=some (.int .u32 (tg i)):=by
    rcases (HL.out.rd 3 rfl).2 with h | h
    ·omega
    ·exact h
   obtain ⟨bg,go,rfl,-,-⟩:∃ b off,gd=some ⟨b,off,none⟩∧b<wr.heap.size∧∀ i,i<M→wr.cell? ⟨b,off+i,none⟩=some (.int .u32 (gg i)):=by
    rcases (HL.out.rd 1 rfl).2 with h | h
    ·omega
    ·exact h
   obtain ⟨l1,y1⟩:=read_at (HL.out.rd 5 rfl) hlt
   obtain ⟨l2,y2⟩:=read_at (HL.out.rd 3 rfl) hlt
   obtain ⟨l3,y3⟩:=read_at (HL.out.rd 1 rfl) hlt
   obtain ⟨a0,a1⟩:=HZB.out k hlt
   obtain ⟨b0,b1⟩:=HTB.out k hlt
   obtain ⟨c0,c1⟩:=HGB.out k hlt
   have HW:cmpC 2 (zg k) (tg k)=cmpC 2 (gg k) 0:=HZ2.out k hlt
   have HA:allB (k+1) (fun i=>cmpC 2 (zg i) (tg i)==0)=(allB k (fun i=>cmpC 2 (zg i) (tg i)==0)&&(cmpC 2 (zg k) (tg k)==0)):=allB_step k _
   obtain ⟨a,ha⟩:∃ a,zg k=a:=⟨_,rfl⟩
   obtain ⟨b,hb⟩:∃ b,tg k=b:=⟨_,rfl⟩
   obtain ⟨c,hc⟩:∃ c,gg k=c:=⟨_,rfl⟩
   rw [ha] at y1 a0 a1 HW HA
   rw [hb] at y2 b0 b1 HW HA
   rw [hc] at y3 c0 c1 HW
   obtain ⟨Cc,hCc⟩:∃ C,cmpC 2 a b=C:=⟨_,rfl⟩
   rw [hCc] at HW HA
   obtain ⟨O1,hO1⟩:∃ O,cmpO 2 a b=O:=⟨_,rfl⟩
   obtain ⟨O2,hO2⟩:∃ O,cmpO 2 c 0=O:=⟨_,rfl⟩
   obtain ⟨Al,hAl⟩:∃ A,allB k (fun i=>cmpC 2 (zg i) (tg i)==0)=A:=⟨_,rfl⟩
   rw [hAl] at HA ⊢
   have HC1:=Lib.hid (show Ending.returned (.tuple #[.int .i64 (cmpC 2 a b),.bool (cmpO 2 a b)])=.returned (.tuple #[.int .i64 Cc,.bool O1]) by rw [hCc,hO1])
   have HC2:=Lib.hid (show Ending.returned (.tuple #[.int .i64 (cmpC 2 c 0),.bool (cmpO 2 c 0)])=.returned (.tuple #[.int .i64 Cc,.bool O2]) by rw [←HW,hO2])
   have HA:=Lib.hid HA
   replace HL:=Lib.hid (((HL.out.add (f:=.cell bt (to+k) (.int .u32 b)) ⟨l2,y2⟩).add (f:=.cell bz (zo+k) (.int .u32 a)) ⟨l1,y1⟩).add (f:=.cell bg (go+k) (.int .u32 c)) ⟨l3,y3⟩)
   have hcc:(Cc != Cc)=false:=by simp
   clear ha hb hc hCc hO1 hO2 hAl HW y3 l3
   obtain ⟨q0,q1,q2,q3,q4,-,-,-,-⟩:=HL.out.ten 5 rfl
   go_wp2_with fail
   go_region_held3 (fun w'=>w'.cell? ⟨oz,3,none⟩=some (.slice (some ⟨bz,zo,none⟩) M zc)∧w'.cell? ⟨ot,3,none⟩=some (.slice (some ⟨bt,to,none⟩) M tc)∧w'.cell? ⟨bz,zo+k,none⟩=some (.int .u32 a)∧w'.cell? ⟨bt,to+k,none⟩=some (.int .u32 b)) (go_keep) (first
    | (go_at_call 24;(with_reducible refine (rcompare_any 2 a b _ a0 a1 b0 b1).mono ?_);rintro e V1 ⟨he,hW⟩;rw [HC1.out] at he;subst he;replace HL:=Lib.hid (HL.out.grown (grown_trans gr hW));clear hW p0 p1 p2 p3 p4 q0 q1 q2 q3 q4 y1 y2 l1 l2;obtain ⟨p0,p1,p2,p3,p4,-,-,-,-⟩:=HL.out.ten 7 rfl;obtain ⟨q0,q1,q2,q3,q4,-,-,-,-⟩:=HL.out.ten 5 rfl;have y1:=HL.out.cell 1 rfl;have y2:=HL.out.cell 2 rfl;have l1:=HL.out.lies 1 rfl;have l2:=HL.out.lies 2 rfl))
   clear q0 q1 q2 q3 q4 p0 p1 p2 p3 p4 y1 y2 l1 l2
   obtain ⟨r0,r1,r2,r3,r4,-,-,-,-⟩:=HL.out.ten 3 rfl
   have y3:=HL.out.cell 0 rfl
   go_wp2_with fail
   refine (rcompare_any 2 c 0 _ c0 c1 (by decide) (by decide)).mono ?_
   rintro e V2 ⟨he,hW⟩
   rw [HC2.out] at he
   subst he
   replace HL:=Lib.hid (HL.out.grown hW)
   clear hW r0 r1 r2 r3 r4 y3
   cases Al
   ·go_wp2
    go_roundw
    case rel=>exact ⟨k+1,by omega,by go_num,by rw [HA.out];rfl,Lib.hid (fun f hf=>HL.out f (List.mem_cons_of_mem _ (List.mem_cons_of_mem _ (List.mem_cons_of_mem _ hf))))⟩
    case measure=>simp [intOf];omega
   ·go_wp2
    go_roundw
    case rel=>exact ⟨k+1,by omega,by go_num,by rw [HA.out];rfl,Lib.hid (fun f hf=>HL.out f (List.mem_cons_of_mem _ (List.mem_cons_of_mem _ (List.mem_cons_of_mem _ hf))))⟩
    case measure=>simp [intOf];omega
  ·obtain rfl:k=M:=by omega
   have HG:=Lib.hid (HL.out.gr 8 rfl)
   have hE:=HEND.out
   obtain ⟨Al,hAl⟩:∃ A,allB k (fun i=>cmpC 2 (zg i) (tg i)==0)=A:=⟨_,rfl⟩
   rw [hAl] at hE ⊢
   clear hAl
   cases Al
   ·go_wp2
    go_ret
    exact ⟨rfl,HG.out⟩
   ·go_wp2
    go_ret
    exact ⟨rfl,HG.out⟩

theorem lmsewalk_end (w:World) (m n:Int) (ld rd:Option Addr) (ln lc rn rc:Nat) (lg rg:Nat→Int) (h:¬(ln≤30∧rn≤30)):
  Calls Tryz.prog 5 #[.int .u8 m,.int .u8 n,.slice ld ln lc,.slice rd rn rc] w fun e w'=>e=.returned (.bool true)∧Grown w w':=by
 by_cases c:ln≤30
 ·have t1:¬(30:Int)<(ln:Int):=by omega
  have t2:(30:Int)<(rn:Int):=by omega
  clear h
  go_enter Tryz.func5,Tryz.ntmps5
  go_wp2_with fail
  refine (known16_any _).mono ?_
  rintro e W1 ⟨rfl,hW⟩
  have HG:=Lib.hid hW
  clear hW
  go_wp2
  go_ret
  exact ⟨rfl,HG.out⟩
 ·have t1:(30:Int)<(ln:Int):=by omega
  clear h
  go_enter Tryz.func5,Tryz.ntmps5
  go_wp2_with fail
  refine (known16_any _).mono ?_
  rintro e W1 ⟨rfl,hW⟩
  have HG:=Lib.hid hW
  clear hW
  go_wp2
  go_ret
  exact ⟨rfl,HG.out⟩

theorem lmse_walk (W:World) (m:Int) (wm:(Lit.int .u8 m).wf=true) (n:Int) (wn:(Lit.int .u8 n).wf=true) (l:Value) (Ll:ListIn l W) (r:Value) (Lr:ListIn r W):
  Calls Tryz.prog 5 #[.int .u8 m,.int .u8 n,l,r] W fun e w'=>e=.returned (.bool true)∧Grown W w':=by
 obtain ⟨ld,ln,lc,lg,rfl,_,_,_,l4⟩:=Ll
 obtain ⟨rd,rn,rc,rg,rfl,_,_,_,r4⟩:=Lr
 obtain ⟨m0,m1⟩:=bounds_u8 wm
 obtain ⟨n0,n1⟩:=bounds_u8 wn
 by_cases h:ln≤30∧rn≤30
 ·exact lmsewalk_go W m n ld rd ln lc rn rc lg rg h.1 h.2 l4 r4 m0 m1 n0 n1
 ·exact lmsewalk_end W m n ld rd ln lc rn rc lg rg h
end Go.Proofs.YteifobleigfbaaaGreat
