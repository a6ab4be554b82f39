/- The walk of LossRefuses. (Written by gen69.py.) -/
import Derived.Test.YteifobleigfbaaaGreatLosKnown
import Derived.Test.YteifobleigfbaaaGreatLosFrame
import Derived.Test.YteifobleigfbaaaGreatSeatT
import Derived.Test.YteifobleigfbaaaGreatActM
import Derived.Deep.RegionHeld3
import Derived.BigQuiet
namespace Go.Proofs.YteifobleigfbaaaGreat
open Go Go.RowKit
set_option linter.unusedVariables false
set_option linter.unusedSimpArgs false

theorem five_rem (m:Int) (m0:0≤m):∃ x:Nat,m%5=(x:Int)∧x≤4:=⟨(m%5).toNat,by omega,by omega⟩

def lwB (C:Int) (k:Nat) (y:Nat→Int):Int:=if labI C k y then 0 else 22

theorem lwB_next (C:Int) (k:Nat) (y:Nat→Int):lwB C (k+1) y=if 0≤y k∧y k<C then lwB C k y else 22:=by
 unfold lwB labI allB
 rw [List.range_succ,List.all_append]
 by_cases c:0≤y k∧y k<C
 ·rw [if_pos c];simp [c]
 ·rw [if_neg c];simp [c]

set_option maxRecDepth 100000 in
set_option maxHeartbeats 4000000 in
theorem lrefuses_go (w:World) (m n:Int) (yd ld:Option Addr) (yn yc ln lc:Nat) (y lg:Nat→Int) (hy:yn≤8) (hl:ln≤20) (Ry:ReadsI yd yn y w) (Rl:Reads ld ln lg w) (m0:0≤m) (m1:m≤255) (n0:0≤n) (n1:n≤255):
  Calls Tryz.prog 6 #[.int .u8 m,.int .u8 n,.slice yd yn yc,.slice ld ln lc] w fun e w'=>e=.returned (.bool true)∧Grown w w':=by
 have t1:¬(8:Int)<(yn:Int):=by omega
 have t2:¬(20:Int)<(ln:Int):=by omega
 have HL:=Lib.hid ((((Lot.nil w).add (f:=.gr w) (Grown.refl w)).add (f:=.rd ld ln lg) Rl).add (f:=.ri yd yn y) Ry)
 obtain ⟨x,hx,lx⟩:=five_rem m m0
 obtain ⟨z,hz,lz⟩:=five_rem n n0
 obtain ⟨M,hM⟩:∃ M,x*z=M:=⟨_,rfl⟩
 have lM:M≤16:=by have:=Nat.mul_le_mul lx lz;omega
 have X1:Hid ((x:Int)*(z:Int)=(M:Int)):=Lib.hid (by rw [←hM,Int.natCast_mul])
 have HM:=Lib.hid hM.symm
 have HYB:=Lib.hid Ry.1
 clear hM Rl Ry
 go_enter Tryz.func6,Tryz.ntmps6
 go_wp2_with fail
 refine (known16_any _).mono ?_
 rintro e W1 ⟨rfl,hW⟩
 replace HL:=Lib.hid (HL.out.grown hW)
 clear hW
 go_wp2_with fail
 refine (seatt_any x z 0 M ld ln lc lg true _ (by omega) (HL.out.rd 1 rfl) (by omega) (by omega) (by omega) (by omega) X1.out).mono ?_
 rintro e W2 ⟨zd,zc,zg,rfl,hR,-,hW,hm,-⟩
 have hR2:rightB x z 0 M zg=true:=ten_right (by omega) (by omega) (by decide) HM.out (fun i hi=>by
  obtain ⟨k,k0,_,hk⟩:=hm rfl i hi
  rw [hk];exact mil_lea 0 k k0)
 have HR2:=Lib.hid hR2
 replace HL:=Lib.hid ((HL.out.grown hW).add (f:=.rd zd M zg) hR)
 clear hR hW hm hR2
 replace HL:=Lib.hid ((HL.out.grown (Grown.alloc (Grown.refl W2) #[.int .i64 x,.int .i64 z,.int .i64 0,.slice zd M zc] 24)).add (f:=.ten W2.heap.size (.int .i64 x) (.int .i64 z) (.int .i64 0) (.slice zd M zc)) (ten_new W2 _ _ _ _ _))
 go_wp2_with fail
 generalize W2.alloc _=W3 at HL ⊢
 generalize W2.heap.size=oz at HL ⊢
 try
  obtain ⟨p0,p1,p2,p3,p4,-,-,-,-⟩:=HL.out.ten 0 rfl
  go_wp2_with fail
  clear p0 p1 p2 p3 p4
 go_loopw [10,11] (fun s i wr=>∃ k:Nat,k≤yn∧i=.int .i64 k∧s=.int .i64 (lwB z k y)∧Hid (Lot [.ten oz (.int .i64 x) (.int .i64 z) (.int .i64 0) (.slice zd M zc),.rd zd M zg,.ri yd yn y,.rd ld ln lg,.gr w] wr)) (fun _ i _=>yn - (intOf i).toNat)
 case atStart=>exact ⟨0,Nat.zero_le _,rfl,rfl,HL⟩
 case round=>
  rename World=>wr
  clear HL
  obtain ⟨k,hk,rfl,rfl,HL⟩:=hrel
  obtain ⟨p0,p1,p2,p3,p4,-,-,-,-⟩:=HL.out.ten 0 rfl
  by_cases hlt:k<yn
  ·obtain ⟨b,off,rfl,hbl,hyc⟩:=readi_at (HL.out.ri 2 rfl) hlt
   have L1:∀ d:Later wr,d.w.cell? ⟨b,off+k,none⟩=some (.int .i64 (y k)):=fun d=>grown_cell d.g (hyc k hlt) hbl
   have L2:∀ d:Later wr,d.w.cell? ⟨oz,1,none⟩=some (.int .i64 z):=fun d=>grown_cell d.g p2 p0
   have HN:=Lib.hid (lwB_next z k y)
   obtain ⟨x0,x1⟩:=HYB.out k hlt
   obtain ⟨v,hv⟩:∃ v,y k=v:=⟨_,rfl⟩
   rw [hv] at L1 HN x0 x1
   obtain ⟨s,hs⟩:∃ s,lwB z k y=s:=⟨_,rfl⟩
   rw [hs] at HN ⊢
   clear hyc hv hs p0 p1 p2 p3 p4
   by_cases c0:v<0
   ·have d0:decide (v<0)=true:=decide_eq_true c0
    go_wp2_with fail
    refine region_later wr (by kernel_rfl) (by kernel_rfl) (Grown.refl _) ?_
    repeat (go_big_quiet_step (fail))
    refine wpQuiet_nil ?_
    rintro ⟨W8,hW8⟩
    replace HL:=Lib.hid (HL.out.grown hW8)
    go_wp2
    go_roundw
    case rel=>exact ⟨k+1,by omega,by go_num,by rw [HN.out,if_neg (by omega)],HL⟩
    case measure=>simp [intOf];omega
   ·have d0:decide (v<0)=false:=decide_eq_false c0
    by_cases c1:(z:Int)≤v
    ·have d1:decide ((z:Int)≤v)=true:=decide_eq_true c1
     go_wp2_with fail
     refine region_later wr (by kernel_rfl) (by kernel_rfl) (Grown.refl _) ?_
     repeat (go_big_quiet_step (fail))
     refine wpQuiet_nil ?_
     rintro ⟨W8,hW8⟩
     replace HL:=Lib.hid (HL.out.grown hW8)
     go_wp2
     go_roundw
     case rel=>exact ⟨k+1,by omega,by go_num,by rw [HN.out,if_neg (by omega)],HL⟩
     case measure=>simp [intOf];omega
    ·have d1:decide ((z:Int)≤v)=false:=decide_eq_false c1
     go_wp2_with fail
     refine region_later wr (by kernel_rfl) (by kernel_rfl) (Grown.refl _) ?_
     repeat (go_big_quiet_step (fail))
     refine wpQuiet_nil ?_
     rintro ⟨W8,hW8⟩
     replace HL:=Lib.hid (HL.out.grown hW8)
     go_wp2
     go_roundw
     case rel=>exact ⟨k+1,by omega,by go_num,by rw [HN.out,if_pos (by omega)],HL⟩
     case measure=>simp [intOf];omega
  ·obtain rfl:k=yn:=by omega
   by_cases e1:k=x
   ·by_cases e2:0<x∧z=0
    ·have f1:((k:Int)==(x:Int))=true:=by simp [e1]
     have f2:((k:Int) != (x:Int))=false:=by simp [e1]
     have f3:decide ((0:Int)<(x:Int))=true:=by simpa using e2.1
     have f4:((z:Int)==0)=true:=by simp [e2.2]
     have f5:(0:Int)<(x:Int):=by have:=e2.1;omega
     have HLB:Hid (labB ⟨x,z,0,M,zg⟩ k=false):=Lib.hid (by unfold labB;dsimp only;rw [f3,f4];simp)
     clear e1 e2
     have HX:Hid (labX ⟨x,z,0,M,zg⟩ k y=21):=Lib.hid (by unfold labX;rw [HLB.out];rfl)
     have HXE:=Lib.hid (show Ending.returned (.tuple #[.int .i64 (rgtN ⟨x,z,0,M,zg⟩ k y),.int .i64 (labX ⟨x,z,0,M,zg⟩ k y)])=.returned (.tuple #[.int .i64 0,.int .i64 21]) by rw [HX.out];unfold rgtN;rw [HX.out,if_neg (by decide)])
     go_wp2_with fail
     refine (lsoft_any x z 0 zd yd M zc k yc zg y _ (by omega) (by omega) (HL.out.rd 1 rfl) (HL.out.ri 2 rfl)).mono ?_
     rintro e W5 ⟨sd,sc,he,-,-,-,hW⟩
     rw [HX.out] at he
     rw [show sofV ⟨x,z,0,M,zg⟩ k y=0 by unfold sofV;rw [HX.out,if_neg (by decide)],show sofT ⟨x,z,0,M,zg⟩ k y=PT.bad by unfold sofT;rw [HX.out,if_neg (by decide)]] at he
     dsimp only [PT.bad] at he
     subst he
     replace HL:=Lib.hid (HL.out.grown hW)
     clear hW p0 p1 p2 p3 p4
     replace HL:=Lib.hid ((HL.out.grown (Grown.alloc (Grown.refl W5) #[.int .i64 0,.int .i64 0,.int .i64 0,.slice sd 0 sc] 24)).add (f:=.ten W5.heap.size (.int .i64 0) (.int .i64 0) (.int .i64 0) (.slice sd 0 sc)) (ten_new W5 _ _ _ _ _))
     obtain ⟨p0,p1,p2,p3,p4,-,-,-,-⟩:=HL.out.ten 1 rfl
     obtain ⟨q0,q1,q2,q3,q4,-,-,-,-⟩:=HL.out.ten 0 rfl
     go_wp2_with fail
     generalize W5.alloc _=W6 at HL p0 p1 p2 p3 p4 q0 q1 q2 q3 q4 ⊢
     generalize W5.heap.size=os at HL q0 q1 q2 q3 q4 ⊢
     try (go_wp2_with fail)
     clear p0 p1 p2 p3 p4 q0 q1 q2 q3 q4
     refine (lright_any x z 0 zd yd M zc k yc zg y _ (by omega) (by omega) (HL.out.rd 2 rfl) (HL.out.ri 3 rfl)).mono ?_
     rintro e W7 ⟨he,hW⟩
     rw [HXE.out] at he
     subst he
     replace HL:=Lib.hid (HL.out.grown hW)
     obtain ⟨q0,q1,q2,q3,q4,-,-,-,-⟩:=HL.out.ten 0 rfl
     have HG:=Lib.hid (HL.out.gr 5 rfl)
     clear hW
     go_wp2
     go_ret
     exact ⟨rfl,gr⟩
    ·have f1:((k:Int)==(x:Int))=true:=by simp [e1]
     have f2:((k:Int) != (x:Int))=false:=by simp [e1]
     have f3:(decide ((0:Int)<(x:Int))&&((z:Int)==0))=false:=by
      rw [Bool.eq_false_iff]
      intro h
      simp only [Bool.and_eq_true,decide_eq_true_eq,beq_iff_eq] at h
      omega
     have HLB:Hid (labB ⟨x,z,0,M,zg⟩ k=true):=Lib.hid (by unfold labB;dsimp only;rw [show PT.right ⟨x,z,0,M,zg⟩=true from HR2.out,f3,show ((x:Int)==(k:Int))=true by simp [e1]];rfl)
     have f6:(if 0<x then (z:Int)==0 else false)=false:=by
      split
      ·simp;omega
      ·rfl
     by_cases e3:0<x
     ·have f4:((z:Int)==0)=false:=by simp;omega
      have f5:(0:Int)<(x:Int):=by omega
      clear e1 e2 f3 f6
      cases e4:labI z k y
      ·have e5:lwB z k y=22:=by unfold lwB;rw [e4];rfl
       rw [e5]
       have HX:Hid (labX ⟨x,z,0,M,zg⟩ k y=22):=Lib.hid (by unfold labX;rw [HLB.out];show (if labI z k y=true then (0:Int) else 22)=22;rw [e4];rfl)
       have HXE:=Lib.hid (show Ending.returned (.tuple #[.int .i64 (rgtN ⟨x,z,0,M,zg⟩ k y),.int .i64 (labX ⟨x,z,0,M,zg⟩ k y)])=.returned (.tuple #[.int .i64 0,.int .i64 22]) by rw [HX.out];unfold rgtN;rw [HX.out,if_neg (by decide)])
       clear e4 e5
       go_wp2_with fail
       refine (lsoft_any x z 0 zd yd M zc k yc zg y _ (by omega) (by omega) (HL.out.rd 1 rfl) (HL.out.ri 2 rfl)).mono ?_
       rintro e W5 ⟨sd,sc,he,-,-,-,hW⟩
       rw [HX.out] at he
       rw [show sofV ⟨x,z,0,M,zg⟩ k y=0 by unfold sofV;rw [HX.out,if_neg (by decide)],show sofT ⟨x,z,0,M,zg⟩ k y=PT.bad by unfold sofT;rw [HX.out,if_neg (by decide)]] at he
       dsimp only [PT.bad] at he
       subst he
       replace HL:=Lib.hid (HL.out.grown hW)
       clear hW p0 p1 p2 p3 p4
       replace HL:=Lib.hid ((HL.out.grown (Grown.alloc (Grown.refl W5) #[.int .i64 0,.int .i64 0,.int .i64 0,.slice sd 0 sc] 24)).add (f:=.ten W5.heap.size (.int .i64 0) (.int .i64 0) (.int .i64 0) (.slice sd 0 sc)) (ten_new W5 _ _ _ _ _))
       obtain ⟨p0,p1,p2,p3,p4,-,-,-,-⟩:=HL.out.ten 1 rfl
       obtain ⟨q0,q1,q2,q3,q4,-,-,-,-⟩:=HL.out.ten 0 rfl
       go_wp2_with fail
       generalize W5.alloc _=W6 at HL p0 p1 p2 p3 p4 q0 q1 q2 q3 q4 ⊢
       generalize W5.heap.size=os at HL q0 q1 q2 q3 q4 ⊢
       try (go_wp2_with fail)
       clear p0 p1 p2 p3 p4 q0 q1 q2 q3 q4
       refine (lright_any x z 0 zd yd M zc k yc zg y _ (by omega) (by omega) (HL.out.rd 2 rfl) (HL.out.ri 3 rfl)).mono ?_
       rintro e W7 ⟨he,hW⟩
       rw [HXE.out] at he
       subst he
       replace HL:=Lib.hid (HL.out.grown hW)
       obtain ⟨q0,q1,q2,q3,q4,-,-,-,-⟩:=HL.out.ten 0 rfl
       have HG:=Lib.hid (HL.out.gr 5 rfl)
       clear hW
       go_wp2
       go_ret
       exact ⟨rfl,gr⟩
      ·have e5:lwB z k y=0:=by unfold lwB;rw [e4];rfl
       rw [e5]
       have HX:Hid (labX ⟨x,z,0,M,zg⟩ k y=0):=Lib.hid (by unfold labX;rw [HLB.out];show (if labI z k y=true then (0:Int) else 22)=0;rw [e4];rfl)
       have HXE:=Lib.hid (show Ending.returned (.tuple #[.int .i64 (rgtN ⟨x,z,0,M,zg⟩ k y),.int .i64 (labX ⟨x,z,0,M,zg⟩ k y)])=.returned (.tuple #[.int .i64 (rgtN ⟨x,z,0,M,zg⟩ k y),.int .i64 0]) by rw [HX.out])
       clear e4 e5
       go_wp2_with fail
       refine (lsoft_any x z 0 zd yd M zc k yc zg y _ (by omega) (by omega) (HL.out.rd 1 rfl) (HL.out.ri 2 rfl)).mono ?_
       rintro e W5 ⟨sd,sc,he,-,-,-,hW⟩
       rw [HX.out] at he
       generalize sofV ⟨x,z,0,M,zg⟩ k y=sv at he
       generalize sofT ⟨x,z,0,M,zg⟩ k y=sT at he
       subst he
       replace HL:=Lib.hid (HL.out.grown hW)
       clear hW p0 p1 p2 p3 p4
       replace HL:=Lib.hid ((HL.out.grown (Grown.alloc (Grown.refl W5) #[.int .i64 sT.R,.int .i64 sT.C,.int .i64 sT.F,.slice sd sT.n sc] 24)).add (f:=.ten W5.heap.size (.int .i64 sT.R) (.int .i64 sT.C) (.int .i64 sT.F) (.slice sd sT.n sc)) (ten_new W5 _ _ _ _ _))
       obtain ⟨p0,p1,p2,p3,p4,-,-,-,-⟩:=HL.out.ten 1 rfl
       obtain ⟨q0,q1,q2,q3,q4,-,-,-,-⟩:=HL.out.ten 0 rfl
       go_wp2_with fail
       generalize W5.alloc _=W6 at HL p0 p1 p2 p3 p4 q0 q1 q2 q3 q4 ⊢
       generalize W5.heap.size=os at HL q0 q1 q2 q3 q4 ⊢
       try (go_wp2_with fail)
       clear p0 p1 p2 p3 p4 q0 q1 q2 q3 q4
       refine (lright_any x z 0 zd yd M zc k yc zg y _ (by omega) (by omega) (HL.out.rd 2 rfl) (HL.out.ri 3 rfl)).mono ?_
       rintro e W7 ⟨he,hW⟩
       rw [HXE.out] at he
       generalize rgtN ⟨x,z,0,M,zg⟩ k y=rn at he
       subst he
       replace HL:=Lib.hid (HL.out.grown hW)
       obtain ⟨q0,q1,q2,q3,q4,-,-,-,-⟩:=HL.out.ten 0 rfl
       have HG:=Lib.hid (HL.out.gr 5 rfl)
       clear hW
       go_wp2
       go_ret
       exact ⟨rfl,gr⟩
     ·have f5:¬(0:Int)<(x:Int):=by omega
      have e6:k=0:=by omega
      clear e1 e2 f3 f6 e3
      have e5:lwB z k y=0:=by rw [e6];rfl
      rw [e5]
      have HX:Hid (labX ⟨x,z,0,M,zg⟩ k y=0):=Lib.hid (by unfold labX;rw [HLB.out];show (if labI z k y=true then (0:Int) else 22)=0;exact e5)
      have HXE:=Lib.hid (show Ending.returned (.tuple #[.int .i64 (rgtN ⟨x,z,0,M,zg⟩ k y),.int .i64 (labX ⟨x,z,0,M,zg⟩ k y)])=.returned (.tuple #[.int .i64 (rgtN ⟨x,z,0,M,zg⟩ k y),.int .i64 0]) by rw [HX.out])
      clear e5 e6
      go_wp2_with fail
      refine (lsoft_any x z 0 zd yd M zc k yc zg y _ (by omega) (by omega) (HL.out.rd 1 rfl) (HL.out.ri 2 rfl)).mono ?_
      rintro e W5 ⟨sd,sc,he,-,-,-,hW⟩
      rw [HX.out] at he
      generalize sofV ⟨x,z,0,M,zg⟩ k y=sv at he
      generalize sofT ⟨x,z,0,M,zg⟩ k y=sT at he
      subst he
      replace HL:=Lib.hid (HL.out.grown hW)
      clear hW p0 p1 p2 p3 p4
      replace HL:=Lib.hid ((HL.out.grown (Grown.alloc (Grown.refl W5) #[.int .i64 sT.R,.int .i64 sT.C,.int .i64 sT.F,.slice sd sT.n sc] 24)).add (f:=.ten W5.heap.size (.int .i64 sT.R) (.int .i64 sT.C) (.int .i64 sT.F) (.slice sd sT.n sc)) (ten_new W5 _ _ _ _ _))
      obtain ⟨p0,p1,p2,p3,p4,-,-,-,-⟩:=HL.out.ten 1 rfl
      obtain ⟨q0,q1,q2,q3,q4,-,-,-,-⟩:=HL.out.ten 0 rfl
      go_wp2_with fail
      generalize W5.alloc _=W6 at HL p0 p1 p2 p3 p4 q0 q1 q2 q3 q4 ⊢
      generalize W5.heap.size=os at HL q0 q1 q2 q3 q4 ⊢
      try (go_wp2_with fail)
      clear p0 p1 p2 p3 p4 q0 q1 q2 q3 q4
      refine (lright_any x z 0 zd yd M zc k yc zg y _ (by omega) (by omega) (HL.out.rd 2 rfl) (HL.out.ri 3 rfl)).mono ?_
      rintro e W7 ⟨he,hW⟩
      rw [HXE.out] at he
      generalize rgtN ⟨x,z,0,M,zg⟩ k y=rn at he
      subst he
      replace HL:=Lib.hid (HL.out.grown hW)
      obtain ⟨q0,q1,q2,q3,q4,-,-,-,-⟩:=HL.out.ten 0 rfl
      have HG:=Lib.hid (HL.out.gr 5 rfl)
      clear hW
      go_wp2
      go_ret
      exact ⟨rfl,gr⟩
   ·have f1:((k:Int)==(x:Int))=false:=by simp;omega
    have f2:((k:Int) != (x:Int))=true:=by rw [bne,f1];rfl
    have HLB:Hid (labB ⟨x,z,0,M,zg⟩ k=false):=Lib.hid (by unfold labB;dsimp only;rw [show ((x:Int)==(k:Int))=false by simp;omega];simp)
    clear e1
    have HX:Hid (labX ⟨x,z,0,M,zg⟩ k y=21):=Lib.hid (by unfold labX;rw [HLB.out];rfl)
    have HXE:=Lib.hid (show Ending.returned (.tuple #[.int .i64 (rgtN ⟨x,z,0,M,zg⟩ k y),.int .i64 (labX ⟨x,z,0,M,zg⟩ k y)])=.returned (.tuple #[.int .i64 0,.int .i64 21]) by rw [HX.out];unfold rgtN;rw [HX.out,if_neg (by decide)])
    go_wp2_with fail
    refine (lsoft_any x z 0 zd yd M zc k yc zg y _ (by omega) (by omega) (HL.out.rd 1 rfl) (HL.out.ri 2 rfl)).mono ?_
    rintro e W5 ⟨sd,sc,he,-,-,-,hW⟩
    rw [HX.out] at he
    rw [show sofV ⟨x,z,0,M,zg⟩ k y=0 by unfold sofV;rw [HX.out,if_neg (by decide)],show sofT ⟨x,z,0,M,zg⟩ k y=PT.bad by unfold sofT;rw [HX.out,if_neg (by decide)]] at he
    dsimp only [PT.bad] at he
    subst he
    replace HL:=Lib.hid (HL.out.grown hW)
    clear hW p0 p1 p2 p3 p4
    replace HL:=Lib.hid ((HL.out.grown (Grown.alloc (Grown.refl W5) #[.int .i64 0,.int .i64 0,.int .i64 0,.slice sd 0 sc] 24)).add (f:=.ten W5.heap.size (.int .i64 0) (.int .i64 0) (.int .i64 0) (.slice sd 0 sc)) (ten_new W5 _ _ _ _ _))
    obtain ⟨p0,p1,p2,p3,p4,-,-,-,-⟩:=HL.out.ten 1 rfl
    obtain ⟨q0,q1,q2,q3,q4,-,-,-,-⟩:=HL.out.ten 0 rfl
    go_wp2_with fail
    generalize W5.alloc _=W6 at HL p0 p1 p2 p3 p4 q0 q1 q2 q3 q4 ⊢
    generalize W5.heap.size=os at HL q0 q1 q2 q3 q4 ⊢
    try (go_wp2_with fail)
    clear p0 p1 p2 p3 p4 q0 q1 q2 q3 q4
    refine (lright_any x z 0 zd yd M zc k yc zg y _ (by omega) (by omega) (HL.out.rd 2 rfl) (HL.out.ri 3 rfl)).mono ?_
    rintro e W7 ⟨he,hW⟩
    rw [HXE.out] at he
    subst he
    replace HL:=Lib.hid (HL.out.grown hW)
    obtain ⟨q0,q1,q2,q3,q4,-,-,-,-⟩:=HL.out.ten 0 rfl
    have HG:=Lib.hid (HL.out.gr 5 rfl)
    clear hW
    go_wp2
    go_ret
    exact ⟨rfl,gr⟩

theorem lrefuses_end (w:World) (m n:Int) (yd ld:Option Addr) (yn yc ln lc:Nat) (y lg:Nat→Int) (h:¬(yn≤8∧ln≤20)):
  Calls Tryz.prog 6 #[.int .u8 m,.int .u8 n,.slice yd yn yc,.slice ld ln lc] w fun e w'=>e=.returned (.bool true)∧Grown w w':=by
 by_cases c:yn≤8
 ·have t1:¬(8:Int)<(yn:Int):=by omega
  have t2:(20:Int)<(ln:Int):=by omega
  clear h
  go_enter Tryz.func6,Tryz.ntmps6
  go_wp2_with fail
  refine (known16_any _).mono ?_
  rintro e W1 ⟨rfl,hW⟩
  have HG:=Lib.hid hW
  clear hW
  go_wp2
  go_ret
  exact ⟨rfl,HG.out⟩
 ·have t1:(8:Int)<(yn:Int):=by omega
  clear h
  go_enter Tryz.func6,Tryz.ntmps6
  go_wp2_with fail
  refine (known16_any _).mono ?_
  rintro e W1 ⟨rfl,hW⟩
  have HG:=Lib.hid hW
  clear hW
  go_wp2
  go_ret
  exact ⟨rfl,HG.out⟩

theorem lrefuses_walk (W:World) (m:Int) (wm:(Lit.int .u8 m).wf=true) (n:Int) (wn:(Lit.int .u8 n).wf=true) (y:Value) (Ly:IntsIn y W) (l:Value) (Ll:ListIn l W):
  Calls Tryz.prog 6 #[.int .u8 m,.int .u8 n,y,l] W fun e w'=>e=.returned (.bool true)∧Grown W w':=by
 obtain ⟨yd,yn,yc,yg,rfl,_,_,_,y4⟩:=Ly
 obtain ⟨ld,ln,lc,lg,rfl,_,_,_,l4⟩:=Ll
 obtain ⟨m0,m1⟩:=bounds_u8 wm
 obtain ⟨n0,n1⟩:=bounds_u8 wn
 by_cases h:yn≤8∧ln≤20
 ·exact lrefuses_go W m n yd ld yn yc ln lc yg lg h.1 h.2 y4 l4 m0 m1 n0 n1
 ·exact lrefuses_end W m n yd ld yn yc ln lc yg lg h
end Go.Proofs.YteifobleigfbaaaGreat
