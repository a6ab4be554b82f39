/- The contract of the reference's Div. (Written by gen14.py.) -/
import Derived.Test.YteifobleigfbaaaGreatDict
import Derived.Test.YteifobleigfbaaaGreatNans
import Derived.Test.YteifobleigfbaaaGreatRMul
import Derived.KernelRfl
import Derived.Deep.RegionWith
namespace Go.Proofs.YteifobleigfbaaaGreat
open Go.RowKit
set_option linter.unusedVariables false
set_option linter.unusedSimpArgs false

structure UpAt (M e X N:Int) (i:Nat):Prop where
 num:X=M*2^i
 exp:N=e - (i:Int)
 pos:0<X
 lim:X<16777216
 low:i≤23

theorem upat_zero (M e:Int) (h0:0<M) (h1:M<16777216):UpAt M e M e 0:=⟨by omega,by omega,h0,h1,by omega⟩

theorem upat_next (M e X N:Int) (i:Nat) (h0:0<M) (h:UpAt M e X N i) (c:X<8388608):UpAt M e (X*2) (N - 1) (i+1):=by
 obtain ⟨a,b,p,l,w⟩:=h
 have hp:=pow2_pos i
 have hi:i≤22:=by
  rcases Nat.lt_or_ge i 23 with g | g
  ·omega
  ·exfalso
   have h23:(2:Int)^23≤2^i:=pow2_le g
   have h1:1*2^i≤M*2^i:=Int.mul_le_mul_of_nonneg_right (by omega) (by omega)
   have e23:(2:Int)^23=8388608:=by decide
   omega
 refine ⟨by rw [a,Int.pow_succ,Int.mul_assoc],by omega,by omega,by omega,by omega⟩

set_option maxRecDepth 100000 in
set_option maxHeartbeats 16000000 in
theorem rdiv_any (f mode a b:Int) (w:World) (a0:0≤a) (a1:a≤4294967295) (b0:0≤b) (b1:b≤4294967295):
  Calls Tryz.prog 50 #[.int .i64 f,.int .i64 mode,.int .u32 a,.int .u32 b] w fun e w'=>e=divE f mode a b∧Grown w w':=by
 have HE:=Lib.hid ((exc_new w 75).under1 #[.int .u32 a,.int .u32 b] 29)
 have HG:=Lib.hid (Grown.alloc (Grown.alloc (Grown.refl w) #[.bool false,.bool false,.bool false,.bool false,.bool false] 75) #[.int .u32 a,.int .u32 b] 29)
 have HC:=Lib.hid (cells2b w #[.bool false,.bool false,.bool false,.bool false,.bool false] 75 (.int .u32 a) (.int .u32 b) 29)
 obtain ⟨e0,e1⟩:=unE_bd f a
 have e2:=unE_top f a
 obtain ⟨d0,d1⟩:=unE_bd f b
 have d2:=unE_top f b
 obtain ⟨t0,t1,t2⟩:=mul_bd f a b
 have ham:amtP f a b=amtE (unE f a+unE f b) (unM f a*unM f b):=rfl
 have hxa:=nou_inf f a
 have hxb:=nou_inf f b
 obtain ⟨x,hx⟩:∃ x,unE f a=x:=⟨_,rfl⟩
 obtain ⟨y,hy⟩:∃ y,unE f b=y:=⟨_,rfl⟩
 obtain ⟨p,hp⟩:∃ p,unM f a=p:=⟨_,rfl⟩
 obtain ⟨q,hq⟩:∃ q,unM f b=q:=⟨_,rfl⟩
 obtain ⟨n,hn⟩:∃ n,(fS f a)=n:=⟨_,rfl⟩
 obtain ⟨m,hm⟩:∃ m,(fS f b)=m:=⟨_,rfl⟩
 obtain ⟨NN,hNN⟩:∃ NN,(nanB f a || nanB f b)=NN:=⟨_,rfl⟩
 obtain ⟨SS,hSS⟩:∃ SS,(sigB f a || sigB f b)=SS:=⟨_,rfl⟩
 obtain ⟨IA,hIA⟩:∃ IA,(infB f a)=IA:=⟨_,rfl⟩
 obtain ⟨ZA,hZA⟩:∃ ZA,(nouB f a)=ZA:=⟨_,rfl⟩
 obtain ⟨IB,hIB⟩:∃ IB,(infB f b)=IB:=⟨_,rfl⟩
 obtain ⟨ZB,hZB⟩:∃ ZB,(nouB f b)=ZB:=⟨_,rfl⟩
 obtain ⟨s,hs⟩:∃ s,(n != m)=s:=⟨_,rfl⟩
 obtain ⟨T,hT⟩:∃ T,p*q=T:=⟨_,rfl⟩
 have hsg:sgP f a b=s:=by unfold sgP;rw [hn,hm,hs]
 have HM:=Lib.hid (show divE f mode a b=if NN=true then excE (nanI f) SS else if (ZA&&ZB || IA&&IB)=true then excE (nanI f) true else if IA=true then excE (infI f s) false else if (IB || ZA)=true then excE (zerI f s) false else if ZB=true then divZ (infI f s) else quoE f mode s (x - y) p.toNat q.toNat by
  unfold divE
  rw [hZA,hZB,hIA,hIB,hNN,hSS,hsg,hx,hy,hp,hq])
 have hp0:=num_pos f a
 have hq0:=num_pos f b
 have hpb:=unM_bd f a
 have hqb:=unM_bd f b
 rw [hp] at hp0 hpb
 rw [hq] at hq0 hqb
 rw [hZA,hIA] at hp0
 rw [hZB,hIB] at hq0
 have hnn2:NN=false→nanB f a=false∧nanB f b=false:=by intro g;rw [g] at hNN;simpa using hNN
 have HP0:=Lib.hid (fun (g:NN=false)=>hp0 (hnn2 g).1)
 have HQ0:=Lib.hid (fun (g:NN=false)=>hq0 (hnn2 g).2)
 clear hp0 hq0 hnn2
 have HUa:=Lib.hid (show Ending.returned (.tuple #[.bool (fS f a),.int .i64 (unE f a),.int .u64 (unM f a)])=.returned (.tuple #[.bool n,.int .i64 x,.int .u64 p]) by rw [hn,hx,hp])
 have HUb:=Lib.hid (show Ending.returned (.tuple #[.bool (fS f b),.int .i64 (unE f b),.int .u64 (unM f b)])=.returned (.tuple #[.bool m,.int .i64 y,.int .u64 q]) by rw [hm,hy,hq])
 rw [hx,hy,hp,hq,hT] at ham
 rw [hp,hq,hT] at t0 t1
 rw [hx] at e0 e1 e2
 rw [hy] at d0 d1 d2
 rw [hZA,hIA] at hxa
 rw [hZB,hIB] at hxb
 have Hn:=Lib.hid hn
 have Hm:=Lib.hid hm
 have HNN:=Lib.hid hNN
 have HSS:=Lib.hid hSS
 have HIA:=Lib.hid hIA
 have HZA:=Lib.hid hZA
 have HIB:=Lib.hid hIB
 have HZB:=Lib.hid hZB
 have HXa:=Lib.hid hxa
 have HXb:=Lib.hid hxb
 clear hxa hxb ham t0 t1 t2 hT hsg hx hy hp hq hn hm hNN hSS hIA hZA hIB hZB
 have hs2:(n==m)=!s:=by rw [←hs];cases n <;> cases m <;> rfl
 cases NN
 case true=>
  have HQ:=Lib.hid (HM.out.trans (if_pos rfl))
  clear HM
  go_enter Tryz.func50,Tryz.ntmps50
  exact dx_4
 case false=>
  have HM2:=Lib.hid (HM.out.trans (if_neg (by decide)))
  clear HM
  have HM:=HM2
  clear HM2
  rcases HXa.out with ⟨rfl,rfl⟩ | ⟨rfl,rfl⟩ | ⟨rfl,rfl⟩
  ·rcases HXb.out with ⟨rfl,rfl⟩ | ⟨rfl,rfl⟩ | ⟨rfl,rfl⟩
   ·have HQ:=Lib.hid (HM.out.trans (if_pos (by decide)))
    clear HM
    go_enter Tryz.func50,Tryz.ntmps50
    exact dx_4
   ·exact dx_38
   ·exact dx_38
  ·rcases HXb.out with ⟨rfl,rfl⟩ | ⟨rfl,rfl⟩ | ⟨rfl,rfl⟩
   ·have HQ:=Lib.hid (HM.out.trans ((if_neg (by decide)).trans ((if_pos (by decide)))))
    clear HM
    go_enter Tryz.func50,Tryz.ntmps50
    exact dx_4
   ·have HQ:=Lib.hid (HM.out.trans (if_pos (by decide)))
    clear HM
    go_enter Tryz.func50,Tryz.ntmps50
    exact dx_4
   ·have HQ:=Lib.hid (HM.out.trans ((if_neg (by decide)).trans ((if_pos (by decide)))))
    clear HM
    go_enter Tryz.func50,Tryz.ntmps50
    exact dx_4
  ·rcases HXb.out with ⟨rfl,rfl⟩ | ⟨rfl,rfl⟩ | ⟨rfl,rfl⟩
   ·have HQ:=Lib.hid (HM.out.trans ((if_neg (by decide)).trans ((if_neg (by decide)).trans ((if_neg (by decide)).trans ((if_pos (by decide)))))))
    clear HM
    go_enter Tryz.func50,Tryz.ntmps50
    go_wp2_with fail
    generalize ((w.alloc _).alloc _)=W4 at HE HG HC ⊢
    obtain ⟨y0,y1⟩:=HC.out
    refine (nans2_any f a b _ _ a0 a1 b0 b1 (by first | exact y0 | go_cell) (by first | exact y1 | go_cell)).mono ?_
    rintro e w' ⟨he,m,rfl⟩
    rw [HNN.out,HSS.out] at he
    subst he
    clear y0 y1
    obtain ⟨xb,x0,x1,x2,x3,x4,z0,z1,z2,z3,z4⟩:=HE.out
    go_wp2_with (first
     | (go_at_call 90;refine (rinfB_any _ _ _ (by omega) (by omega)).mono ?_;rintro e w' ⟨he,m,rfl⟩;(first | rw [HIA.out] at he | rw [HIB.out] at he);subst he)
     | (go_at_call 59;refine (rnouB_any _ _ _ (by omega) (by omega)).mono ?_;rintro e w' ⟨he,m,rfl⟩;(first | rw [HZA.out] at he | rw [HZB.out] at he);subst he)
     | (go_at_call 89;refine (rneg_any _ _ _ (by omega) (by omega)).mono ?_;rintro e w' ⟨he,m,rfl⟩;(first | rw [Hn.out] at he | rw [Hm.out] at he);subst he)
     | (go_at_call 88;refine (rnan_any _ _).mono ?_;rintro e w' ⟨rfl,m,rfl⟩)
     | (go_at_call 91;refine (rinf_any _ _ _).mono ?_;rintro e w' ⟨rfl,m,rfl⟩)
     | (go_at_call 49;refine (rzero_any _ _ _).mono ?_;rintro e w' ⟨rfl,rfl⟩)
     | (go_at_call 61;refine (rmask_any _ _).mono ?_;rintro e w' ⟨rfl,rfl⟩))
    (try simp only [Exit.inBlock,Exit.then])
    refine bodyPost_ret ?_ rfl ⟨(divZ_is _).trans HQ.out.symm,?_⟩
    ·rw [results_tmp_cell rfl]
     go_simp
    ·repeat (first | with_reducible exact HG.out | with_reducible refine Grown.setCell ?_ (by simp <;> omega) _ | with_reducible refine Grown.alloc ?_ _ _ | with_reducible refine grown_more ?_ _)
   ·exact dx_38
   ·have p0:=HP0.out rfl rfl rfl
    have q0:=HQ0.out rfl rfl rfl
    clear HP0 HQ0
    have HQ:=Lib.hid (HM.out.trans ((if_neg (by decide)).trans ((if_neg (by decide)).trans ((if_neg (by decide)).trans ((if_neg (by decide)))))))
    clear HM
    go_enter Tryz.func50,Tryz.ntmps50
    go_wp2_with fail
    generalize ((w.alloc _).alloc _)=W4 at HE HG HC ⊢
    obtain ⟨y0,y1⟩:=HC.out
    refine (nans2_any f a b _ _ a0 a1 b0 b1 (by first | exact y0 | go_cell) (by first | exact y1 | go_cell)).mono ?_
    rintro e w' ⟨he,m,rfl⟩
    rw [HNN.out,HSS.out] at he
    subst he
    clear y0 y1
    obtain ⟨xb,x0,x1,x2,x3,x4,z0,z1,z2,z3,z4⟩:=HE.out
    go_wp2_with (first
     | (go_at_call 90;refine (rinfB_any _ _ _ (by omega) (by omega)).mono ?_;rintro e w' ⟨he,m,rfl⟩;(first | rw [HIA.out] at he | rw [HIB.out] at he);subst he)
     | (go_at_call 59;refine (rnouB_any _ _ _ (by omega) (by omega)).mono ?_;rintro e w' ⟨he,m,rfl⟩;(first | rw [HZA.out] at he | rw [HZB.out] at he);subst he)
     | (go_at_call 89;refine (rneg_any _ _ _ (by omega) (by omega)).mono ?_;rintro e w' ⟨he,m,rfl⟩;(first | rw [Hn.out] at he | rw [Hm.out] at he);subst he)
     | (go_at_call 88;refine (rnan_any _ _).mono ?_;rintro e w' ⟨rfl,m,rfl⟩)
     | (go_at_call 91;refine (rinf_any _ _ _).mono ?_;rintro e w' ⟨rfl,m,rfl⟩)
     | (go_at_call 49;refine (rzero_any _ _ _).mono ?_;rintro e w' ⟨rfl,rfl⟩)
     | (go_at_call 61;refine (rmask_any _ _).mono ?_;rintro e w' ⟨rfl,rfl⟩)
     | (go_at_call 53;refine (runpack_any _ _ _ (by omega) (by omega)).mono ?_;rintro e w' ⟨he,m,rfl⟩;(first | rw [HUa.out] at he | rw [HUb.out] at he);subst he))
    go_loop [15,14] (fun m x'=>∃ (X N:Int) (i:Nat),m=.int .u64 X∧x'=.int .i64 N∧UpAt p x X N i) (fun m _=>(8388608 - intOf m).toNat)
    case atStart=>exact ⟨p,x,0,rfl,rfl,upat_zero p x p0 hpb.2⟩
    case round=>
     obtain ⟨X,N,i,rfl,rfl,hU⟩:=hrel
     have X0:=hU.pos
     have X1:=hU.lim
     have N0:-200≤N:=by have:=hU.exp;have:=hU.low;omega
     have N1:N≤200:=by have:=hU.exp;have:=hU.low;omega
     have HU:=Lib.hid hU
     clear hU
     by_cases c:X<8388608
     ·go_wp2
      exact ⟨⟨_,_,i+1,rfl,rfl,upat_next p x X N i p0 HU.out c⟩,by simp [intOf];omega⟩
     ·go_wp2_with fail
      go_loop [18,17] (fun m x'=>∃ (Y N2:Int) (j:Nat),m=.int .u64 Y∧x'=.int .i64 N2∧UpAt q y Y N2 j) (fun m _=>(8388608 - intOf m).toNat)
      case atStart=>exact ⟨q,y,0,rfl,rfl,upat_zero q y q0 hqb.2⟩
      case round=>
       obtain ⟨Y,N2,j,rfl,rfl,hV⟩:=hrel
       have Y0:=hV.pos
       have Y1:=hV.lim
       have M0:-200≤N2:=by have:=hV.exp;have:=hV.low;omega
       have M1:N2≤200:=by have:=hV.exp;have:=hV.low;omega
       have HV:=Lib.hid hV
       clear hV
       by_cases d:Y<8388608
       ·go_wp2
        exact ⟨⟨_,_,j+1,rfl,rfl,upat_next q y Y N2 j q0 HV.out d⟩,by simp [intOf];omega⟩
       ·obtain ⟨A,hA⟩:∃ A,(X*1099511627776).tdiv Y=A:=⟨_,rfl⟩
        obtain ⟨B,hB⟩:∃ B,(X*1099511627776).tmod Y=B:=⟨_,rfl⟩
        go_wp2_with fail
        have hY:(Y==0)=false:=by simp;omega
        have hA2:A=X*1099511627776 / Y:=by rw [←hA];exact Int.tdiv_eq_ediv_of_nonneg (by omega)
        have hB2:B=X*1099511627776%Y:=by rw [←hB];exact Int.tmod_eq_emod_of_nonneg (by omega)
        have A0:0≤A:=by rw [hA2];exact Int.ediv_nonneg (by omega) (by omega)
        have A1:A≤18446744073709551615:=by
         have:=Int.ediv_le_self Y (show 0≤X*1099511627776 by omega)
         omega
        have hAw:IntKind.u64.wrap A=A:=u64w A A0 (by omega)
        have hfin:PackE f mode s (valN (clampE (N - N2 - 40)) A (B != 0))=divE f mode a b:=by
         have u1:=HU.out.num
         have u2:=HV.out.num
         have h:=rquo_is f mode s x y p q i j p0 q0 (by omega) (by omega) (by omega) (by omega) HU.out.low HV.out.low (by omega) (by omega) (by omega) (by omega)
         have hb:(B != 0)=decide (p*2^i*1099511627776%(q*2^j)≠0):=by rw [hB2,u1,u2,Bool.eq_iff_iff];simp
         rw [HQ.out,←h,hb,hA2,u1,u2,HU.out.exp,HV.out.exp]
        have HFin:=Lib.hid hfin
        clear hA2 hB2 hfin
        go_region_with (go_at_call 92;refine (rpack_any _ _ _ _ _ _ _ (by omega) (by omega) (by omega) (by omega)).mono ?_;rintro e W5 ⟨he,hW5⟩;rw [exc_agg] at he;subst he;have HG5:=Lib.hid (show Grown w W5 from grown_trans (by repeat (first | with_reducible exact HG.out | with_reducible refine grown_more ?_ _ | with_reducible refine Grown.drew ?_)) hW5);have HE5:=Lib.hid (show ExcAt w.heap.size W5 from HE.out.grown (grown_trans (by repeat (first | with_reducible exact Grown.refl _ | with_reducible refine grown_more ?_ _ | with_reducible refine Grown.drew ?_)) hW5));clear hW5 xb x0 x1 x2 x3 x4 z0 z1 z2 z3 z4;obtain ⟨xb,x0,x1,x2,x3,x4,z0,z1,z2,z3,z4⟩:=HE5.out)
        all_goals
         go_wp2
         (try simp only [Exit.inBlock,Exit.then])
         refine bodyPost_ret ?_ rfl ⟨(packE_is _ _ _ _).trans HFin.out,?_⟩
         ·rw [results_tmp_cell rfl]
          go_simp
         ·repeat (first | with_reducible exact HG5.out | with_reducible refine Grown.setCell ?_ (by simp <;> omega) _ | with_reducible refine Grown.alloc ?_ _ _ | with_reducible refine grown_more ?_ _)
end Go.Proofs.YteifobleigfbaaaGreat
