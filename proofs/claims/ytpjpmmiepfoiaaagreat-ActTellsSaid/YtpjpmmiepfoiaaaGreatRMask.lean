/- The contracts of annealref13's New, Mask. (Written by gen58.py.) -/
import Derived.Test.YtpjpmmiepfoiaaaGreatActM
import Derived.Test.YtpjpmmiepfoiaaaGreatRFun
import Derived.Test.YtpjpmmiepfoiaaaGreatRPhi
import Derived.Test.YtpjpmmiepfoiaaaGreatRTen
namespace Go.Proofs.YtpjpmmiepfoiaaaGreat
open Go Go.RowKit
set_option linter.unusedVariables false
set_option linter.unusedSimpArgs false

set_option maxRecDepth 100000 in
set_option maxHeartbeats 1000000 in
theorem rnew_any (R C F:Int) (w:World):
  Calls Tryz.prog 54 #[.int .i64 R,.int .i64 C,.int .i64 F] w fun e w'=>∃ b,e=.returned (.agg #[.int .i64 (newR R C),.int .i64 (newC R C),.int .i64 (newF F),.slice (some ⟨b,0,none⟩) ((newR R C).toNat*(newC R C).toNat) ((newR R C).toNat*(newC R C).toNat)])∧w.heap.size≤b∧Rowed b ((newR R C).toNat*(newC R C).toNat) (fun _=>0) w'∧Grown w w':=by
 obtain ⟨r,hr,lr⟩:=clamp_nat R
 obtain ⟨c,hc,lc⟩:=clamp_nat C
 obtain ⟨x1,x2⟩:=wrap_mul r c (r*c) lr lc rfl
 obtain ⟨p,hp⟩:∃ p,r*c=p:=⟨_,rfl⟩
 have hB:newB R C=decide (262144<p):=by
  unfold newB
  rw [hr,hc,←Int.natCast_mul,hp,decide_eq_decide]
  omega
 obtain ⟨MR,hMR⟩:∃ MR:Int,(if R<0 then 0 else R)=MR:=⟨_,rfl⟩
 obtain ⟨MC,hMC⟩:∃ MC:Int,(if C<0 then 0 else C)=MC:=⟨_,rfl⟩
 have hNR:(if 4096<MR then 4096 else MR)=(r:Int):=by rw [←hMR,←hr];unfold clampI;(repeat' split) <;> omega
 have hNC:(if 4096<MC then 4096 else MC)=(c:Int):=by rw [←hMC,←hc];unfold clampI;(repeat' split) <;> omega
 rw [hp] at x1 x2
 obtain ⟨K,hK⟩:∃ K,knownB F=K:=⟨_,rfl⟩
 have HK:=Lib.hid hK
 by_cases hb:262144<p
 ·rw [decide_eq_true hb] at hB
  have e1:newR R C=0:=by unfold newR;rw [hB];rfl
  have e2:newC R C=0:=by unfold newC;rw [hB];rfl
  have e3:newF F=if K then F else 2:=by unfold newF;rw [hK]
  rw [e1,e2,e3]
  have hmk:=run_make_row' (P:=Tryz.prog) 22 25 (.int .u32 0) 4 Tryz.underlying22 (by kernel_rfl) rfl .i64 .i64 0 (by omega) (by omega)
  rw [show (((0:Nat)):Int)=0 from rfl] at hmk
  have hbi:(262144:Int)<(p:Int):=by omega
  rw [show (Int.toNat 0*Int.toNat 0)=0 from rfl]
  clear hr hc hp hB hb hK e1 e2 e3
  cases K
  all_goals
   go_enter Tryz.func54,Tryz.ntmps54
   go_wp2_with ((go_at_call 85;refine (tknown_any _ _).mono ?_;rintro e w' ⟨he,rfl⟩;rw [HK.out] at he;subst he))
   (try simp only [Exit.inBlock,Exit.then])
   refine bodyPost_ret (v:=.agg #[.int .i64 0,.int .i64 0,.int .i64 _,.slice (some ⟨w.heap.size+1,0,none⟩) 0 0]) ?_ rfl ⟨w.heap.size+1,rfl,by omega,?_,gr⟩
   ·rw [results_one rfl]
    go_simp
   ·exact rowed_new2 _ _ _ _ _
 ·rw [decide_eq_false hb] at hB
  have e1:newR R C=r:=by unfold newR;rw [hB];exact hr
  have e2:newC R C=c:=by unfold newC;rw [hB];exact hc
  have e3:newF F=if K then F else 2:=by unfold newF;rw [hK]
  rw [e1,e2,e3]
  have hmk:=run_make_row' (P:=Tryz.prog) 22 25 (.int .u32 0) 4 Tryz.underlying22 (by kernel_rfl) rfl .i64 .i64 p (by omega) (by omega)
  have hbi:¬(262144:Int)<(p:Int):=by omega
  rw [show (Int.toNat (r:Int)*Int.toNat (c:Int))=p by simpa using hp]
  clear hr hc hp hB hb hK e1 e2 e3
  cases K
  all_goals
   go_enter Tryz.func54,Tryz.ntmps54
   go_wp2_with ((go_at_call 85;refine (tknown_any _ _).mono ?_;rintro e w' ⟨he,rfl⟩;rw [HK.out] at he;subst he))
   (try simp only [Exit.inBlock,Exit.then])
   refine bodyPost_ret (v:=.agg #[.int .i64 r,.int .i64 c,.int .i64 _,.slice (some ⟨w.heap.size+1,0,none⟩) p p]) ?_ rfl ⟨w.heap.size+1,rfl,by omega,?_,gr⟩
   ·rw [results_one rfl]
    go_simp
   ·exact rowed_new2 _ _ _ _ _

set_option maxRecDepth 100000 in
set_option maxHeartbeats 2000000 in
theorem rmasks_any (R C drop seed stream:Int) (w:World) (d0:0≤drop) (d1:drop≤4294967295) (s0:0≤seed) (s1:seed≤18446744073709551615) (t0:0≤stream) (t1:stream≤4294967295):
  Calls Tryz.prog 23 #[.int .i64 R,.int .i64 C,.int .u32 drop,.int .u64 seed,.int .u32 stream] w (TenM (masT R C drop seed stream) w):=by
 have hnf:newF 2=2:=by decide
 have hnl:=new_small R C
 have HQ:=Lib.hid (show kepV drop=divV (frmV 4294967296) (frmV (4294967296 - drop)) from rfl)
 obtain ⟨q0,q1⟩:=kepV_bd drop
 obtain ⟨Q,hQ⟩:∃ Q,kepV drop=Q:=⟨_,rfl⟩
 rw [hQ] at HQ q0 q1
 have HV:Hid (∀ t,masV drop seed stream t=if phWord seed stream t<drop then 0 else Q):=Lib.hid fun t=>by unfold masV;rw [hQ]
 have HB:Hid (∀ t:Nat,0≤masV drop seed stream t∧masV drop seed stream t≤4294967295):=Lib.hid fun t=>by rw [HV.out];split <;> omega
 unfold masT
 generalize masV drop seed stream=G at HV HB ⊢
 obtain ⟨D,hD⟩:∃ D,4294967296 - drop=D:=⟨_,rfl⟩
 rw [hD] at HQ
 have hD0:1≤D:=by omega
 have hD1:D≤4294967296:=by omega
 have hwd:IntKind.i64.wrap drop=drop:=by rw [IntKind.wrap_i64];omega
 have hwD:IntKind.i64.wrap D=D:=by rw [IntKind.wrap_i64];omega
 have HR:=Lib.hid (show ∀ W,Calls Tryz.prog 54 #[.int .i64 R,.int .i64 C,.int .i64 2] W fun e w'=>∃ b,e=.returned (.agg #[.int .i64 (newR R C),.int .i64 (newC R C),.int .i64 2,.slice (some ⟨b,0,none⟩) ((newR R C).toNat*(newC R C).toNat) ((newR R C).toNat*(newC R C).toNat)])∧W.heap.size≤b∧Rowed b ((newR R C).toNat*(newC R C).toNat) (fun _=>0) w'∧Grown W w' from fun W=>by have:=rnew_any R C 2 W;rw [hnf] at this;exact this)
 clear hnf hQ
 generalize newR R C=nR at HR hnl ⊢
 generalize newC R C=nC at HR hnl ⊢
 generalize nR.toNat*nC.toNat=n at HR hnl ⊢
 have HT1:=Lib.hid (ten_new w (.int .i64 0) (.int .i64 0) (.int .i64 0) (.slice none 0 0) 24)
 have HG:=Lib.hid (show Grown w (w.alloc (.cells #[.int .i64 0,.int .i64 0,.int .i64 0,.slice none 0 0] 24)) from gr)
 go_enter Tryz.func23,Tryz.ntmps23
 go_wp2_with fail
 generalize w.alloc _=W0 at HT1 HG ⊢
 refine (HR.out _).mono ?_
 rintro e W1 ⟨b,rfl,hb,hRo,hW1⟩
 have hb2:w.heap.size<b:=Nat.lt_of_lt_of_le HT1.out.lies hb
 replace HT1:=Lib.hid (HT1.out.grown hW1)
 replace HG:=Lib.hid (grown_trans HG.out hW1)
 clear hW1 hb
 go_wp2_with fail
 have hob:W1.heap.size≠b:=by have:=hRo.lies;omega
 have hob2:W1.heap.size≠w.heap.size:=by have:=HT1.out.lies;omega
 have HS:Hid (MaS w W1.heap.size b n (.int .i64 nR) (.int .i64 nC) (.int .i64 2) (.slice (some ⟨b,0,none⟩) n n) (fun t=>if t<0 then G t else 0) (W1.alloc (.cells #[.int .i64 nR,.int .i64 nC,.int .i64 2,.slice (some ⟨b,0,none⟩) n n] 24))):=
  Lib.hid ⟨gr,HT1.out.grown gr,ten_new _ _ _ _ _ _,(hRo.grown gr).congr (fun t ht=>if_neg (Nat.not_lt_zero t)),by omega,hob,hob2,by omega⟩
 clear hRo hob hob2 HT1 HG hb2
 generalize W1.alloc _=W2 at HS ⊢
 generalize W1.heap.size=ob at HS ⊢
 refine (nint_any 4294967296 _ (by decide) (by decide)).mono ?_
 rintro e V1 ⟨rfl,f0,f1,hV1⟩
 replace HS:=Lib.hid (HS.out.grown hV1)
 clear hV1
 generalize frmV 4294967296=fa at HQ f0 f1 ⊢
 go_wp2_with fail
 refine (nint_any D _ (by omega) (by omega)).mono ?_
 rintro e V2 ⟨rfl,g0,g1,hV2⟩
 replace HS:=Lib.hid (HS.out.grown hV2)
 clear hV2
 generalize frmV D=fb at HQ g0 g1 ⊢
 go_wp2_with fail
 refine (ndiv_any fa fb _ f0 f1 g0 g1).mono ?_
 rw [←HQ.out]
 rintro e V3 ⟨rfl,-,-,hV3⟩
 replace HS:=Lib.hid (HS.out.grown hV3)
 clear hV3 HQ f0 f1 g0 g1
 go_wp2_with fail
 go_loopw [13] (fun i wr=>∃ k:Nat,k≤n∧i=.int .i64 k∧Hid (MaS w ob b n (.int .i64 nR) (.int .i64 nC) (.int .i64 2) (.slice (some ⟨b,0,none⟩) n n) (fun t=>if t<k then G t else 0) wr)) (fun i _=>n - (intOf i).toNat)
 case atStart=>exact ⟨0,Nat.zero_le _,rfl,HS⟩
 case round=>
  rename World=>wr
  clear HS
  obtain ⟨k,hk,rfl,HS⟩:=hrel
  obtain ⟨p0,p1,p2,p3,p4,_,_,_,_⟩:=HS.out.t2
  by_cases hlt:k<n
  ·have hw64:IntKind.u64.wrap (k:Int)=k:=by rw [IntKind.wrap_u64];omega
   obtain ⟨Wd,hWd⟩:∃ Wd,phWord seed stream k=Wd:=⟨_,rfl⟩
   have HW:=Lib.hid hWd
   have HX:Hid (G k=if Wd<drop then 0 else Q):=Lib.hid (by rw [HV.out,hWd])
   clear hWd
   go_wp2_with fail
   refine (rword_any seed stream k _ s0 s1 t0 t1 (by omega) (by omega)).mono ?_
   rintro e W4 ⟨he,hW⟩
   rw [HW.out] at he
   subst he
   replace HS:=Lib.hid (HS.out.grown hW)
   clear p0 p1 p2 p3 p4 hW
   obtain ⟨p0,p1,p2,p3,p4,_,_,_,_⟩:=HS.out.t2
   have y:=(HS.out.r.cell k hlt).trans (by rw [if_neg (Nat.lt_irrefl k)])
   have z:=HS.out.r.free k
   by_cases hd:Wd<drop
   ·have hd2:¬drop≤Wd:=by omega
    have HY:Hid (G k=0):=Lib.hid (by rw [HX.out,if_pos hd])
    go_wp2
    go_roundw
    case rel=>exact ⟨k+1,by omega,by go_num,Lib.hid (HS.out.congr (fun t ht=>by
     show (if t<k+1 then G t else 0)=if t<k then G t else 0
     by_cases c:t<k
     ·rw [if_pos c,if_pos (by omega)]
     ·by_cases e:t=k
      ·rw [if_neg c,if_pos (by omega),e,HY.out]
      ·rw [if_neg c,if_neg (by omega)]))⟩
    case measure=>simp [intOf];omega
   ·have hd2:drop≤Wd:=by omega
    have HY:Hid (G k=Q):=Lib.hid (by rw [HX.out,if_neg hd])
    go_wp2
    go_roundw
    case rel=>exact ⟨k+1,by omega,by go_num,Lib.hid (HS.out.set (by show (if k<k+1 then G k else 0)=_;rw [if_pos (Nat.lt_succ_self k)];exact HY.out) (fun t ht=>by
     show (if t<k+1 then G t else 0)=if t<k then G t else 0
     by_cases c:t<k
     ·rw [if_pos c,if_pos (by omega)]
     ·rw [if_neg c,if_neg (by omega)]))⟩
    case measure=>simp [intOf];omega
  ·obtain rfl:k=n:=by omega
   obtain ⟨r0,r1,r2,r3,r4,r5,r6,r7,r8⟩:=HS.out.t1
   have HG:=Lib.hid HS.out.g
   have hne:b≠w.heap.size:=fun h=>HS.out.n1 h.symm
   have hne2:¬ob=w.heap.size:=HS.out.n3
   have hne3:¬w.heap.size=ob:=fun h=>HS.out.n3 h.symm
   go_wp2
   (try simp only [Exit.inBlock,Exit.then])
   refine bodyPost_ret (v:=.agg #[.int .i64 nR,.int .i64 nC,.int .i64 2,.slice (some ⟨b,0,none⟩) k k]) ?_ rfl ⟨_,_,rfl,?_,hnl,gr⟩
   ·rw [results_one rfl]
    go_simp
   ·refine ⟨fun i hi=>HB.out i,.inr ⟨b,0,rfl,?_,fun i hi=>?_⟩⟩
    ·simpa [World.setCell] using HS.out.r.lies
    ·rw [Nat.zero_add]
     exact ((((((HS.out.r.congr (fun t ht=>(if_pos ht).symm)).other (a:=⟨w.heap.size,0,none⟩) hne _).other (a:=⟨w.heap.size,1,none⟩) hne _).other (a:=⟨w.heap.size,2,none⟩) hne _).other (a:=⟨w.heap.size,3,none⟩) hne _)).cell i hi
end Go.Proofs.YtpjpmmiepfoiaaaGreat
