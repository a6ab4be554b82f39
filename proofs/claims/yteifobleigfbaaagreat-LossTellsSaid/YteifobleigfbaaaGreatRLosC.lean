/- The contracts of annealref13's RightRows, annealhelp's Place. (Written by gen67.py.) -/
import Derived.Test.YteifobleigfbaaaGreatRLos
import Derived.Deep.RegionHeld3
import Derived.KernelRfl
import Derived.BigQuiet
namespace Go.Proofs.YteifobleigfbaaaGreat
open Go Go.RowKit
set_option linter.unusedVariables false
set_option linter.unusedSimpArgs false

theorem place_mod (k m:Int) (m0:1≤m):(Int.tmod k m<0→Int.tmod k m+m=k%m)∧(¬Int.tmod k m<0→Int.tmod k m=k%m)∧-m<Int.tmod k m∧Int.tmod k m<m:=by
 have hr:=Int.mul_tdiv_add_tmod k m
 have he:=Int.mul_ediv_add_emod k m
 have h0:=Int.emod_nonneg k (show m≠0 by omega)
 have h1:=Int.emod_lt_of_pos k (show 0<m by omega)
 have hb:=Int.tmod_lt_of_pos k (show 0<m by omega)
 have hc:-m<Int.tmod k m:=by
  have:=Int.tmod_lt_of_pos (-k) (show 0<m by omega)
  rw [Int.neg_tmod] at this
  omega
 have key:∀ q q' r r':Int,m*q+r=k→m*q'+r'=k→0≤r→r<m→0≤r'→r'<m→r=r':=by
  intro q q' r r' e1 e2 a0 a1 b0 b1
  have e3:m*(q - q')=r' - r:=by rw [Int.mul_sub];omega
  rcases Int.lt_trichotomy q q' with c | c | c
  ·have:=Int.mul_le_mul_of_nonneg_left (show q - q'≤-1 by omega) (show 0≤m by omega)
   omega
  ·subst c;omega
  ·have:=Int.mul_le_mul_of_nonneg_left (show 1≤q - q' by omega) (show 0≤m by omega)
   omega
 refine ⟨fun h=>key (Int.tdiv k m - 1) (k / m) _ _ (by rw [Int.mul_sub];omega) he (by omega) (by omega) h0 h1,fun h=>key _ _ _ _ hr he (by omega) hb h0 h1,hc,hb⟩

theorem hplace_any (k m:Int) (w:World) (m0:1≤m) (m1:m≤4096):
  Calls Tryz.prog 10 #[.int .i64 k,.int .i64 m] w fun e w'=>e=.returned (.int .i64 (k%m))∧w=w':=by
 obtain ⟨h1,h2,h3,h4⟩:=place_mod k m m0
 have hnz:¬m=0:=by omega
 have hnz2:(m==0)=false:=by simpa using hnz
 obtain ⟨r,hr⟩:∃ r,Int.tmod k m=r:=⟨_,rfl⟩
 obtain ⟨q,hq⟩:∃ q,k%m=q:=⟨_,rfl⟩
 rw [hr,hq] at h1 h2
 rw [hr] at h3 h4
 rw [hq]
 have hwr:IntKind.i64.wrap r=r:=by rw [IntKind.wrap_i64];omega
 clear hq
 by_cases c:r<0
 ·have e:=h1 c
  have hw2:IntKind.i64.wrap (r+m)=q:=by rw [IntKind.wrap_i64];omega
  clear h1 h2 e
  go_enter Tryz.func10,Tryz.ntmps10
  go_wp2
  go_ret
  exact ⟨rfl,rfl⟩
 ·have e:=h2 c
  subst e
  clear h1 h2
  go_enter Tryz.func10,Tryz.ntmps10
  go_wp2
  go_ret
  exact ⟨rfl,rfl⟩

set_option maxHeartbeats 1000000 in
theorem rrows_bad (R C F:Int) (ad yd:Option Addr) (n c yn yc:Nat) (g y:Nat→Int) (w:World) (hn:n≤9223372036854775807) (hyn:yn≤9223372036854775807) (hr:Reads ad n g w) (hy:ReadsI yd yn y w) (h:¬labX ⟨R,C,F,n,g⟩ yn y=0):
  Calls Tryz.prog 14 #[.agg #[.int .i64 R,.int .i64 C,.int .i64 F,.slice ad n c],.slice yd yn yc] w fun e w'=>e=.returned (.tuple #[.int .i64 0,.int .i64 (labX ⟨R,C,F,n,g⟩ yn y)])∧Grown w w':=by
 obtain ⟨X,hX⟩:∃ X,labX ⟨R,C,F,n,g⟩ yn y=X:=⟨_,rfl⟩
 rw [hX] at h ⊢
 have HX:=Lib.hid (show Ending.returned (.int .i64 (labX ⟨R,C,F,n,g⟩ yn y))=.returned (.int .i64 X) by rw [hX])
 have h1:(X==0)=false:=by simp [h]
 have h2:(X != 0)=true:=by simp [h]
 have H1:=Lib.hid hr
 have H2:=Lib.hid hy
 have HG:=Lib.hid (show Grown w (w.alloc (.cells #[.int .i64 R,.int .i64 C,.int .i64 F,.slice ad n c] 24)) from gr)
 clear h hX hr hy
 go_enter Tryz.func14,Tryz.ntmps14
 go_wp2_with fail
 generalize w.alloc _=W0 at HG ⊢
 refine (rlab_any _ _ _ _ _ _ _ _ _ g y _ hn hyn (H1.out.grown HG.out) (H2.out.grown HG.out)).mono ?_
 rintro e W1 ⟨he,hW1⟩
 rw [HX.out] at he
 subst he
 replace HG:=Lib.hid (grown_trans HG.out hW1)
 clear hW1
 go_wp2
 go_ret2
 exact ⟨rfl,gr⟩

set_option maxHeartbeats 1000000 in
theorem rrows_none (C F:Int) (ad yd:Option Addr) (c yc:Nat) (g y:Nat→Int) (w:World) (hX:labX ⟨0,C,F,0,g⟩ 0 y=0):
  Calls Tryz.prog 14 #[.agg #[.int .i64 0,.int .i64 C,.int .i64 F,.slice ad 0 c],.slice yd 0 yc] w fun e w'=>e=.returned (.tuple #[.int .i64 0,.int .i64 0])∧Grown w w':=by
 have H1:Hid (∀ W,Reads ad 0 g W):=Lib.hid fun W=>Reads.nil ad g W
 have H2:Hid (∀ W,ReadsI yd 0 y W):=Lib.hid fun W=>⟨fun i hi=>absurd hi (Nat.not_lt_zero i),.inl rfl⟩
 have HX:=Lib.hid (show Ending.returned (.int .i64 (labX ⟨0,C,F,0,g⟩ 0 y))=.returned (.int .i64 0) by rw [hX])
 have HT:=Lib.hid (ten_new w (.int .i64 0) (.int .i64 C) (.int .i64 F) (.slice ad 0 c) 24)
 have HG:=Lib.hid (show Grown w (w.alloc (.cells #[.int .i64 0,.int .i64 C,.int .i64 F,.slice ad 0 c] 24)) from gr)
 clear hX
 go_enter Tryz.func14,Tryz.ntmps14
 go_wp2_with fail
 generalize w.alloc _=W0 at HT HG ⊢
 refine (rlab_any _ _ _ _ _ _ _ _ _ g y _ (by omega) (by omega) (H1.out _) (H2.out _)).mono ?_
 rintro e W1 ⟨he,hW1⟩
 rw [HX.out] at he
 subst he
 replace HT:=Lib.hid (HT.out.grown hW1)
 replace HG:=Lib.hid (grown_trans HG.out hW1)
 clear hW1
 obtain ⟨p0,p1,p2,p3,p4,-,-,-,-⟩:=HT.out
 go_wp2_with fail
 refine wp_loop_rounds 1 ?_
 rw [rounds_succ]
 go_wp2
 go_ret2
 exact ⟨rfl,gr⟩

structure RrS (w:World) (t0 t1 t2 t3:Value) (W:World):Prop where
 g:Grown w W
 t:TenAt w.heap.size t0 t1 t2 t3 W

theorem RrS.grown {w:World} {t0 t1 t2 t3:Value} {W W':World} (s:RrS w t0 t1 t2 t3 W) (g:Grown W W'):RrS w t0 t1 t2 t3 W':=⟨grown_trans s.g g,s.t.grown g⟩

theorem fir_step (u:Nat→Int) (lab:Int) (k:Nat):firB u (k+1) lab=(firB u k lab&&firS u lab k):=by
 unfold firB allB
 rw [List.range_succ,List.all_append]
 simp

set_option maxRecDepth 100000 in
set_option maxHeartbeats 2000000 in
theorem rrows_some (F:Int) (R C:Nat) (ad:Option Addr) (n c by' yo yc:Nat) (g ys:Nat→Int) (w:World) (hR:R≤4096) (hR0:0<R) (hC:C≤4096) (hC0:0<C) (hn:n=R*C) (hr:Reads ad n g w) (hX:labX ⟨R,C,F,n,g⟩ R ys=0)
  (hlab:∀ i,i<R→0≤ys i∧ys i<C) (hbl:by'<w.heap.size) (hy:∀ i,i<R→w.cell? ⟨by',yo+i,none⟩=some (.int .i64 (ys i))):
  Calls Tryz.prog 14 #[.agg #[.int .i64 R,.int .i64 C,.int .i64 F,.slice ad n c],.slice (some ⟨by',yo,none⟩) R yc] w fun e w'=>e=.returned (.tuple #[.int .i64 (rgN ⟨R,C,F,n,g⟩ ys R),.int .i64 0])∧Grown w w':=by
 have hm:n≤16777216:=by rw [hn];exact (wrap_mul R C _ hR hC rfl).2
 have hn0:0<n:=by rw [hn];exact Nat.mul_pos hR0 hC0
 have HN:=Lib.hid hn
 clear hn
 have HX:=Lib.hid (show Ending.returned (.int .i64 (labX ⟨R,C,F,n,g⟩ R ys))=.returned (.int .i64 0) by rw [hX])
 have HTn:=Lib.hid (show ∀ r,rgN ⟨R,C,F,n,g⟩ ys (r+1)=rgN ⟨R,C,F,n,g⟩ ys r+(if firB (rowU ⟨R,C,F,n,g⟩ r) C (ys r) then 1 else 0) from fun r=>rfl)
 have HT0:=Lib.hid (show rgN ⟨R,C,F,n,g⟩ ys 0=0 from rfl)
 have HTb:=Lib.hid (rgN_bd ⟨R,C,F,n,g⟩ ys)
 have HUr:=Lib.hid (show ∀ r j,rowU ⟨R,C,F,n,g⟩ r j=widV F g (r*C+j) from fun r j=>rfl)
 generalize rgN ⟨R,C,F,n,g⟩ ys=ST at*
 generalize rowU ⟨R,C,F,n,g⟩=U at*
 have H1:=Lib.hid hr
 have H2:=Lib.hid (show ReadsI (some ⟨by',yo,none⟩) R ys w from ⟨fun i hi=>by have:=hlab i hi;omega,.inr ⟨by',yo,rfl,hbl,hy⟩⟩)
 have HY:=Lib.hid hy
 have HL:=Lib.hid hlab
 have HT:=Lib.hid (ten_new w (.int .i64 R) (.int .i64 C) (.int .i64 F) (.slice ad n c) 24)
 have HG:=Lib.hid (show Grown w (w.alloc (.cells #[.int .i64 R,.int .i64 C,.int .i64 F,.slice ad n c] 24)) from gr)
 have hn:=(show n≤9223372036854775807 by omega)
 clear hX hr hy hlab
 go_enter Tryz.func14,Tryz.ntmps14
 go_wp2_with fail
 generalize w.alloc _=W0 at HT HG ⊢
 refine (rlab_any _ _ _ _ _ _ _ _ _ g ys _ (by omega) (by omega) (H1.out.grown HG.out) (H2.out.grown HG.out)).mono ?_
 rintro e W1 ⟨he,hW1⟩
 rw [HX.out] at he
 subst he
 have HS:Hid (RrS w (.int .i64 R) (.int .i64 C) (.int .i64 F) (.slice ad n c) W1):=Lib.hid ⟨grown_trans HG.out hW1,HT.out.grown hW1⟩
 clear hW1 HT HG
 obtain ⟨p0,p1,p2,p3,p4,-,-,-,-⟩:=HS.out.t
 go_wp2_with fail
 clear p0 p1 p2 p3 p4
 go_loopw [7,8,9,10,11,12] (fun s i _ _ _ _ wr=>∃ I:Nat,I≤R∧i=.int .i64 I∧s=.int .i64 (ST I)∧Hid (RrS w (.int .i64 R) (.int .i64 C) (.int .i64 F) (.slice ad n c) wr)) (fun _ i _ _ _ _ _=>R - (intOf i).toNat)
 case atStart=>exact ⟨0,Nat.zero_le _,rfl,by rw [HT0.out],HS⟩
 case round=>
  rename World=>wr
  clear HS
  obtain ⟨I,hI,rfl,rfl,HS⟩:=hrel
  obtain ⟨s0,s1⟩:=HTb.out I
  obtain ⟨p0,p1,p2,p3,p4,-,-,-,-⟩:=HS.out.t
  by_cases hlt:(I:Int)<R
  ·have hlt':I<R:=by omega
   have HG:=Lib.hid HS.out.g
   have hyl:=HY.out I hlt'
   obtain ⟨l0,l1⟩:=HL.out I hlt'
   obtain ⟨lab,hlb⟩:∃ lab:Nat,ys I=(lab:Int):=⟨(ys I).toNat,by omega⟩
   have hSI:=HTn.out I
   rw [hlb] at hyl l0 l1 hSI
   have HYL:=Lib.hid hyl
   have hl2:lab<C:=by omega
   have hin:=row_in (C:=C) hlt'
   rw [←HN.out] at hin
   obtain ⟨Q,hQ⟩:∃ Q,I*C=Q:=⟨_,rfl⟩
   have hw1:=(wrap_mul I C Q (by omega) hC hQ).1
   rw [hQ] at hin
   have HQ:=Lib.hid hQ
   have HUI:=Lib.hid (show ∀ j,widV F g (Q+j)=U I j from fun j=>by rw [HUr.out,HQ.out])
   generalize U I=u at*
   have HUb:=Lib.hid (show ∀ j,0≤u j∧u j≤4294967295 from fun j=>by rw [←HUI.out];exact wid_bd F g _)
   obtain ⟨s,hs⟩:∃ s,ST I=s:=⟨_,rfl⟩
   rw [hs] at s0 s1 hSI ⊢
   have HSI:=Lib.hid hSI
   obtain ⟨P,hP⟩:∃ P,Q+lab=P:=⟨_,rfl⟩
   have hw2:=wrap_add Q lab P (by omega) (by omega) hP
   have hP2:P<n:=by omega
   have HPU:=Lib.hid (show widV F g P=u lab by rw [←hP];exact HUI.out lab)
   obtain ⟨v0,v1⟩:=HUb.out lab
   obtain ⟨v,hv⟩:∃ v,u lab=v:=⟨_,rfl⟩
   rw [hv] at HPU v0 v1
   have HV:=Lib.hid hv
   have yl:=grown_cell HG.out HYL.out hbl
   have hbl2:=Nat.lt_of_lt_of_le hbl HG.out.2.2
   have hwr:IntKind.i64.wrap (s+1)=s+1:=by rw [IntKind.wrap_i64];omega
   clear hlb hyl hQ hs hSI hP hv
   go_wp2_with fail
   go_region_held3 (fun w'=>w'.cell? ⟨w.heap.size,0,none⟩=some (.int .i64 R)∧w'.cell? ⟨w.heap.size,1,none⟩=some (.int .i64 C)∧w'.cell? ⟨w.heap.size,2,none⟩=some (.int .i64 F)∧w'.cell? ⟨w.heap.size,3,none⟩=some (.slice ad n c)∧w'.cell? ⟨by',yo+I,none⟩=some (.int .i64 lab)) (go_keep) (first
    | (go_at_call 35;(with_reducible refine (twide_any R C F ad n c P g _ hn hP2 (H1.out.grown gr)).mono ?_);rintro e W9 ⟨he,hW⟩;rw [HPU.out] at he;subst he;replace HS:=Lib.hid (HS.out.grown (grown_trans gr hW));replace HG:=Lib.hid (show Grown w W9 from grown_trans gr hW);clear hW p0 p1 p2 p3 p4 yl hbl2;obtain ⟨p0,p1,p2,p3,p4,-,-,-,-⟩:=HS.out.t;have yl:=grown_cell HG.out HYL.out hbl;have hbl2:=Nat.lt_of_lt_of_le hbl HG.out.2.2))
   clear p0 p1 p2 p3 p4 yl hbl2 HG
   go_wp2_with fail
   go_loopw [10,11,12] (fun ok i _ wr=>∃ J:Nat,J≤C∧i=.int .i64 J∧ok=.bool (firB u J lab)∧Hid (RrS w (.int .i64 R) (.int .i64 C) (.int .i64 F) (.slice ad n c) wr)) (fun _ i _ _=>C - (intOf i).toNat)
   case atStart=>exact ⟨0,Nat.zero_le _,rfl,rfl,HS⟩
   case round=>
    rename World=>wv
    clear HS
    obtain ⟨J,hJ,rfl,rfl,HS⟩:=hrel
    have HG:=Lib.hid HS.out.g
    obtain ⟨p0,p1,p2,p3,p4,-,-,-,-⟩:=HS.out.t
    by_cases hlJ:(J:Int)<C
    ·have hlJ':J<C:=by omega
     obtain ⟨P2,hP⟩:∃ P,Q+J=P:=⟨_,rfl⟩
     have hw3:=wrap_add Q J P2 (by omega) (by omega) hP
     have hP3:P2<n:=by omega
     have HPJ:=Lib.hid (show widV F g P2=u J by rw [←hP];exact HUI.out J)
     obtain ⟨x0,x1⟩:=HUb.out J
     have HF:=Lib.hid (show firB u (J+1) lab=(firB u J lab&&!((decide ((J:Int)<(lab:Int))&&!lesB 2 (u J) v) || (decide ((lab:Int)<(J:Int))&&lesB 2 v (u J)))) by rw [fir_step];unfold firS;rw [Int.toNat_natCast,HV.out])
     obtain ⟨x,hx⟩:∃ x,u J=x:=⟨_,rfl⟩
     rw [hx] at HPJ x0 x1 HF
     obtain ⟨B0,hB0⟩:∃ B,firB u J lab=B:=⟨_,rfl⟩
     rw [hB0] at HF ⊢
     obtain ⟨L1,hL1⟩:∃ L,lesB 2 x v=L:=⟨_,rfl⟩
     obtain ⟨L2,hL2⟩:∃ L,lesB 2 v x=L:=⟨_,rfl⟩
     rw [hL1,hL2] at HF
     have HL1:=Lib.hid hL1
     have HL2:=Lib.hid hL2
     clear hP hx hB0 hL1 hL2
     go_wp2_with fail
     refine (twide_any R C F ad n c P2 g _ hn hP3 (H1.out.grown HG.out)).mono ?_
     rintro e W10 ⟨he,hW⟩
     rw [HPJ.out] at he
     subst he
     replace HS:=Lib.hid (HS.out.grown hW)
     replace HG:=Lib.hid HS.out.g
     clear hW p0 p1 p2 p3 p4
     have yl:=grown_cell HG.out HYL.out hbl
     by_cases c1:(J:Int)<lab
     ·have c2:¬(lab:Int)<J:=by omega
      go_wp2_with fail
      refine (nabo_any v x _ v0 v1 x0 x1).mono ?_
      rintro e W11 ⟨he,hW⟩
      rw [HL1.out] at he
      subst he
      replace HS:=Lib.hid (HS.out.grown hW)
      replace HG:=Lib.hid HS.out.g
      clear hW yl
      have yl:=grown_cell HG.out HYL.out hbl
      cases L1
      ·go_wp2
       go_roundw
       case rel=>exact ⟨J+1,by omega,by go_num,by rw [HF.out,decide_eq_true (show (J:Int)<lab by omega),decide_eq_false (show ¬(lab:Int)<J by omega)];cases B0 <;> rfl,HS⟩
       case measure=>simp [intOf];omega
      ·go_wp2
       go_roundw
       case rel=>exact ⟨J+1,by omega,by go_num,by rw [HF.out,decide_eq_true (show (J:Int)<lab by omega),decide_eq_false (show ¬(lab:Int)<J by omega)];cases B0 <;> rfl,HS⟩
       case measure=>simp [intOf];omega
     ·by_cases c2:(lab:Int)<J
      ·go_wp2_with fail
       refine (nabo_any x v _ x0 x1 v0 v1).mono ?_
       rintro e W11 ⟨he,hW⟩
       rw [HL2.out] at he
       subst he
       replace HS:=Lib.hid (HS.out.grown hW)
       replace HG:=Lib.hid HS.out.g
       clear hW yl
       have yl:=grown_cell HG.out HYL.out hbl
       cases L2
       ·go_wp2
        go_roundw
        case rel=>exact ⟨J+1,by omega,by go_num,by rw [HF.out,decide_eq_false (show ¬(J:Int)<lab by omega),decide_eq_true (show (lab:Int)<J by omega)];cases B0 <;> rfl,HS⟩
        case measure=>simp [intOf];omega
       ·go_wp2
        go_roundw
        case rel=>exact ⟨J+1,by omega,by go_num,by rw [HF.out,decide_eq_false (show ¬(J:Int)<lab by omega),decide_eq_true (show (lab:Int)<J by omega)];cases B0 <;> rfl,HS⟩
        case measure=>simp [intOf];omega
      ·go_wp2
       go_roundw
       case rel=>exact ⟨J+1,by omega,by go_num,by rw [HF.out,decide_eq_false (show ¬(J:Int)<lab by omega),decide_eq_false (show ¬(lab:Int)<J by omega)];cases B0 <;> rfl,HS⟩
       case measure=>simp [intOf];omega
    ·obtain rfl:J=C:=by omega
     obtain ⟨B0,hB0⟩:∃ B,firB u J lab=B:=⟨_,rfl⟩
     rw [hB0] at HSI ⊢
     clear hB0
     cases B0
     ·go_wp2
      go_roundw
      case rel=>exact ⟨I+1,by omega,by go_num,by rw [HSI.out];simp,HS⟩
      case measure=>simp [intOf];omega
     ·go_wp2
      go_roundw
      case rel=>exact ⟨I+1,by omega,by go_num,by rw [HSI.out];simp,HS⟩
      case measure=>simp [intOf];omega
  ·obtain rfl:I=R:=by omega
   have HG:=Lib.hid HS.out.g
   go_wp2
   go_ret2
   exact ⟨rfl,HG.out⟩

theorem rrows_any (R C F:Int) (ad yd:Option Addr) (n c yn yc:Nat) (g y:Nat→Int) (w:World) (hn:n≤9223372036854775807) (hyn:yn≤9223372036854775807) (hr:Reads ad n g w) (hy:ReadsI yd yn y w):
  Calls Tryz.prog 14 #[.agg #[.int .i64 R,.int .i64 C,.int .i64 F,.slice ad n c],.slice yd yn yc] w fun e w'=>e=.returned (.tuple #[.int .i64 (rgtN ⟨R,C,F,n,g⟩ yn y),.int .i64 (labX ⟨R,C,F,n,g⟩ yn y)])∧Grown w w':=by
 unfold rgtN
 by_cases h:labX ⟨R,C,F,n,g⟩ yn y=0
 ·rw [if_pos h]
  obtain ⟨h1,h2,h3,h4⟩:=lab_zero h
  obtain ⟨r,k,e1,e2,l1,l2,e3⟩:=right_nat h1
  simp only at e1 e2 e3 h2 h3 h4
  subst e1 e2
  have hry:yn=r:=by omega
  subst hry
  rw [h]
  rcases Nat.eq_zero_or_pos yn with h0 | h0
  ·subst h0
   rw [Nat.zero_mul] at e3
   subst e3
   exact rrows_none k F ad yd c yc g y w h
  ·obtain ⟨b,off,rfl,hl,hc⟩:=readi_at hy h0
   exact rrows_some F yn k ad n c b off yc g y w l1 h0 l2 (by omega) e3 hr h h4 hl hc
 ·rw [if_neg h]
  exact rrows_bad R C F ad yd n c yn yc g y w hn hyn hr hy h
end Go.Proofs.YteifobleigfbaaaGreat
