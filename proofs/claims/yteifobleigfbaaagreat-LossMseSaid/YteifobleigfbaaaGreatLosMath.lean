/- Differences of mild numbers, their squares, as plain numbers: what LossMse asks. No program. (Written by gen64.py.) -/
import Derived.Test.YteifobleigfbaaaGreatLosM
import Derived.KernelRfl
namespace Go.Proofs.YteifobleigfbaaaGreat
open Go.RowKit
set_option linter.unusedVariables false
set_option linter.unusedSimpArgs false

theorem cmp_kz (x y:Int) (x0:0≤x) (x1:x≤4294967295) (y0:0≤y) (y1:y≤4294967295) (nx:nanB 2 x=false) (ny:nanB 2 y=false):cmpC 2 x y=if kz x<kz y then -1 else if kz y<kz x then 1 else 0:=by
 have sx:=fS_two x x0 x1
 have sy:=fS_two y y0 y1
 have e1:sgb 2=2147483648:=by decide
 have zx:nouB 2 x=decide (x%2147483648=0):=by
  rw [Bool.eq_iff_iff,nou_a,a_two,decide_eq_true_eq]
 have zy:nouB 2 y=decide (y%2147483648=0):=by
  rw [Bool.eq_iff_iff,nou_a,a_two,decide_eq_true_eq]
 unfold cmpC keyI
 rw [nx,ny,sx,sy,zx,zy,e1,kz_parts x x0 x1,kz_parts y y0 y1,sx,sy]
 simp only [Bool.or_false,Bool.false_eq_true,if_false,Bool.and_eq_true,decide_eq_true_eq]
 split <;> (repeat' split) <;> omega
theorem sub_line (a b:Int) (a0:0≤a) (a1:a≤4294967295) (b0:0≤b) (b1:b≤4294967295) (ha:finI 2 a=true) (hb:finI 2 b=true):kz (subV a b)=rk (sV a - sV b)∧(kz a<kz b↔sV a<sV b)∧(kz b<kz a↔sV b<sV a):=by
 refine ⟨sub_kz a b b0 b1 ha hb,?_,?_⟩
 ·have:=kz_line b a b0 b1 a0 a1 hb ha
  omega
 ·have:=kz_line a b a0 a1 b0 b1 ha hb
  omega

theorem rk_odd (S:Int):rk (-S)=-rk S:=by
 by_cases c:0≤S
 ·obtain ⟨A,rfl⟩:=Int.eq_ofNat_of_zero_le c
  rw [rk_neg,rk_pos]
 ·obtain ⟨A,hA⟩:=Int.eq_ofNat_of_zero_le (show 0≤-S by omega)
  have:S=-(A:Int):=by omega
  subst this
  rw [Int.neg_neg,rk_pos,rk_neg]
  omega
theorem frm_small (n:Nat) (h0:1≤n) (h1:n≤16):1065353216≤frmV n∧frmV n≤1098907648:=by
 rcases (show n=1∨n=2∨n=3∨n=4∨n=5∨n=6∨n=7∨n=8∨n=9∨n=10∨n=11∨n=12∨n=13∨n=14∨n=15∨n=16 by omega) with rfl | rfl | rfl | rfl | rfl | rfl | rfl | rfl | rfl | rfl | rfl | rfl | rfl | rfl | rfl | rfl <;> decide +kernel

theorem mid_parts (x:Int) (x0:0≤x) (x1:x≤4294967295) (h0:645922816≤x%2147483648) (h1:x%2147483648≤1157627904):clsI 2 x=2∧-73≤unE 2 x∧unE 2 x≤-12∧8388608≤unM 2 x∧unM 2 x≤16777215:=by
 have e2:topx 2=255:=by decide
 have e3:hid 2=8388608:=by decide
 have e4:lst 2=-149:=by decide
 have e5:fX 2 x=x / 8388608%256:=by
  unfold fX;first | rfl | (rw [e3,e2];rfl) | (rw [e3,e2])
 have e6:fF 2 x=x%8388608:=by
  unfold fF;first | rfl | (rw [e3])
 refine ⟨?_,?_⟩
 ·unfold clsI
  rw [e5,e2,if_neg (by omega),if_pos (by omega)]
 ·unfold unE unM
  rw [e5,e6,e2,e3,e4,if_neg (by omega),if_neg (by omega),if_neg (by omega),if_neg (by omega)]
  omega

theorem quo_big (M N:Nat) (hM:8388608≤M) (hN:0<N) (h:N≤16777216):2^99≤quoN M N 100:=by
 unfold quoN
 rw [Nat.le_div_iff_mul_le hN]
 have h2:=Nat.mul_le_mul_left (2^99) h
 have h3:=Nat.mul_le_mul_right (2^100) hM
 exact Nat.le_trans h2 (Nat.le_trans (by decide) h3)

theorem quo_up (e:Int) (M N T:Nat) (h:2^99≤quoN M N 100) (hE:T≤99+(e - 100+10100).toNat):2^T≤quoN M N 100*2^(e - 100+10100).toNat+(quoB M N 100).toNat:=by
 generalize (e - 100+10100).toNat=E at hE ⊢
 refine Nat.le_trans (Nat.pow_le_pow_right (by decide) hE) ?_
 rw [Nat.pow_add]
 exact Nat.le_trans (Nat.mul_le_mul_right _ h) (Nat.le_add_right _ _)

theorem mag_tiny:∀ T:Nat,T=10038→magN 2 0 false (2^T)=545259520:=by
 intro T hT;subst hT;kernel_rfl

theorem val_pack (f mode:Int) (s:Bool) (V:Nat):valI (PackE f mode s V)=rdV f mode s V:=rfl

theorem div_sign (x m:Int) (x0:0≤x) (x1:x≤4294967295) (h0:645922816≤x%2147483648) (h1:x%2147483648≤1157627904) (m0:1065353216≤m) (m1:m≤1098907648):
  ∃ q:Int,1≤q∧q≤2139095040∧kz (divV x m)=if 2147483648≤x then -q else q:=by
 obtain ⟨c1,c2,c3,c4,c5⟩:=mid_parts x x0 x1 h0 h1
 obtain ⟨d1,d2,d3,d4,d5⟩:=mid_parts m (by omega) (by omega) (by omega) (by omega)
 have hE:divE 2 0 x m=quoE 2 0 (sgP 2 x m) (unE 2 x - unE 2 m) (unM 2 x).toNat (unM 2 m).toNat:=by
  unfold divE nanB nouB infB
  rw [c1,d1]
  rfl
 have hs:sgP 2 x m=decide (2147483648≤x):=by
  unfold sgP
  rw [fS_two x x0 x1,fS_two m (by omega) (by omega),decide_eq_false (show ¬2147483648≤m by omega)]
  simp
 obtain ⟨T,hT⟩:∃ T:Nat,T=10038:=⟨_,rfl⟩
 have hX:=quo_up (unE 2 x - unE 2 m) (unM 2 x).toNat (unM 2 m).toNat T (quo_big _ _ (by omega) (by omega) (by omega)) (by omega)
 have hm:=mag_mono 2 0 false hX
 rw [mag_tiny T hT] at hm
 have ht:=mag_top ((quoN (unM 2 x).toNat (unM 2 m).toNat 100)*2^(unE 2 x - unE 2 m - 100+10100).toNat+(quoB (unM 2 x).toNat (unM 2 m).toNat 100).toNat)
 unfold divV
 rw [hE,hs]
 unfold quoE
 rw [val_pack]
 generalize (quoN (unM 2 x).toNat (unM 2 m).toNat 100)*2^(unE 2 x - unE 2 m - 100+10100).toNat+(quoB (unM 2 x).toNat (unM 2 m).toNat 100).toNat=X at hm ht ⊢
 refine ⟨(magN 2 0 false X:Int),by omega,by omega,?_⟩
 unfold rdV
 rw [mag_sign,kz_mag _ _ (by omega) (by omega)]
 by_cases c:2147483648≤x
 ·rw [decide_eq_true c,if_pos (show true=true from rfl),if_pos c]
 ·rw [decide_eq_false c,if_neg (show ¬false=true by decide),if_neg c]
theorem mil_whole (x:Int) (x0:0≤x) (x1:x≤4294967295) (h:x%2147483648=0∨(1048576000≤x%2147483648∧x%2147483648≤1082130431)) (T:Nat) (hT:T=273):
  ∃ m:Int,sV x=m*((2^T:Nat):Int)∧-134217728<m∧m<134217728∧(m=0↔x%2147483648=0):=by
 have e2:topx 2=255:=by decide
 have e3:hid 2=8388608:=by decide
 have e4:lst 2=-149:=by decide
 have e5:fX 2 x=x / 8388608%256:=by
  unfold fX;first | rfl | (rw [e3,e2];rfl) | (rw [e3,e2])
 have e6:fF 2 x=x%8388608:=by
  unfold fF;first | rfl | (rw [e3])
 rcases h with h | ⟨h0,h1⟩
 ·have hu:unM 2 x=0:=by
   unfold unM
   rw [e5,e6,e2,if_neg (by omega),if_pos (by omega)]
   omega
  refine ⟨0,?_,by decide,by decide,by simp [h]⟩
  unfold sV amtE sg
  rw [hu]
  simp
 ·have hE:unE 2 x=x / 8388608%256 - 150:=by
   unfold unE
   rw [e5,e2,e4,if_neg (by omega),if_neg (by omega)]
   omega
  have hM:unM 2 x=x%8388608+8388608:=by
   unfold unM
   rw [e5,e6,e2,e3,if_neg (by omega),if_neg (by omega)]
  obtain ⟨j,hj,lj⟩:∃ j:Nat,(unE 2 x+298).toNat=T+j∧j≤3:=⟨(unE 2 x+25).toNat,by omega,by omega⟩
  obtain ⟨M,hN⟩:∃ M:Nat,(unM 2 x).toNat=M:=⟨_,rfl⟩
  have hM0:8388608≤M∧M≤16777215:=by omega
  have h8:1≤2^j∧2^j≤8:=by
   rcases (show j=0∨j=1∨j=2∨j=3 by omega) with rfl | rfl | rfl | rfl <;> decide
  have hP:8388608≤M*2^j∧M*2^j≤16777215*8:=⟨by have:=Nat.mul_le_mul hM0.1 h8.1;omega,Nat.mul_le_mul hM0.2 h8.2⟩
  have hV:amtE (unE 2 x) (unM 2 x)=M*2^j*2^T:=by
   unfold amtE
   rw [hN,hj,Nat.pow_add,Nat.mul_comm (2^T),Nat.mul_assoc]
  refine ⟨sg (fS 2 x) (M*2^j),?_,?_⟩
  ·unfold sV
   rw [hV]
   generalize M*2^j=A
   generalize 2^T=U
   unfold sg
   cases fS 2 x
   ·simp
   ·simp [Int.neg_mul]
  ·generalize M*2^j=A at hP
   unfold sg
   cases fS 2 x
   ·simp only [Bool.false_eq_true,if_false];omega
   ·simp only [if_true];omega
theorem rk_ends:∀ T:Nat,T=273→rkN (2^T)=855638016∧rkN (268435456*2^T)=1090519040:=by
 intro T hT;subst hT;exact ⟨by kernel_rfl,by kernel_rfl⟩

theorem rk_dif (m:Int) (T:Nat) (hT:T=273) (h0:1≤m) (h1:m≤268435456):855638016≤rk (m*((2^T:Nat):Int))∧rk (m*((2^T:Nat):Int))≤1090519040:=by
 obtain ⟨e1,e2⟩:=rk_ends T hT
 obtain ⟨M,rfl⟩:=Int.eq_ofNat_of_zero_le (show 0≤m by omega)
 rw [←Int.natCast_mul,rk_pos]
 have a1:=rkN_mono (show 2^T≤M*2^T by have:=Nat.mul_le_mul_right (2^T) (show 1≤M by omega);rwa [Nat.one_mul] at this)
 have a2:=rkN_mono (show M*2^T≤268435456*2^T from Nat.mul_le_mul_right _ (by omega))
 rw [e1] at a1
 rw [e2] at a2
 omega

theorem rk_dif_neg (m:Int) (T:Nat) (hT:T=273) (h0:m≤-1) (h1:-268435456≤m):855638016≤-rk (m*((2^T:Nat):Int))∧-rk (m*((2^T:Nat):Int))≤1090519040:=by
 have:=rk_dif (-m) T hT (by omega) (by omega)
 rw [Int.neg_mul,rk_odd] at this
 exact this
theorem eight_twice:rk (2*sV 1090519040)=1098907648:=by kernel_rfl

theorem sV_nought:sV 0=0:=by decide

theorem two_mid (d:Int) (d0:0≤d) (d1:d≤4294967295) (h0:855638016≤kz d) (h1:kz d≤1090519040):855638016≤kz (addV d d)∧kz (addV d d)≤1098907648:=by
 have hf:finI 2 d=true:=(fin_kz d d0 d1).2 (by omega)
 have hf8:finI 2 1090519040=true:=by decide
 have k8:kz 1090519040=1090519040:=by decide
 have k0:kz 0=0:=by decide
 have l1:=(kz_line 0 d (by decide) (by decide) d0 d1 (by decide) hf).1 (by omega)
 have l2:=(kz_line d 1090519040 d0 d1 (by decide) (by decide) hf hf8).1 (by omega)
 rw [sV_nought] at l1
 have e:=add_kz d d hf hf
 have s:=rk_self d d0 d1 hf
 have m1:=rk_mono (show sV d≤sV d+sV d by omega)
 have m2:=rk_mono (show sV d+sV d≤2*sV 1090519040 by omega)
 rw [eight_twice] at m2
 rw [s] at m1
 rw [e]
 omega

theorem two_mid_neg (d:Int) (d0:0≤d) (d1:d≤4294967295) (h0:855638016≤-kz d) (h1:-kz d≤1090519040):855638016≤-kz (addV d d)∧-kz (addV d d)≤1098907648:=by
 have hf:finI 2 d=true:=(fin_kz d d0 d1).2 (by omega)
 have hf8:finI 2 3238002688=true:=by decide
 have k8:kz 3238002688=-1090519040:=by decide
 have k0:kz 0=0:=by decide
 have s8:sV 3238002688=-sV 1090519040:=by decide +kernel
 have l1:=(kz_line d 0 d0 d1 (by decide) (by decide) hf (by decide)).1 (by omega)
 have l2:=(kz_line 3238002688 d (by decide) (by decide) d0 d1 hf8 hf).1 (by omega)
 rw [sV_nought] at l1
 rw [s8] at l2
 have e:=add_kz d d hf hf
 have s:=rk_self d d0 d1 hf
 have m1:=rk_mono (show sV d+sV d≤sV d by omega)
 have m2:=rk_mono (show -(2*sV 1090519040)≤sV d+sV d by omega)
 rw [rk_odd,eight_twice] at m2
 rw [s] at m1
 rw [e]
 omega
theorem divV_bda (a b:Int):0≤divV a b∧divV a b≤4294967295:=by
 obtain ⟨_,_,_,_,_,_,h0,h1⟩:=op_val (div_shape 2 0 a b) rfl
 exact ⟨h0,h1⟩

theorem subV_bda (a b:Int):0≤subV a b∧subV a b≤4294967295:=by
 obtain ⟨_,_,_,_,_,_,h0,h1⟩:=op_val (sub_shapeE 2 0 a b) rfl
 exact ⟨h0,h1⟩

theorem div_nought (x m:Int) (hx:x=0∨x=2147483648) (m0:1065353216≤m) (m1:m≤1098907648):kz (divV x m)=0:=by
 obtain ⟨d1,-,-,-,-⟩:=mid_parts m (by omega) (by omega) (by omega) (by omega)
 have c1:clsI 2 x=0:=by rcases hx with rfl | rfl <;> decide
 have hE:divE 2 0 x m=excE (zerI 2 (sgP 2 x m)) false:=by
  unfold divE nanB nouB infB
  rw [c1,d1]
  rfl
 unfold divV
 rw [hE]
 show kz (zerI 2 (sgP 2 x m))=0
 cases sgP 2 x m <;> decide

theorem mse_way (z t:Int) (n:Nat) (z0:0≤z) (z1:z≤4294967295) (t0:0≤t) (t1:t≤4294967295) (hz:finI 2 z=true) (ht:finI 2 t=true) (n0:1≤n) (n1:n≤16) (T:Nat) (hT:T=273)
  (m1:Int) (e1:sV z=m1*((2^T:Nat):Int)) (b1:-134217728<m1∧m1<134217728) (m2:Int) (e2:sV t=m2*((2^T:Nat):Int)) (b2:-134217728<m2∧m2<134217728):
  cmpC 2 z t=cmpC 2 (divV (addV (subV z t) (subV z t)) (frmV n)) 0:=by
 obtain ⟨f0,f1⟩:=frm_small n n0 n1
 generalize frmV n=m at f0 f1 ⊢
 obtain ⟨hd,hl,hg⟩:=sub_line z t z0 z1 t0 t1 hz ht
 obtain ⟨d0,d1⟩:=subV_bda z t
 generalize subV z t=d at hd d0 d1 ⊢
 obtain ⟨a0,a1⟩:=addV_bd d d
 obtain ⟨q0,q1⟩:=divV_bda (addV d d) m
 have hU:(0:Int)<((2^T:Nat):Int):=by have:=Nat.two_pow_pos T;omega
 have hS:sV z - sV t=(m1 - m2)*((2^T:Nat):Int):=by rw [e1,e2,Int.sub_mul]
 have k0:kz 0=0:=by decide
 have fz:=fin_kinds z hz
 have ft:=fin_kinds t ht
 rw [cmp_kz z t z0 z1 t0 t1 fz.1 ft.1]
 rw [hS] at hd
 have hlt:kz z<kz t↔m1<m2:=by
  rw [hl,e1,e2]
  exact ⟨fun h=>Int.lt_of_mul_lt_mul_right h (Int.le_of_lt hU),fun h=>Int.mul_lt_mul_of_pos_right h hU⟩
 have hgt:kz t<kz z↔m2<m1:=by
  rw [hg,e1,e2]
  exact ⟨fun h=>Int.lt_of_mul_lt_mul_right h (Int.le_of_lt hU),fun h=>Int.mul_lt_mul_of_pos_right h hU⟩
 have fin:kz (divV (addV d d) m)≤2139095040→-2139095040≤kz (divV (addV d d) m)→cmpC 2 (divV (addV d d) m) 0=if kz (divV (addV d d) m)<0 then -1 else if 0<kz (divV (addV d d) m) then 1 else 0:=fun h1 h2=>by
  have:=cmp_kz (divV (addV d d) m) 0 q0 q1 (by decide) (by decide) ((nan_kz _ q0 q1).2 ⟨h2,h1⟩) (by decide)
  rw [k0] at this
  exact this
 rcases Int.lt_trichotomy m1 m2 with c | c | c
 ·obtain ⟨r0,r1⟩:=rk_dif_neg (m1 - m2) T hT (by omega) (by omega)
  rw [←hd] at r0 r1
  obtain ⟨s0,s1⟩:=two_mid_neg d d0 d1 r0 r1
  have hk:kz (addV d d)=if 2147483648≤addV d d then 2147483648 - addV d d else addV d d:=rfl
  have hb:2147483648≤addV d d:=by
   refine Decidable.byContradiction fun h=>?_
   rw [if_neg h] at hk;omega
  rw [if_pos hb] at hk
  obtain ⟨q,g0,g1,g2⟩:=div_sign (addV d d) m a0 a1 (by omega) (by omega) f0 f1
  rw [if_pos hb] at g2
  rw [fin (by omega) (by omega),if_pos (hlt.2 c),if_pos (by omega)]
 ·subst c
  have hd0:kz d=0:=by rw [hd,Int.sub_self,Int.zero_mul,rk_zero]
  have hf:finI 2 d=true:=(fin_kz d d0 d1).2 (by omega)
  have hs:sV d=0:=by have:=sV_kz d 0 d0 d1 (by decide) (by decide) (by rw [hd0,k0]);rw [this,sV_nought]
  have he:=add_kz d d hf hf
  rw [hs,Int.add_zero,rk_zero] at he
  have hk:kz (addV d d)=if 2147483648≤addV d d then 2147483648 - addV d d else addV d d:=rfl
  have hx:addV d d=0∨addV d d=2147483648:=by
   rw [he] at hk
   split at hk <;> omega
  have hg0:=div_nought (addV d d) m hx f0 f1
  rw [fin (by omega) (by omega),hg0,if_neg (by rw [hlt];omega),if_neg (by rw [hgt];omega)]
  rfl
 ·obtain ⟨r0,r1⟩:=rk_dif (m1 - m2) T hT (by omega) (by omega)
  rw [←hd] at r0 r1
  obtain ⟨s0,s1⟩:=two_mid d d0 d1 r0 r1
  have hk:kz (addV d d)=if 2147483648≤addV d d then 2147483648 - addV d d else addV d d:=rfl
  have hb:¬2147483648≤addV d d:=by
   intro h
   rw [if_pos h] at hk;omega
  rw [if_neg hb] at hk
  obtain ⟨q,g0,g1,g2⟩:=div_sign (addV d d) m a0 a1 (by omega) (by omega) f0 f1
  rw [if_neg hb] at g2
  rw [fin (by omega) (by omega),if_neg (by rw [hlt];omega),if_pos (hgt.2 c),if_neg (by omega),if_pos (by omega)]
end Go.Proofs.YteifobleigfbaaaGreat
