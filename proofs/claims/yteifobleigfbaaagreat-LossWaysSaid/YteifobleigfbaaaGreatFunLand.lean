/- What Exp takes of its number: how many halvings, and what is left (no program here). Amounts as fractions, and how far from exact a rounded result lies: at most one unit (no program here). What is left of any number that Exp takes, by how far each step lies from what is exact (no program here). Exp's bounds (no program here). Tanh and Sigmoid: what is odd, and their bounds (no program here). The landed functions' own ways as plain numbers: a number moved near 1 by its whole bits, signs laid on and taken off (no program here). -/
import Derived.Test.YteifobleigfbaaaGreatFunMath
namespace Go.Proofs.YteifobleigfbaaaGreat
open Go.RowKit
set_option linter.unusedVariables false
set_option linter.unusedSimpArgs false

theorem op_word {e:Ending} (h:ShapeE e):0≤valI e∧valI e≤4294967295:=by
 obtain ⟨_,_,_,_,_,_,a,b⟩:=op_val h (V:=valI e) rfl
 exact ⟨a,b⟩

theorem fma_word (a b c:Int):0≤fmaV a b c∧fmaV a b c≤4294967295:=op_word (fma_shape 2 0 a b c)

theorem mul_word (a b:Int):0≤mulV a b∧mulV a b≤4294967295:=op_word (mul_shape 2 0 a b)

theorem sub_word (a b:Int):0≤subV a b∧subV a b≤4294967295:=op_word (sub_shapeE 2 0 a b)

theorem div_word (a b:Int):0≤divV a b∧divV a b≤4294967295:=op_word (div_shape 2 0 a b)

theorem frm_word (n:Int):0≤frmV n∧frmV n≤4294967295:=op_word (from_shapeE 2 0 n)

theorem sca_word (a n:Int) (a0:0≤a) (a1:a≤4294967295):0≤scaV a n∧scaV a n≤4294967295:=op_word (sca_shapeE 2 0 a n a0 a1)

theorem word_parts (e m x:Int) (hx:x=(e+149)*8388608+m) (e0:-149≤e) (e1:e≤104) (m0:8388608≤m) (m1:m<16777216):
  8388608≤x∧x<2139095040∧unE 2 x=e∧unM 2 x=m∧fS 2 x=false∧finI 2 x=true:=by
 have eX:fX 2 x=e+150:=by show x / 8388608%256=_;omega
 have eF:fF 2 x=m - 8388608:=by show x%8388608=_;omega
 have t:topx 2=255:=rfl
 have l:lst 2=-149:=rfl
 have h:hid 2=8388608:=rfl
 refine ⟨by omega,by omega,?_,?_,?_,?_⟩
 ·unfold unE;rw [eX,t,l,if_neg (by omega),if_neg (by omega)];omega
 ·unfold unM;rw [eX,eF,t,h,if_neg (by omega),if_neg (by omega)];omega
 ·rw [fS_two x (by omega) (by omega),decide_eq_false (by omega)]
 ·unfold finI;rw [eX,t];exact decide_eq_true (by omega)

theorem kz_pos (x:Int) (h:x<2147483648):kz x=x:=by unfold kz;rw [if_neg (by omega)]

theorem neg_is (a:Int) (a0:0≤a) (a1:a≤4294967295) (hn:nanB 2 a=false):negV a=xorI 2 a∧nanB 2 (negV a)=false∧(a<2147483648→negV a=a+2147483648):=by
 obtain ⟨x1,x2,x3,x4,x5⟩:=xor_parts 2 a a0 a1
 have e:negV a=xorI 2 a:=by
  unfold negV minI
  rw [hn,if_neg (by decide)]
  exact low_is 2 _ x4 (by rw [show msk 2=4294967295 by rfl];exact x5)
 have hc:clsI 2 (xorI 2 a)=clsI 2 a:=by unfold clsI;rw [x1,x2]
 refine ⟨e,?_,fun h=>?_⟩
 ·rw [e];unfold nanB at hn ⊢;rw [hc];exact hn
 ·rw [e];unfold xorI
  rw [show sgb 2=2147483648 by rfl,xor32 a 31 (b:=2147483648) a0 a1 (by decide) (by decide),if_neg (by omega)]

theorem frm_nan (n:Int):nanB 2 (frmV n)=false:=by
 have hp:∀ s V,nanB 2 (valI (PackE 2 0 s V))=false:=fun s V=>by
  have h:=mag_top V
  show nanB 2 (rdV 2 0 s V)=false
  unfold rdV
  rw [mag_sign]
  have e0:zerI 2 false=0:=rfl
  have e1:zerI 2 true=2147483648:=rfl
  cases s
  ·rw [e0];exact (nan_kz _ (by omega) (by omega)).2 (by rw [kz_pos _ (by omega)];omega)
  ·rw [e1];exact (nan_kz _ (by omega) (by omega)).2 (by unfold kz;rw [if_pos (by omega)];omega)
 unfold frmV fromE
 split <;> exact hp _ _

theorem frm_neg (n:Int):xorI 2 (frmV n)=negV (frmV n):=by
 obtain ⟨h0,h1⟩:=frm_word n
 exact (neg_is _ h0 h1 (frm_nan n)).1.symm

/-! Scaling. -/
theorem sca_val (p n:Int) (hp:finI 2 p=true) (hs:fS 2 p=false) (n0:-150≤n) (n1:n≤128):scaV p n=(magN 2 0 false ((unM 2 p).toNat*2^(unE 2 p+n+10100).toNat):Int):=by
 obtain ⟨a,b⟩:=fin_kinds p hp
 obtain ⟨u0,u1⟩:=unE_bd 2 p
 have hl:limI n=n:=by unfold limI;rw [if_neg (by omega),if_neg (by omega)]
 have hv:valN (clampE (unE 2 p+limI n)) (unM 2 p) false=(unM 2 p).toNat*2^(unE 2 p+n+10100).toNat:=by
  unfold valN
  rw [hl,show clampE (unE 2 p+n)=unE 2 p+n by unfold clampE;rw [if_neg (by omega),if_neg (by omega)],Bool.toNat_false,Nat.add_zero]
 unfold scaV scaE
 rw [a,hp,hs,hv,if_neg (by decide),if_neg (by decide)]
 show zerI 2 false+_=_
 rw [show zerI 2 false=0 by rfl,Int.zero_add]

theorem mag_num (x:Int) (h0:0≤x) (h1:x<2147483648) (h:finI 2 x=true):(magN 2 0 false (numN 2 x):Int)=x:=by
 have:=rkN_self x h0 (by omega) h
 unfold rkN at this
 rw [up_num] at this
 omega

theorem len_land (M:Int) (m0:0<M) (m1:M<16777216):1≤lenI M∧lenI M≤24∧2^(lenI M - 1).toNat≤M∧M<2^(lenI M).toNat:=by
 obtain ⟨X,rfl⟩:=Int.eq_ofNat_of_zero_le (Int.le_of_lt m0)
 have hl:=len_log (X:Int) m0
 rw [Int.toNat_natCast] at hl
 have h1:=Nat.log2_self_le (n:=X) (by omega)
 have h2:=Nat.lt_log2_self (n:=X)
 have h3:X.log2<24:=(Nat.log2_lt (by omega)).2 (by omega)
 rw [hl,show ((X.log2:Int)+1 - 1).toNat=X.log2 by omega,show ((X.log2:Int)+1).toNat=X.log2+1 by omega,pow2_cast,pow2_cast]
 exact ⟨by omega,by omega,by omega,by omega⟩

theorem up_bits (M:Int) (m0:0<M) (m1:M<16777216):∃ j:Nat,(j:Int)=24 - lenI M∧(24 - lenI M).toNat=j∧j≤23∧8388608≤M*2^j∧M*2^j<16777216:=by
 obtain ⟨l0,l1,l2,l3⟩:=len_land M m0 m1
 refine ⟨(24 - lenI M).toNat,by omega,rfl,by omega,?_,?_⟩
 ·have a:2^(lenI M - 1).toNat*2^(24 - lenI M).toNat≤M*2^(24 - lenI M).toNat:=Int.mul_le_mul_of_nonneg_right l2 (Int.le_of_lt (pow2_pos _))
  rw [←Int.pow_add,show (lenI M - 1).toNat+(24 - lenI M).toNat=23 by omega] at a
  have e23:(2:Int)^23=8388608:=by decide
  omega
 ·have a:M*2^(24 - lenI M).toNat<2^(lenI M).toNat*2^(24 - lenI M).toNat:=Int.mul_lt_mul_of_pos_right l3 (pow2_pos _)
  rw [←Int.pow_add,show (lenI M).toNat+(24 - lenI M).toNat=24 by omega] at a
  have e24:(2:Int)^24=16777216:=by decide
  omega

theorem move_pow (X j T:Nat) (h:j≤T):X*2^T=(X*2^j)*2^(T - j):=by
 rw [Nat.mul_assoc,←Nat.pow_add,show j+(T - j)=T by omega]

theorem frm_word_is (M:Int) (m0:0<M) (m1:M<16777216) (j:Nat) (hj:(j:Int)=24 - lenI M) (hb0:8388608≤M*2^j) (hb1:M*2^j<16777216) (x:Int) (hx:x=(-(j:Int)+149)*8388608+M*2^j):
  frmV M=x:=by
 obtain ⟨l0,l1,_,_⟩:=len_land M m0 m1
 obtain ⟨p0,p1,p2',p3,p4,p5⟩:=word_parts (-(j:Int)) (M*2^j) x hx (by omega) (by omega) hb0 hb1
 have hm:=mag_num x (by omega) (by omega) p5
 unfold numN at hm
 rw [p2',p3] at hm
 obtain ⟨T,hT⟩:∃ T:Nat,T=10100:=⟨_,rfl⟩
 have hv:(M*2^j).toNat*2^(-(j:Int)+10100).toNat=valN (clampE 0) M false:=by
  unfold valN
  rw [show (clampE 0+10100).toNat=T by rw [hT];decide,show (-(j:Int)+10100).toNat=T - j by omega]
  obtain ⟨X,rfl⟩:=Int.eq_ofNat_of_zero_le (Int.le_of_lt m0)
  rw [Int.toNat_natCast,show ((X:Int)*2^j).toNat=X*2^j by rw [pow2_cast,←Int.natCast_mul,Int.toNat_natCast],move_pow X j T (by omega)]
  rfl
 rw [hv] at hm
 unfold frmV fromE
 rw [if_neg (by omega)]
 show zerI 2 false+_=x
 rw [show zerI 2 false=0 by rfl,Int.zero_add]
 exact hm

theorem sca_word_is (e m n x y:Int) (hx:x=(e+149)*8388608+m) (hy:y=(e+n+149)*8388608+m) (e0:-149≤e) (e1:e≤104) (f0:-149≤e+n) (f1:e+n≤104) (n0:-150≤n) (n1:n≤128) (m0:8388608≤m) (m1:m<16777216):
  scaV x n=y:=by
 obtain ⟨p0,p1,p2',p3,p4,p5⟩:=word_parts e m x hx e0 e1 m0 m1
 obtain ⟨q0,q1,q2,q3,q4,q5⟩:=word_parts (e+n) m y hy f0 f1 m0 m1
 have hm:=mag_num y (by omega) (by omega) q5
 unfold numN at hm
 rw [q2,q3] at hm
 rw [sca_val x n p5 p4 n0 n1,p2',p3]
 exact hm

theorem amt_move (X a b c:Nat) (h:a+b=c):X*2^a*2^b=X*2^c:=by
 subst h;rw [Nat.mul_assoc,←Nat.pow_add]

theorem half_amt (m:Int) (m0:0≤m):amtE (-23+-24) (m*8388608)=amtE (-24) m:=by
 unfold amtE
 obtain ⟨X,rfl⟩:=Int.eq_ofNat_of_zero_le m0
 obtain ⟨b,hb⟩:∃ b:Nat,(-23+-24+298:Int).toNat=b:=⟨_,rfl⟩
 obtain ⟨c,hc⟩:∃ c:Nat,(-24+298:Int).toNat=c:=⟨_,rfl⟩
 have hbc:23+b=c:=by omega
 rw [hb,hc]
 clear hb hc
 have h1:((X:Int)*8388608).toNat=X*8388608:=by omega
 rw [h1,Int.toNat_natCast,show (8388608:Nat)=2^23 by decide]
 exact amt_move X 23 _ _ hbc

theorem near_is (x:Int) (m0:0<unM 2 x):0≤frmV (unM 2 x)∧frmV (unM 2 x)≤4294967295∧unE 2 (frmV (unM 2 x))=lenI (unM 2 x) - 24∧1≤lenI (unM 2 x)∧lenI (unM 2 x)≤24
  ∧ scaV (frmV (unM 2 x)) (1 - lenI (unM 2 x))=logM x∧scaV (logM x) (-1)=mulV (logM x) 1056964608∧1065353216≤logM x∧logM x<1073741824:=by
 obtain ⟨_,m1⟩:=unM_bd 2 x
 unfold logM
 generalize unM 2 x=M at m0 m1
 obtain ⟨j,hj,hj2,hj3,b0,b1⟩:=up_bits M m0 m1
 rw [hj2]
 obtain ⟨l0,l1,_,_⟩:=len_land M m0 m1
 have hf:=frm_word_is M m0 m1 j hj b0 b1 _ rfl
 obtain ⟨p0,p1,p2',p3,p4,p5⟩:=word_parts (-(j:Int)) (M*2^j) _ rfl (by omega) (by omega) b0 b1
 have hs:=sca_word_is (-(j:Int)) (M*2^j) (1 - lenI M) _ (126*8388608+M*2^j) rfl (by omega) (by omega) (by omega) (by omega) (by omega) (by omega) (by omega) b0 b1
 have hw:=word_parts (-23) (M*2^j) (1065353216+M*2^j%8388608) (by omega) (by omega) (by omega) b0 b1
 have hh:=sca_word_is (-23) (M*2^j) (-1) (1065353216+M*2^j%8388608) (125*8388608+M*2^j) (by omega) (by omega) (by omega) (by omega) (by omega) (by omega) (by omega) (by omega) b0 b1
 obtain ⟨q0,q1,q2,q3,q4,q5⟩:=hw
 obtain ⟨d0,d1,d2,d3,d4,d5⟩:=word_parts (-24) (M*2^j) (125*8388608+M*2^j) (by omega) (by omega) (by omega) b0 b1
 rw [hf]
 refine ⟨by omega,by omega,by rw [p2'];omega,l0,l1,by rw [hs];omega,?_,by omega,by omega⟩
 rw [hh]
 generalize 1065353216+M*2^j%8388608=x' at q0 q1 q2 q3 q4 q5
 generalize 125*8388608+M*2^j=d at d0 d1 d2 d3 d4 d5
 generalize M*2^j=m at b0 b1 q3 d3
 have hsp:sP x' 1056964608=sV d:=by
  unfold sP sV sgP amtP
  rw [q4,d4,q2,q3,d2,d3,show fS 2 1056964608=false by decide,show unE 2 1056964608=-24 by decide,show unM 2 1056964608=8388608 by decide]
  exact congrArg (sg false) (half_amt m (by omega))
 have hrd:=rk_self d (by omega) (by omega) d5
 have hkd:=kz_pos d (by omega)
 have hk:=mul_kz x' 1056964608 q5 (by decide)
 rw [hsp,hrd,hkd] at hk
 clear hrd hkd hsp
 obtain ⟨w0,w1⟩:=mul_word x' 1056964608
 generalize mulV x' 1056964608=Y at hk w0 w1 ⊢
 unfold kz at hk;split at hk <;> omega

theorem inf_not (x:Int) (hn:nanB 2 x=false):infB 2 x=!finI 2 x:=by
 rcases three_kinds 2 x with ⟨a,b,c⟩ | ⟨a,b,c,_⟩ | ⟨a,b,c,_⟩
 ·rw [a] at hn;exact absurd hn (by decide)
 ·rw [b,c];rfl
 ·rw [b,c];rfl

theorem below_nought (x:Int) (x0:0≤x) (x1:x≤4294967295) (hn:nanB 2 x=false) (hz:nouB 2 x=false):lesB 2 x 0=fS 2 x:=by
 have hk:¬kz x=0:=fun h=>by
  have:nouB 2 x=true:=(nou_a 2 x).2 (by rw [a_two];unfold kz at h;split at h <;> omega)
  rw [this] at hz;exact absurd hz (by decide)
 rw [nan_fin' x x0 x1 0 (by omega) (by omega) hn (by decide) hk,fS_two x x0 x1,show kz 0=0 by decide]
 unfold kz at hk ⊢
 by_cases c:2147483648≤x
 ·rw [if_pos c] at hk ⊢;rw [decide_eq_true c,decide_eq_true (by omega)]
 ·rw [if_neg c] at hk ⊢;rw [decide_eq_false c,decide_eq_false (by omega)]

theorem along_is (r:Int):alongV 985008993 r [1007192201,1026206379,1042983595,1056964608,1065353216,1065353216]=fmaV (fmaV (fmaV (fmaV (fmaV (fmaV 985008993 r 1007192201) r 1026206379) r 1042983595) r 1056964608) r 1065353216) r 1065353216:=by
 unfold alongV;simp only [List.foldl]

theorem log_word (x:Int):0≤logI x∧logI x≤4294967295:=by
 unfold logI
 split
 ·omega
 ·split
  ·omega
  ·split
   ·omega
   ·split
    ·omega
    ·exact fma_word _ _ _

theorem exp_word (x:Int) (x0:0≤x) (x1:x≤4294967295):0≤expI x∧expI x≤4294967295:=by
 unfold expI
 split
 ·omega
 ·split
  ·omega
  ·split
   ·omega
   ·have:0≤expP x∧expP x≤4294967295:=by unfold expP;rw [along_is];exact fma_word _ _ _
    exact sca_word _ _ this.1 this.2
end Go.Proofs.YteifobleigfbaaaGreat
