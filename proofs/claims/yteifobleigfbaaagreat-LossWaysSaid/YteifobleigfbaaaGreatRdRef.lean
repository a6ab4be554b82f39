/- Contracts of the references of package bits: what each call comes to. What the reference's Pack reckons, as plain numbers (no program here). Contracts of the reference's Pack and of what it calls. -/
import Derived.Test.YteifobleigfbaaaGreatRows
import Derived.Test.YteifobleigfbaaaGreatMath
import Derived.WalkKit
import Derived.ProofKit
import Derived.Deep.QuietTactic
import Derived.BigQuiet
import Derived.Lib.Hide
import Derived.Test.YteifobleigfbaaaGreatRFmt
import Derived.Test.YteifobleigfbaaaGreatWorld
import Derived.StillTailTactics
namespace Go.Proofs.YteifobleigfbaaaGreat
open Go.RowKit
set_option linter.unusedVariables false
set_option linter.unusedSimpArgs false

set_option maxHeartbeats 400000 in
theorem rlen_any (v:Int) (w:World) (h0:0≤v) (h1:v≤18446744073709551615):
  Calls Tryz.prog 131 #[.int .u64 v] w fun e w'=>e=.returned (.int .i64 (lenI v))∧w=w':=by
 go_enter Tryz.func131,Tryz.ntmps131
 go_wp2
 go_loop [0,3] (fun x n=>∃ X N:Int,x=.int .u64 X∧n=.int .i64 N∧LenAt v X N 18446744073709551616) (fun x _=>(intOf x).toNat)
 case atStart=>exact ⟨v,0,rfl,rfl,lenAt_start v h0 h1⟩
 case round=>
  obtain ⟨X,N,rfl,rfl,hL⟩:=hrel
  obtain ⟨b0,b1,b2,b3⟩:=lenAt_bd hL h0 h1
  by_cases c:X=0
  ·subst c
   go_wp2
   go_ret
   exact ⟨ret_int (by have:=hL.2.2.2;rw [len_zero] at this;omega),rfl⟩
  ·go_wp2
   exact ⟨⟨_,_,rfl,rfl,lenAt_half hL (by omega)⟩,by simp [intOf];omega⟩

set_option maxHeartbeats 400000 in
theorem rshift_any (v n:Int) (w:World) (h0:0≤v) (h1:v≤18446744073709551615) (n0:-9223372036854775808≤n) (n1:n≤9223372036854775807):
  Calls Tryz.prog 170 #[.int .u64 v,.int .i64 n] w fun e w'=>e=.returned (.tuple #[.int .u64 (shV v n),.bool (shO v n)])∧w=w':=by
 by_cases c:n<0
 ·by_cases c2:n < -64
  all_goals
   go_enter Tryz.func170,Tryz.ntmps170
   go_wp2
   go_loop [0,1,6] (fun x k o=>∃ M:Int,-64≤M∧M<0∧x=.int .u64 v∧k=.int .i64 M∧o=.bool false∧Alike v n M) (fun _ _ _=>0)
   case atStart=>first | exact ⟨_,by omega,by omega,rfl,rfl,rfl,alike_same v n⟩ | exact ⟨_,by omega,by omega,rfl,rfl,rfl,alike_far v n (-64) h0 h1 (by omega) (by omega)⟩
   case round=>
    obtain ⟨M,m0,m1,rfl,rfl,rfl,hM⟩:=hrel
    go_wp2
    go_loop [0,1,6] (fun x k o=>∃ X K:Int,∃ O:Bool,x=.int .u64 X∧k=.int .i64 K∧o=.bool O∧-64≤K∧K≤0∧LeftRel v n M K X O) (fun _ k _=>(-(intOf k)).toNat)
    case atStart=>exact ⟨_,_,_,rfl,rfl,rfl,by omega,by omega,leftRel_start hM m1 h0 h1⟩
    case round=>
     obtain ⟨X,K,O,rfl,rfl,rfl,k0,k1,hR⟩:=hrel
     obtain ⟨x0,x1⟩:=leftRel_bd hR
     by_cases ck:K<0
     ·cases O
      all_goals
       go_wp2
       exact ⟨⟨_,_,_,rfl,rfl,rfl,by omega,by omega,leftRel_step hR h0 _ (by simp)⟩,by simp [intOf];omega⟩
     ·go_wp2
      go_ret2
      obtain ⟨e1,e2⟩:=leftRel_end hR (by omega)
      exact ⟨ret_vb e1 e2,rfl⟩
 ·by_cases c2:64<n
  all_goals
   go_enter Tryz.func170,Tryz.ntmps170
   go_wp2
   go_loop [0,1,6] (fun x k o=>∃ M X K:Int,∃ O:Bool,x=.int .u64 X∧k=.int .i64 K∧o=.bool O∧0≤K∧K≤64∧RightRel v n M K X O) (fun _ k _=>(intOf k).toNat)
   case atStart=>first | exact ⟨_,_,_,_,rfl,rfl,rfl,by omega,by omega,rightRel_start (alike_same v n) (by omega)⟩ | exact ⟨_,_,_,_,rfl,rfl,rfl,by omega,by omega,rightRel_start (alike_far v n 64 h0 h1 (by omega) (by omega)) (by omega)⟩
   case round=>
    obtain ⟨M,X,K,O,rfl,rfl,rfl,k0,k1,hR⟩:=hrel
    obtain ⟨x0,x1⟩:=rightRel_bd hR h0 h1
    have ha:=and_one X x0 x1
    by_cases ck:0<K
    ·cases O
     all_goals
      go_wp2
      exact ⟨⟨_,_,_,_,rfl,rfl,rfl,by omega,by omega,rightRel_step hR _ (by simp)⟩,by simp [intOf];omega⟩
    ·have hK:K=0:=by omega
     subst hK
     obtain ⟨e1,e2⟩:=rightRel_end hR rfl
     have E1:=Lib.hid e1
     have E2:=Lib.hid e2
     clear e1 e2 ha
     go_wp2
     go_loop [0,1,6] (fun x k o=>x=.int .u64 X∧k=.int .i64 0∧o=.bool O) (fun _ _ _=>0)
     case atStart=>exact ⟨rfl,rfl,rfl⟩
     case round=>
      obtain ⟨rfl,rfl,rfl⟩:=hrel
      go_wp2
      go_ret2
      exact ⟨ret_vb E1.out E2.out,rfl⟩

def dvK (v n:Int):Int:=if n≤0 then IntKind.u64.wrap (v*2^(-n).toNat) else shV v n

def dvH (v n:Int):Bool:=if n≤0 then false else shV v (n - 1)%2==1

def dvR (v n:Int):Bool:=if n≤0 then false else shO v (n - 1)

def upB (mode:Int) (neg odd half rest:Bool):Bool:=
 if mode=1 then false else if mode=2 then !neg&&(half || rest) else if mode=3 then neg&&(half || rest) else if mode=4 then half else half&&(rest || odd)

theorem bia_bd (f:Int):15≤bia f∧bia f≤127:=by unfold bia;(repeat' split) <;> decide

theorem bia_lst (f:Int):lst f=1 - bia f - fn f:=by
 unfold lst bia fn;(repeat' split) <;> simp_all

theorem cat_bd (u V:Nat):catU u V≤3:=by unfold catU;(repeat' split) <;> decide

theorem up_grow (mode:Int) (neg:Bool) (k c:Nat) (half rst:Bool) (hc:c≤3) (hh:half=decide (2≤c)) (hr:rst=decide (c%2=1)):
  upB mode neg ((k:Int)%2==1) half rst=growB mode neg k c:=by
 have e:(((k:Int)%2==1)=(k%2==1)):=by rw [Bool.eq_iff_iff,beq_iff_eq,beq_iff_eq];omega
 rw [e]
 rcases (show c=0∨c=1∨c=2∨c=3 by omega) with rfl | rfl | rfl | rfl <;> subst hh hr <;> unfold upB growB <;> (repeat' split) <;> cases neg <;> simp

def AtR (f:Int) (V:Nat) (d K:Int) (half rst:Bool) (N:Int):Prop:=
 (dN f V:Int)=d∧(keptN f V:Int)=K∧half=decide (2≤catN f V)∧rst=decide (catN f V%2=1)∧(V<2^(fn f+luN f)↔N<1 - bia f)

theorem dv_val (X E j:Nat) (k:Int) (more:Bool) (hE:100≤E) (hj:(j:Int)+1=E+k) (hk:-98≤k) (hX:X<18446744073709551616) (hno:k - 1<0→(X:Int)*2^(-(k - 1)).toNat<18446744073709551616):
  dvK X k=((X*2^E+more.toNat) / 2^(j+1):Nat)∧dvH X k=decide (2≤catU (j+1) (X*2^E+more.toNat))∧(dvR X k || more)=decide (catU (j+1) (X*2^E+more.toNat)%2=1):=by
 by_cases c:k≤0
 ·have hm:more.toNat≤1:=Bool.toNat_le _
  have hmm:more.toNat≠0↔more=true:=by cases more <;> simp
  obtain ⟨a,b⟩:=at_left X E more.toNat (-k).toNat (by omega) hm
  have e:j+1=E - (-k).toNat:=by omega
  rw [e,a]
  have hn:=hno (by omega)
  have h2:(X:Int)*2^(-k).toNat<18446744073709551616:=by
   have:(2:Int)^(-k).toNat≤2^(-(k - 1)).toNat:=pow2_le (by omega)
   have:=Int.mul_le_mul_of_nonneg_left this (show 0≤(X:Int) by omega)
   omega
  have h3:0≤(X:Int)*2^(-k).toNat:=Int.mul_nonneg (by omega) (Int.le_of_lt (pow2_pos _))
  have h4:catU (E - (-k).toNat) (X*2^E+more.toNat)=more.toNat:=by
   have hp:2^2≤2^(E - (-k).toNat):=Nat.pow_le_pow_right (by decide) (by omega)
   have hmod:(X*2^E+more.toNat)%2^(E - (-k).toNat)=more.toNat:=by
    have e2:X*2^E=2^(E - (-k).toNat)*(X*2^(-k).toNat):=by
     have:E=(E - (-k).toNat)+(-k).toNat:=by omega
     conv=>lhs;rw [this,Nat.pow_add]
     rw [Nat.mul_left_comm]
    rw [e2,Nat.mul_add_mod,Nat.mod_eq_of_lt (by omega)]
   unfold catU
   rw [hmod]
   cases more
   ·rfl
   ·rw [if_neg (by decide),if_pos (by simp only [Bool.toNat_true];omega)];rfl
  rw [h4]
  unfold dvK dvH dvR
  rw [if_pos c,if_pos c,if_pos c]
  refine ⟨?_,by cases more <;> rfl,by cases more <;> rfl⟩
  rw [u64w _ h3 (by omega),Int.natCast_mul,pow2_cast]
 ·obtain ⟨a,b⟩:=sh_val X E j (k - 1) more hE (by omega) (by omega) hX hno
  obtain ⟨x,y⟩:=halves (X*2^E+more.toNat) j
  have hs:shV (X:Int) k=((X*2^E+more.toNat) / 2^(j+1):Nat):=by
   by_cases c1:k=0
   ·omega
   ·exact (sh_val X E (j+1) k more hE (by omega) (by omega) hX (by omega)).1
  unfold dvK dvH dvR
  rw [if_neg c,if_neg c,if_neg c,hs,a]
  generalize X*2^E+more.toNat=V at*
  refine ⟨rfl,?_,?_⟩
  ·rw [←y,Bool.eq_iff_iff,beq_iff_eq,decide_eq_true_eq]
   split <;> omega
  ·rw [←y,Bool.eq_iff_iff,b,decide_eq_true_eq]
   split <;> omega

theorem rpack_val (f exp sig L U:Int) (more:Bool) (sp:0<sig) (s1:sig≤18446744073709551615) (hL:lenI sig=L)
  (hU:(clampE exp+L - 1<1 - bia f∧U=1 - bia f - fn f)∨(1 - bia f≤clampE exp+L - 1∧U=clampE exp+L - 1 - fn f)):
  AtR f (valN (clampE exp) sig more) (U - lst f) (dvK sig (U - clampE exp)) (dvH sig (U - clampE exp)) (dvR sig (U - clampE exp) || more) (clampE exp+L - 1):=by
 have hc:=clamp_bd exp
 have hf:=fn_bd f
 have hl:=lst_bd f
 have hlu:=lu_is f
 have hb:=bia_lst f
 obtain ⟨X,rfl⟩:=Int.eq_ofNat_of_zero_le (Int.le_of_lt sp)
 have hX:X≠0:=by omega
 have hL':=len_log (X:Int) (by omega)
 rw [hL,Int.toNat_natCast] at hL'
 subst hL'
 have hV:valN (clampE exp) X more=X*2^(clampE exp+10100).toNat+more.toNat:=by unfold valN;rw [Int.toNat_natCast]
 rw [hV]
 have hE:((clampE exp+10100).toNat:Int)=clampE exp+10100:=by omega
 generalize (clampE exp+10100).toNat=E at*
 have hm:more.toNat≤1:=Bool.toNat_le _
 have hlog:=val_log X E more.toNat (by omega) hm hX
 have hd:(dN f (X*2^E+more.toNat):Int)=U - lst f:=by unfold dN;rw [hlog];omega
 have hV0:X*2^E+more.toNat≠0:=by
  have:=p2 E
  have:0<X*2^E:=Nat.mul_pos (by omega) this
  omega
 have hx:=Nat.lt_log2_self (n:=X)
 have hno:U - clampE exp - 1<0→(X:Int)*2^(-(U - clampE exp - 1)).toNat<18446744073709551616:=by
  intro h
  rw [pow2_cast,←Int.natCast_mul]
  have e:X*2^(-(U - clampE exp - 1)).toNat<2^(X.log2+1)*2^(-(U - clampE exp - 1)).toNat:=Nat.mul_lt_mul_of_pos_right hx (p2 _)
  rw [←Nat.pow_add] at e
  have:2^(X.log2+1+(-(U - clampE exp - 1)).toNat)≤2^64:=Nat.pow_le_pow_right (by decide) (by omega)
  omega
 obtain ⟨a,b,c⟩:=dv_val X E (luN f+dN f (X*2^E+more.toNat) - 1) (U - clampE exp) more (by omega) (by omega) (by omega) (by omega) hno
 rw [show luN f+dN f (X*2^E+more.toNat) - 1+1=luN f+dN f (X*2^E+more.toNat) by omega] at a b c
 refine ⟨hd,a.symm,b,c,?_⟩
 rw [low_iff f _ hV0,hlog]
 omega

theorem atR_plc {f mode:Int} {neg g half rst:Bool} {V:Nat} {d K N:Int} (h:AtR f V d K half rst N) (hg:upB mode neg (K%2==1) half rst=g):
  (plcN f mode neg V:Int)=d*hid f+K+g.toNat:=by
 obtain ⟨a,b,c,e,l⟩:=h
 rw [←b,up_grow mode neg (keptN f V) (catN f V) half rst (cat_bd _ _) c e] at hg
 unfold plcN
 rw [hg,←a,←b,hid_fn]
 simp

theorem atR_flags {f mode:Int} {neg half rst:Bool} {V:Nat} {d K N:Int} (h:AtR f V d K half rst N) (ho:rdO f mode neg V=false):
  rdU f V=((half || rst)&&decide (N<1 - bia f))∧rdX f mode neg V=(half || rst):=by
 obtain ⟨a,b,c,e,l⟩:=h
 have hc:=cat_bd (luN f+dN f V) V
 have hi:(half || rst)=(catN f V != 0):=by
  subst c e
  rw [Bool.eq_iff_iff,Bool.or_eq_true,decide_eq_true_eq,decide_eq_true_eq,bne_iff_ne]
  have:catN f V≤3:=hc
  omega
 constructor
 ·unfold rdU;rw [hi]
  congr 1
  rw [Bool.eq_iff_iff,decide_eq_true_eq,decide_eq_true_eq];exact l
 ·unfold rdX;rw [ho,hi];rfl

theorem rway_over {f mode:Int} {neg half rst:Bool} {V:Nat} {d K N H T top:Int} (g:Bool) (h:AtR f V d K half rst N) (hg:upB mode neg (K%2==1) half rst=g)
  (hH:hid f=H) (hT:topx f=T) (ht:T≤top) (hp:top*H≤d*H+K+g.toNat):
  beyI f mode neg=rdV f mode neg V∧rdO f mode neg V=true∧rdU f V=false∧rdX f mode neg V=true:=by
 have e:=atR_plc h hg
 have h0:=hid_pos f
 rw [hH] at e h0
 have:T*H≤top*H:=Int.mul_le_mul_of_nonneg_right ht (Int.le_of_lt h0)
 obtain ⟨a,b,c,d⟩:=pack_over f mode neg V _ e (by rw [gre_is,hT,hH];omega)
 exact ⟨a,b.symm,c.symm,d.symm⟩

theorem rway_in {f mode:Int} {neg half rst:Bool} {V:Nat} {d K N H T top v x:Int} (g:Bool) (h:AtR f V d K half rst N) (hg:upB mode neg (K%2==1) half rst=g)
  (hH:hid f=H) (hT:topx f=T) (hv:v=zerI f neg+top*H+x) (hp:d*H+K+g.toNat=top*H+x) (x1:x<H) (ht:top<T):
  v=rdV f mode neg V∧rdO f mode neg V=false∧rdU f V=((half || rst)&&decide (N<1 - bia f))∧rdX f mode neg V=(half || rst):=by
 have e:=atR_plc h hg
 have h0:=hid_pos f
 rw [hH] at e h0
 have t1:(top+1)*H≤T*H:=Int.mul_le_mul_of_nonneg_right (by omega) (Int.le_of_lt h0)
 rw [Int.add_mul] at t1
 have hb:(plcN f mode neg V:Int)≤greN f:=by rw [gre_is,hT,hH];omega
 have ho:rdO f mode neg V=false:=by unfold rdO;rw [decide_eq_false_iff_not];omega
 obtain ⟨u1,u2⟩:=atR_flags h ho
 refine ⟨?_,ho,u1,u2⟩
 unfold rdV magN
 rw [if_pos (by omega)];omega

theorem or_parts (f top X H:Int) (neg:Bool) (hH:hid f=H) (t0:0≤top) (t1:top<topx f) (x0:H≤X) (x1:X<2*H):
  bits .or .u32 (bits .or .u32 (zerI f neg) (IntKind.u32.wrap (IntKind.u32.wrap top*2^fn f))) (IntKind.u32.wrap (bits .and .u64 X (IntKind.u64.wrap (H - 1))))=zerI f neg+top*H+(X - H):=by
 have hp:(2:Int)^fn f=H:=by rw [←hH,hid_fn,pow2_cast]
 have hf:=fn_bd f
 have h0:=hid_pos f
 have hs:=gre_sgb f
 have hg:=gre_is f
 have hz:0≤zerI f neg∧zerI f neg+sgb f≤4294967296:=by unfold zerI sgb;cases neg <;> (repeat' split) <;> simp
 rw [hH] at h0 hg
 have hT:topx f≤255:=by unfold topx;(repeat' split) <;> decide
 have m1:(top+1)*H≤topx f*H:=Int.mul_le_mul_of_nonneg_right (by omega) (Int.le_of_lt h0)
 have m0:0≤top*H:=Int.mul_nonneg t0 (Int.le_of_lt h0)
 rw [Int.add_mul] at m1
 have hH2:H≤8388608:=by rw [←hH];unfold hid;(repeat' split) <;> decide
 have ha:bits .and .u64 X (IntKind.u64.wrap (H - 1))=X - H:=by
  rw [u64w (H - 1) (by omega) (by omega),←hp,and_mask X (fn f) (by omega) (by omega) (by omega),hp]
  have:=Int.emod_eq_of_lt (a:=X - H) (b:=H) (by omega) (by omega)
  rw [←this,Int.sub_emod_right]
 rw [ha,hp,IntKind.wrap_u32,IntKind.wrap_u32,IntKind.wrap_u32,show top%4294967296=top by omega,show top*H%4294967296=top*H by omega,show (X - H)%4294967296=X - H by omega]
 rw [or_comm32 (zerI f neg),or_zer f (top*H) neg m0 (by omega)]
 rw [or_comm32,or_comm32]
 obtain ⟨q,hq⟩:∃ q:Int,zerI f neg=q*H∧0≤q:=by
  refine ⟨zerI f neg / H,?_,Int.ediv_nonneg hz.1 (Int.le_of_lt h0)⟩
  subst hH
  unfold zerI sgb hid;cases neg <;> (repeat' split) <;> decide
 have e:top*H+zerI f neg=(top+q)*2^fn f:=by rw [hp,Int.add_mul,hq.1]
 rw [or32 (top+q) (X - H) (fn f) (by omega) (by omega) (by omega) e (by omega)]
 omega

theorem or_small (f x H:Int) (neg:Bool) (hH:hid f=H) (x0:0≤x) (x1:x<H):bits .or .u32 (zerI f neg) (IntKind.u32.wrap x)=zerI f neg+x:=by
 have hs:=gre_sgb f
 have hg:=gre_le f
 have hh:=hid_fn f
 rw [IntKind.wrap_u32,show x%4294967296=x by omega,or_comm32,or_zer f x neg x0 (by omega)]
 omega

theorem rway_in1 {f mode:Int} {neg half rst:Bool} {V:Nat} {d K N H T top X:Int} (g:Bool) (h:AtR f V d K half rst N) (hg:upB mode neg (K%2==1) half rst=g)
  (hH:hid f=H) (hT:topx f=T) (hX:X=K+g.toNat) (htop:top=d+1) (d0:0≤d) (x0:H≤X) (x1:X<2*H) (ht:top<T):
  bits .or .u32 (bits .or .u32 (zerI f neg) (IntKind.u32.wrap (IntKind.u32.wrap top*2^fn f))) (IntKind.u32.wrap (bits .and .u64 X (IntKind.u64.wrap (H - 1))))=rdV f mode neg V
   ∧ rdO f mode neg V=false∧rdU f V=((half || rst)&&decide (N<1 - bia f))∧rdX f mode neg V=(half || rst):=
 rway_in g h hg hH hT (or_parts f top X H neg hH (by omega) (by omega) x0 x1) (by rw [htop,Int.add_mul,hX];omega) (by omega) ht

theorem rway_in2 {f mode:Int} {neg half rst:Bool} {V:Nat} {d K N H T top X:Int} (g:Bool) (h:AtR f V d K half rst N) (hg:upB mode neg (K%2==1) half rst=g)
  (hH:hid f=H) (hT:topx f=T) (hX:X=H) (hK:K+g.toNat=2*H) (htop:top=d+2) (d0:0≤d) (h0:0<H) (ht:top<T):
  bits .or .u32 (bits .or .u32 (zerI f neg) (IntKind.u32.wrap (IntKind.u32.wrap top*2^fn f))) (IntKind.u32.wrap (bits .and .u64 X (IntKind.u64.wrap (H - 1))))=rdV f mode neg V
   ∧ rdO f mode neg V=false∧rdU f V=((half || rst)&&decide (N<1 - bia f))∧rdX f mode neg V=(half || rst):=
 rway_in g h hg hH hT (or_parts f top X H neg hH (by omega) (by omega) (by omega) (by omega)) (by rw [htop,Int.add_mul];omega) (by omega) ht

theorem rway_over1 {f mode:Int} {neg half rst:Bool} {V:Nat} {d K N H T top:Int} (g:Bool) (h:AtR f V d K half rst N) (hg:upB mode neg (K%2==1) half rst=g)
  (hH:hid f=H) (hT:topx f=T) (ht:T≤top) (htop:top=d+1) (x0:H≤K):
  beyI f mode neg=rdV f mode neg V∧rdO f mode neg V=true∧rdU f V=false∧rdX f mode neg V=true:=
 rway_over g h hg hH hT ht (by rw [htop,Int.add_mul];omega)

theorem rway_over2 {f mode:Int} {neg half rst:Bool} {V:Nat} {d K N H T top:Int} (g:Bool) (h:AtR f V d K half rst N) (hg:upB mode neg (K%2==1) half rst=g)
  (hH:hid f=H) (hT:topx f=T) (ht:T≤top) (htop:top=d+2) (hK:K+g.toNat=2*H):
  beyI f mode neg=rdV f mode neg V∧rdO f mode neg V=true∧rdU f V=false∧rdX f mode neg V=true:=
 rway_over g h hg hH hT ht (by rw [htop,Int.add_mul];omega)

theorem rway_lowS {f mode:Int} {neg half rst:Bool} {V:Nat} {K N H T X:Int} (g:Bool) (h:AtR f V 0 K half rst N) (hg:upB mode neg (K%2==1) half rst=g)
  (hH:hid f=H) (hT:topx f=T) (hX:X=K+g.toNat) (x0:0≤X) (x1:X<H) (ht:0<T):
  bits .or .u32 (zerI f neg) (IntKind.u32.wrap X)=rdV f mode neg V∧rdO f mode neg V=false∧rdU f V=((half || rst)&&decide (N<1 - bia f))∧rdX f mode neg V=(half || rst):=
 rway_in (top:=0) g h hg hH hT ((or_small f X H neg hH x0 x1).trans (by omega)) (by omega) x1 ht

theorem ret_kbb {a b:Int} {p q p' q':Bool} (h:a=b) (g:p=p') (i:q=q'):Ending.returned (.tuple #[.int .u64 a,.bool p,.bool q])=.returned (.tuple #[.int .u64 b,.bool p',.bool q']):=by rw [h,g,i]

theorem still_same {P:Program} {f:FuncId} {args:Array Value} {w:World} {v:Value} (h:Calls P f args w fun e w'=>e=.returned v∧w=w'):
 Calls P f args w fun e w'=>e=.returned v∧w'=w:=h.mono fun _ _ h=>⟨h.1,h.2.symm⟩

set_option maxHeartbeats 400000 in
theorem rdivide_any (v n:Int) (w:World) (h0:0≤v) (h1:v≤18446744073709551615) (n0:-63≤n) (n1:n≤100000):
  Calls Tryz.prog 132 #[.int .u64 v,.int .i64 n] w fun e w'=>e=.returned (.tuple #[.int .u64 (dvK v n),.bool (dvH v n),.bool (dvR v n)])∧w=w':=by
 by_cases c:n≤0
 ·go_enter Tryz.func132,Tryz.ntmps132
  go_wp2
  go_ret3
  exact ⟨ret_kbb (by simp only [dvK,if_pos c]) (by simp only [dvH,if_pos c]) (by simp only [dvR,if_pos c]),rfl⟩
 ·by_cases c2:64<n
  ·have e1:=sh_far_v v n h0 h1 (.inr (by omega))
   have e2:=sh_far_v v (n - 1) h0 h1 (.inr (by omega))
   have e3:=sh_far_o v (n - 1) h0 h1 (.inr (by omega))
   have E:Hid (dvK v n=0∧dvH v n=false∧dvR v n=(v != 0)):=by
    refine ⟨?_,?_,?_⟩
    ·simp only [dvK,if_neg c,←e1]
    ·simp only [dvH,if_neg c,←e2];rfl
    ·simp only [dvR,if_neg c,e3]
   clear e1 e2 e3
   go_enter Tryz.func132,Tryz.ntmps132
   go_wp2
   go_ret3
   exact ⟨ret_kbb E.out.1.symm E.out.2.1.symm E.out.2.2.symm,rfl⟩
  ·obtain ⟨b0,b1⟩:=shV_bd v (n - 1) h0 h1
   have ha:=and_one _ b0 b1
   go_enter Tryz.func132,Tryz.ntmps132
   go_wp2_with (go_at_call 170;refine (rshift_any _ _ _ h0 h1 (by omega) (by omega)).mono ?_;rintro e w' ⟨rfl,rfl⟩)
   go_ret3
   exact ⟨ret_kbb (by unfold dvK;rw [if_neg (by omega)]) (by unfold dvH;rw [if_neg (by omega)]) (by unfold dvR;rw [if_neg (by omega)]),rfl⟩

set_option maxHeartbeats 400000 in
theorem rup_any (mode:Int) (neg odd half rest:Bool) (w:World):
  Calls Tryz.prog 133 #[.int .i64 mode,.bool neg,.bool odd,.bool half,.bool rest] w fun e w'=>e=.returned (.bool (upB mode neg odd half rest))∧w=w':=by
 go_enter Tryz.func133,Tryz.ntmps133
 go_wp2
 all_goals
  go_ret
  exact ⟨ret_bool (by simp_all [upB]),rfl⟩

set_option maxHeartbeats 400000 in
theorem rover_any (f mode:Int) (neg:Bool) (w:World):
  Calls Tryz.prog 134 #[.int .i64 f,.int .i64 mode,.bool neg] w fun e w'=>e=.returned (.int .u32 (beyI f mode neg))∧∃ m,w'=w.drewN m:=by
 cases neg
 all_goals
  go_enter Tryz.func134,Tryz.ntmps134
  go_wp2_with (first
   | (go_at_call 171;refine (rgreatest_any _ _ _).mono ?_;rintro e w' ⟨rfl,m,rfl⟩)
   | (go_at_call 91;refine (rinf_any _ _ _).mono ?_;rintro e w' ⟨rfl,m,rfl⟩))
  all_goals
   go_ret
   exact ⟨ret_int (by simp_all [beyI,inB]),_,rfl⟩

theorem half_of_beq {K H:Int} (h:(K+1==2*H)=true):(K+1) / 2=H:=by have:=eq_of_beq h;omega

theorem two_of_beq {K H:Int} (h:(K+1==2*H)=true):K+((true.toNat:Nat):Int)=2*H:=by have:=eq_of_beq h;simp only [Bool.toNat_true];omega

theorem lt_of_bne {K H:Int} (h:(K+1==2*H)=false) (k:K<2*H):K+1<2*H:=by
 have:¬K+1=2*H:=fun e=>by rw [e] at h;simp at h
 omega
end Go.Proofs.YteifobleigfbaaaGreat
