/- Whole numbers in ten limbs of 64 bits, their blocks (no program here). The uppermost bits of a whole number (no program here). -/
import Derived.Test.YteifobleigfbaaaGreatMath
import Derived.Test.YteifobleigfbaaaGreatWorld
namespace Go.Proofs.YteifobleigfbaaaGreat
open Go.RowKit
set_option linter.unusedVariables false
set_option linter.unusedSimpArgs false

/-! Whole numbers in ten limbs of 64 bits (no program here). -/
def limb (V i:Nat):Int:=((V / 2^(64*i)%2^64:Nat):Int)

def wideV (neg:Bool) (V:Nat):Value:=
 .agg #[.bool neg,.int .u64 (limb V 0),.int .u64 (limb V 1),.int .u64 (limb V 2),.int .u64 (limb V 3),.int .u64 (limb V 4),.int .u64 (limb V 5),.int .u64 (limb V 6),.int .u64 (limb V 7),.int .u64 (limb V 8),.int .u64 (limb V 9)]

theorem limb_bd (V i:Nat):0≤limb V i∧limb V i≤18446744073709551615:=by
 have:=Nat.mod_lt (V / 2^(64*i)) (Nat.pow_pos (n:=64) (show 0<2 by decide))
 unfold limb;omega

theorem np2 (n:Nat):0<2^n:=Nat.pow_pos (by decide)

def sprN (sig:Nat) (A B:Nat):Nat:=sig*2^(64*A+B)

theorem spr_low (sig A B i:Nat) (h:i<A):limb (sprN sig A B) i=0:=by
 unfold limb sprN
 obtain ⟨k,rfl⟩:∃ k,A=i+1+k:=⟨A - i - 1,by omega⟩
 have e:sig*2^(64*(i+1+k)+B)=(sig*2^(64*k+B))*2^64*2^(64*i):=by
  rw [show 64*(i+1+k)+B=(64*k+B)+64+64*i by omega,Nat.pow_add,Nat.pow_add,Nat.mul_assoc,Nat.mul_assoc];simp only [Nat.mul_assoc]
 rw [e,Nat.mul_div_cancel _ (np2 _),Nat.mul_mod_left];rfl

theorem spr_at (sig A B:Nat):limb (sprN sig A B) A=((sig*2^B%2^64:Nat):Int):=by
 unfold limb sprN
 rw [show 64*A+B=B+64*A by omega,Nat.pow_add,←Nat.mul_assoc,Nat.mul_div_cancel _ (np2 _)]

theorem spr_next (sig A B:Nat) (hs:sig<2^64) (hB:B<64):limb (sprN sig A B) (A+1)=((sig*2^B / 2^64:Nat):Int):=by
 unfold limb sprN
 rw [show 64*A+B=B+64*A by omega,Nat.pow_add,←Nat.mul_assoc,show 64*(A+1)=64*A+64 by omega,Nat.pow_add,←Nat.div_div_eq_div_mul,Nat.mul_div_cancel _ (np2 _)]
 rw [Nat.mod_eq_of_lt]
 rw [Nat.div_lt_iff_lt_mul (np2 _)]
 have:2^B≤2^64:=Nat.pow_le_pow_right (by decide) (by omega)
 exact Nat.mul_lt_mul_of_lt_of_le hs this (np2 _)

theorem spr_high (sig A B i:Nat) (hs:sig<2^64) (hB:B<64) (h:A+1<i):limb (sprN sig A B) i=0:=by
 unfold limb sprN
 obtain ⟨k,rfl⟩:∃ k,i=A+2+k:=⟨i - A - 2,by omega⟩
 rw [show 64*A+B=B+64*A by omega,Nat.pow_add,←Nat.mul_assoc,show 64*(A+2+k)=64*A+(128+64*k) by omega,Nat.pow_add 2 (64*A),←Nat.div_div_eq_div_mul,Nat.mul_div_cancel _ (np2 _)]
 have:2^B≤2^64:=Nat.pow_le_pow_right (by decide) (by omega)
 have h1:sig*2^B<2^64*2^64:=Nat.mul_lt_mul_of_lt_of_le hs this (np2 _)
 have h2:2^64*2^64≤2^(128+64*k):=by rw [←Nat.pow_add];exact Nat.pow_le_pow_right (by decide) (by omega)
 rw [Nat.div_eq_of_lt (by omega)];rfl

theorem spr_div (sig B:Nat) (hB:0<B) (hB2:B<64):sig*2^B / 2^64=sig / 2^(64 - B):=by
 have e:2^64=2^(64 - B)*2^B:=by rw [←Nat.pow_add,show 64 - B+B=64 by omega]
 rw [e,Nat.mul_div_mul_right _ _ (np2 B)]

theorem div_step (V i:Nat):V / 2^(64*i)=V / 2^(64*(i+1))*2^64+V / 2^(64*i)%2^64:=by
 rw [show 64*(i+1)=64*i+64 by omega,Nat.pow_add 2 (64*i),←Nat.div_div_eq_div_mul]
 have:=Nat.div_add_mod (V / 2^(64*i)) (2^64)
 omega

theorem top_step (V W i:Nat) (h:V / 2^(64*(i+1))=W / 2^(64*(i+1))) (hl:limb V i=limb W i):V / 2^(64*i)=W / 2^(64*i):=by
 unfold limb at hl
 rw [div_step V i,div_step W i,h];omega

theorem limb_zero (i:Nat):limb 0 i=0:=by unfold limb;simp

theorem limbs_top:∀ (n V W:Nat),V / 2^(64*n)=W / 2^(64*n)→(∀ i,i<n→limb V i=limb W i)→V=W
 | 0,V,W,h,_=>by simpa using h
 | n+1,V,W,h,hl=>limbs_top n V W (top_step V W n h (hl n (by omega))) (fun i hi=>hl i (by omega))

theorem limbs_ext (n V W:Nat) (hV:V<2^(64*n)) (hW:W<2^(64*n)) (h:∀ i,i<n→limb V i=limb W i):V=W:=
 limbs_top n V W (by rw [Nat.div_eq_of_lt hV,Nat.div_eq_of_lt hW]) h

theorem limbs_zero (n V:Nat) (hV:V<2^(64*n)) (h:∀ i,i<n→limb V i=0):V=0:=
 limbs_ext n V 0 hV (np2 _) (fun i hi=>by rw [h i hi,limb_zero])

theorem top_less (V W i:Nat) (h:V / 2^(64*(i+1))=W / 2^(64*(i+1))) (hl:limb V i≠limb W i):(V<W↔limb V i<limb W i):=by
 have a:=div_step V i
 have b:=div_step W i
 have hne:limb V i<limb W i↔V / 2^(64*i)<W / 2^(64*i):=by unfold limb at *;rw [h] at a;omega
 rw [hne]
 constructor
 ·intro g
  have:=Nat.div_le_div_right (c:=2^(64*i)) (Nat.le_of_lt g)
  have ne:V / 2^(64*i)≠W / 2^(64*i):=by intro e;apply hl;unfold limb;rw [e]
  omega
 ·intro g
  rcases Nat.lt_or_ge V W with h1 | h1
  ·exact h1
  ·have:=Nat.div_le_div_right (c:=2^(64*i)) h1;omega

theorem limb_wf (V i:Nat):(Lit.int .u64 (limb V i)).wf=true:=by
 have h:=limb_bd V i
 simp only [Lit.wf,Bool.and_eq_true,decide_eq_true_eq]
 exact h

/-! Sums and differences of whole numbers limb by limb (no program here). -/
def carN (V W k:Nat):Int:=((V%2^(64*k)+W%2^(64*k)) / 2^(64*k):Nat)

theorem car_zero (V W:Nat):carN V W 0=0:=by unfold carN;simp [Nat.mod_one]

theorem car_lt (V W k:Nat):(V%2^(64*k)+W%2^(64*k)) / 2^(64*k)<2:=by
 have hp:=np2 (64*k)
 have a:=Nat.mod_lt V hp
 have b:=Nat.mod_lt W hp
 rw [Nat.div_lt_iff_lt_mul hp];omega

theorem car_01 (V W k:Nat):carN V W k=0∨carN V W k=1:=by
 have:=car_lt V W k
 unfold carN
 generalize (V%2^(64*k)+W%2^(64*k)) / 2^(64*k)=x at*
 omega

theorem div_both (V W P:Nat) (hp:0<P):(V+W) / P=V / P+W / P+(V%P+W%P) / P:=by
 have a:=Nat.mod_add_div V P
 have b:=Nat.mod_add_div W P
 have e:V+W=(V%P+W%P)+P*(V / P+W / P):=by rw [Nat.mul_add];omega
 conv=>lhs;rw [e]
 rw [Nat.add_mul_div_left _ _ hp];omega

theorem car_next (V W P:Nat) (hp:0<P):(V%(P*2^64)+W%(P*2^64)) / (P*2^64)=((V%P+W%P) / P+(V / P%2^64+W / P%2^64)) / 2^64:=by
 rw [Nat.mod_mul,Nat.mod_mul,←Nat.div_div_eq_div_mul]
 rw [show V%P+P*(V / P%2^64)+(W%P+P*(W / P%2^64))=V%P+W%P+P*(V / P%2^64+W / P%2^64) by rw [Nat.mul_add];omega]
 rw [Nat.add_mul_div_left _ _ hp]

theorem car_step (V W k:Nat):limb V k+limb W k+carN V W k=limb (V+W) k+18446744073709551616*carN V W (k+1):=by
 unfold limb carN
 have hp:=np2 (64*k)
 have e:2^(64*(k+1))=2^(64*k)*2^64:=by rw [←Nat.pow_add];rfl
 rw [e,car_next V W _ hp,div_both V W _ hp]
 generalize (V%2^(64*k)+W%2^(64*k)) / 2^(64*k)=c
 generalize V / 2^(64*k)=v
 generalize W / 2^(64*k)=u
 omega

theorem plus_way (x y c s t:Int) (x0:0≤x) (x1:x≤18446744073709551615) (y0:0≤y) (y1:y≤18446744073709551615) (hc:c=0∨c=1) (ht:t=0∨t=1) (s0:0≤s) (s1:s≤18446744073709551615)
  (h:x+y+c=s+18446744073709551616*t):
  IntKind.u64.wrap (IntKind.u64.wrap (x+y)+c)=s∧((IntKind.u64.wrap (x+y)<x∨IntKind.u64.wrap (IntKind.u64.wrap (x+y)+c)<IntKind.u64.wrap (x+y))↔t=1):=by
 simp only [IntKind.wrap_u64];omega

theorem minus_way (x y c s t:Int) (x0:0≤x) (x1:x≤18446744073709551615) (y0:0≤y) (y1:y≤18446744073709551615) (hc:c=0∨c=1) (ht:t=0∨t=1) (s0:0≤s) (s1:s≤18446744073709551615)
  (h:y+s+c=x+18446744073709551616*t):
  IntKind.u64.wrap (IntKind.u64.wrap (x - y) - c)=s∧((x<y∨IntKind.u64.wrap (x - y)<c)↔t=1):=by
 simp only [IntKind.wrap_u64];omega

/-! Blocks of wide numbers,limb by limb (no program here). -/
def mixL (V S k i:Nat):Int:=if i<k then limb S i else limb V i

def mixO (n:Bool) (V S k:Nat):Array Value:=#[.bool n,.int .u64 (mixL V S k 0),.int .u64 (mixL V S k 1),.int .u64 (mixL V S k 2),.int .u64 (mixL V S k 3),.int .u64 (mixL V S k 4),.int .u64 (mixL V S k 5),.int .u64 (mixL V S k 6),.int .u64 (mixL V S k 7),.int .u64 (mixL V S k 8),.int .u64 (mixL V S k 9)]

def wideO (n:Bool) (V:Nat):Array Value:=#[.bool n,.int .u64 (limb V 0),.int .u64 (limb V 1),.int .u64 (limb V 2),.int .u64 (limb V 3),.int .u64 (limb V 4),.int .u64 (limb V 5),.int .u64 (limb V 6),.int .u64 (limb V 7),.int .u64 (limb V 8),.int .u64 (limb V 9)]

def nilO:Array Value:=#[.bool false,.int .u64 0,.int .u64 0,.int .u64 0,.int .u64 0,.int .u64 0,.int .u64 0,.int .u64 0,.int .u64 0,.int .u64 0,.int .u64 0]

theorem set_drewN (w : World) (d : Nat) (a : Addr) (v : Value) : (w.drewN d).setCell a v = (w.setCell a v).drewN d := by
  induction d with
  | zero => rfl
  | succ d ih =>
    show ((w.drewN d).drew).setCell a v = ((w.setCell a v).drewN d).drew
    rw [World.setCell_drew, ih]

theorem size_alloc (w:World) (o:Obj):(w.alloc o).heap.size=w.heap.size+1:=by simp

theorem set3 (w : World) (A B C : Array Value) (t : TypeId) (d i : Nat) (v : Value) :
    ((((w.alloc (.cells A t)).alloc (.cells B t)).alloc (.cells C t)).drewN d).setCell ⟨w.heap.size, i, none⟩ v
      = (((w.alloc (.cells (A.setIfInBounds i v) t)).alloc (.cells B t)).alloc (.cells C t)).drewN d := by
  rw [set_drewN, World.setCell_alloc_past _ _ _ _ (by rw [size_alloc, size_alloc]; omega), World.setCell_alloc_past _ _ _ _ (by rw [size_alloc]; omega), World.setCell_alloc_at _ _ _ _ _ rfl]

theorem mix_next (n:Bool) (V S k:Nat) (hk:k<10) (x:Int) (hx:x=limb S k):(mixO n V S k).setIfInBounds (k+1) (.int .u64 x)=mixO n V S (k+1):=by
 subst hx
 have hk':k=0∨k=1∨k=2∨k=3∨k=4∨k=5∨k=6∨k=7∨k=8∨k=9:=by omega
 rcases hk' with rfl | rfl | rfl | rfl | rfl | rfl | rfl | rfl | rfl | rfl <;> simp [mixO,mixL]

theorem round_world (w : World) (n m : Bool) (V W S k : Nat) (t : TypeId) (d : Nat) (x : Int) (hk : k < 10) (hx : x = limb S k) :
    ((((w.alloc (.cells (mixO n V S k) t)).alloc (.cells (wideO m W) t)).alloc (.cells nilO t)).drewN d).setCell ⟨w.heap.size, k + 1, none⟩ (.int .u64 x)
      = (((w.alloc (.cells (mixO n V S (k + 1)) t)).alloc (.cells (wideO m W) t)).alloc (.cells nilO t)).drewN d := by
  rw [set3, mix_next n V S k hk x hx]

theorem round_world5 (w : World) (n m : Bool) (V W S k : Nat) (E F : Array Value) (t : TypeId) (d : Nat) (x : Int) (hk : k < 10) (hx : x = limb S k) :
    ((((((w.alloc (.cells (mixO n V S k) t)).alloc (.cells (wideO m W) t)).alloc (.cells nilO t)).alloc (.cells E t)).alloc (.cells F t)).drewN d).setCell ⟨w.heap.size, k + 1, none⟩ (.int .u64 x)
      = (((((w.alloc (.cells (mixO n V S (k + 1)) t)).alloc (.cells (wideO m W) t)).alloc (.cells nilO t)).alloc (.cells E t)).alloc (.cells F t)).drewN d := by
  rw [set_drewN, World.setCell_alloc_past _ _ _ _ (by simp only [size_alloc]; omega), World.setCell_alloc_past _ _ _ _ (by simp only [size_alloc]; omega), World.setCell_alloc_past _ _ _ _ (by simp only [size_alloc]; omega), World.setCell_alloc_past _ _ _ _ (by rw [size_alloc]; omega), World.setCell_alloc_at _ _ _ _ _ rfl, mix_next n V S k hk x hx]

theorem is_u64 {a b:Int} (h:a=b):Value.int .u64 a=.int .u64 b:=by rw [h]

theorem results_one {fn:Func} {p:Tmp} {ty:TypeId} (h:fn.results=#[.cell p ty]) (tmps:Array Value) (P:Program) (w:World):
  (results fn tmps).run P w=((asAddr (tmps.getD p undef)).run P w).andThen fun a w₁=>(loadVar ty a).run P w₁:=by
 simp only [results,h]
 simp [Sem.run_bind,Result.andThen]

theorem car_is {P:Prop} {t:Int} (h:P↔t=1) (ht:t=0∨t=1):(P→(1:Int)=t)∧(¬P→(0:Int)=t):=
 ⟨fun p=>(h.1 p).symm,fun p=>(ht.resolve_right (fun g=>p (h.2 g))).symm⟩

/-! What lies far below a unit counts only as being there (no program here). -/
theorem below_unit (X E t k:Nat) (ht:t<2^E):
  (X*2^E+t) / 2^(E+k)=X / 2^k∧((X*2^E+t)%2^(E+k)≠0↔X%2^k≠0∨t≠0):=by
 have hp:=p2 E
 have e1:(X*2^E+t) / 2^E=X:=by rw [Nat.mul_comm,Nat.mul_add_div hp,Nat.div_eq_of_lt ht,Nat.add_zero]
 have e2:(X*2^E+t)%2^E=t:=by rw [Nat.mul_comm,Nat.mul_add_mod,Nat.mod_eq_of_lt ht]
 rw [Nat.pow_add,Nat.mod_mul,←Nat.div_div_eq_div_mul,e1,e2]
 refine ⟨rfl,?_⟩
 have:2^E*(X%2^k)=0↔X%2^k=0:=by rw [Nat.mul_eq_zero];omega
 omega

theorem log_above (X E t:Nat) (ht:t<2^E) (hX:X≠0):(X*2^E+t).log2=X.log2+E:=by
 have a:=Nat.log2_self_le hX
 have b:X<2^(X.log2+1):=Nat.lt_log2_self
 have c:X*2^E+2^E≤2^(X.log2+1+E):=by
  rw [Nat.pow_add _ _ E,←Nat.succ_mul];exact Nat.mul_le_mul_right _ b
 have d:2^(X.log2+E)≤X*2^E:=by rw [Nat.pow_add];exact Nat.mul_le_mul_right _ a
 have g:=p2 (X.log2+E)
 rw [Nat.log2_eq_iff (by omega)]
 exact ⟨by omega,by rw [show X.log2+E+1=X.log2+1+E by omega];omega⟩

theorem sticky (f mode:Int) (neg:Bool) (X E s t:Nat) (hX:X≠0) (hs:s<2^E) (ht:t<2^E) (hst:s≠0↔t≠0) (hE:E+2≤luN f+dN f (X*2^E+t)):
  PackE f mode neg (X*2^E+s)=PackE f mode neg (X*2^E+t):=by
 have l1:=log_above X E s hs hX
 have l2:=log_above X E t ht hX
 have hd:dN f (X*2^E+s)=dN f (X*2^E+t):=by unfold dN;rw [l1,l2]
 obtain ⟨k,hk⟩:∃ k,luN f+dN f (X*2^E+t)=E+k+2:=⟨luN f+dN f (X*2^E+t) - E - 2,by omega⟩
 obtain ⟨a1,a2⟩:=below_unit X E s k hs
 obtain ⟨b1,b2⟩:=below_unit X E t k ht
 obtain ⟨q1,q2⟩:=quarters (X*2^E+s) (E+k)
 obtain ⟨r1,r2⟩:=quarters (X*2^E+t) (E+k)
 have hk1:keptN f (X*2^E+s)=keptN f (X*2^E+t):=by unfold keptN;rw [hd,hk,q1,r1,a1,b1]
 have hc:catN f (X*2^E+s)=catN f (X*2^E+t):=by
  unfold catN
  rw [hd,hk,←q2,←r2,a1,b1]
  have:(X*2^E+s)%2^(E+k)≠0↔(X*2^E+t)%2^(E+k)≠0:=by rw [a2,b2,hst]
  by_cases h:(X*2^E+s)%2^(E+k)≠0∧X / 2^k%2=0
  ·rw [if_pos h,if_pos ⟨this.1 h.1,h.2⟩]
  ·rw [if_neg h,if_neg (fun g=>h ⟨this.2 g.1,g.2⟩)]
 have hp:∀ m n,plcN f m n (X*2^E+s)=plcN f m n (X*2^E+t):=fun m n=>by unfold plcN;rw [hd,hk1,hc]
 have hV:X*2^E≠0:=Nat.ne_of_gt (Nat.mul_pos (by omega) (p2 E))
 have hl:(X*2^E+s<2^(fn f+luN f))↔(X*2^E+t<2^(fn f+luN f)):=by
  rw [low_iff f _ (by omega),low_iff f _ (by omega),l1,l2]
 have e1:rdV f mode neg (X*2^E+s)=rdV f mode neg (X*2^E+t):=by unfold rdV magN;rw [hp]
 have e2:rdO f mode neg (X*2^E+s)=rdO f mode neg (X*2^E+t):=by unfold rdO;rw [hp]
 have e3:rdU f (X*2^E+s)=rdU f (X*2^E+t):=by unfold rdU;rw [hc];congr 1;rw [Bool.eq_iff_iff,decide_eq_true_eq,decide_eq_true_eq];exact hl
 have e4:rdX f mode neg (X*2^E+s)=rdX f mode neg (X*2^E+t):=by unfold rdX;rw [e2,hc]
 rw [←packE_is,←packE_is,e1,e2,e3,e4]

theorem sticky_top (f mode:Int) (neg:Bool) (V E:Nat) (more:Bool) (hE:1≤E) (hV:2^(E+25)≤V) (hm:more=true↔V%2^E≠0):
  PackE f mode neg (V / 2^E*2^E+more.toNat)=PackE f mode neg V:=by
 have hp:=p2 E
 have hdm:=Nat.div_add_mod V (2^E)
 have hlt:=Nat.mod_lt V hp
 have h2:2≤2^E:=Nat.pow_le_pow_right (n:=2) (by decide) hE
 have hb:more.toNat≤1:=Bool.toNat_le _
 have hX:V / 2^E≠0:=by
  have:2^E≤V:=Nat.le_trans (Nat.pow_le_pow_right (by decide) (by omega)) hV
  exact Nat.ne_of_gt (Nat.div_pos this hp)
 have hV0:V≠0:=by have:=p2 (E+25);omega
 have hlog:E+25≤V.log2:=(Nat.le_log2 hV0).2 hV
 have hf:=fn_bd f
 have e:V / 2^E*2^E+V%2^E=V:=by rw [Nat.mul_comm];exact hdm
 have hd:E+2≤luN f+dN f (V / 2^E*2^E+V%2^E):=by rw [e];unfold dN;omega
 have:=sticky f mode neg (V / 2^E) E more.toNat (V%2^E) hX (by omega) hlt (by rw [←hm];cases more <;> simp) hd
 rw [this,e]

/-! The uppermost limbs of a whole number,and what lies below them (no program here). -/
structure FitN (V k:Nat):Prop where
 out:V<2^(64*k)

def upN (V:Nat):Nat:=V*2^9802

def lowB (V j:Nat):Bool:=decide (V%2^(64*j)≠0)

theorem low_zero (V:Nat):lowB V 0=false:=by simp [lowB,Nat.mod_one]

theorem low_next (V j:Nat):lowB V (j+1)=(lowB V j || (limb V j != 0)):=by
 unfold lowB limb
 have hp:=np2 (64*j)
 rw [show 64*(j+1)=64*j+64 by omega,Nat.pow_add,Nat.mod_mul,Bool.eq_iff_iff]
 simp only [Bool.or_eq_true,decide_eq_true_eq,bne_iff_ne]
 have:2^(64*j)*(V / 2^(64*j)%2^64)=0↔V / 2^(64*j)%2^64=0:=by rw [Nat.mul_eq_zero];omega
 omega

theorem fit_less (V k:Nat) (h:FitN V (k+1)) (hz:limb V k=0):FitN V k:=by
 refine ⟨?_⟩
 have a:=div_step V k
 have b:=h.out
 rw [Nat.div_eq_of_lt b,Nat.zero_mul,Nat.zero_add] at a
 unfold limb at hz
 have c:V / 2^(64*k)=0:=by omega
 exact (Nat.div_eq_zero_iff_lt (np2 _)).1 c

theorem fit_zero (V:Nat) (h:FitN V 0):V=0:=by have:=h.out;omega

theorem up_div (V E:Nat):upN V / 2^(E+9802)=V / 2^E:=by
 unfold upN;rw [Nat.pow_add];exact Nat.mul_div_mul_right _ _ (np2 9802)

theorem up_mod (V E:Nat):upN V%2^(E+9802)=V%2^E*2^9802:=by
 unfold upN;rw [Nat.pow_add];exact Nat.mul_mod_mul_right _ _ _

theorem up_le (V E:Nat) (h:2^(E+63)≤V):2^(E+9802+25)≤upN V:=by
 have q:∀ k:Nat,2^(E+k+25)≤V*2^k:=by
  intro k
  have:2^(E+k+25)≤2^(E+63)*2^k:=by rw [←Nat.pow_add];exact Nat.pow_le_pow_right (by decide) (by omega)
  exact Nat.le_trans this (Nat.mul_le_mul_right _ h)
 exact q 9802

theorem mul_nz (x p:Nat) (hp:0<p):x*p≠0↔x≠0:=by
 rw [Ne,Nat.mul_eq_zero];omega

theorem or_hi (hi lo:Int) (k:Nat) (h0:0≤lo) (h1:lo<2^k) (h2:0≤hi) (h3:hi*2^k+lo≤18446744073709551615):bits .or .u64 (hi*2^k) lo=hi*2^k+lo:=by
 have hp:=pow2_pos k
 have hh:0≤hi*2^k:=Int.mul_nonneg h2 (Int.le_of_lt hp)
 rw [u64_or _ _ hh (by omega) h0 (by omega)]
 obtain ⟨A,rfl⟩:=Int.eq_ofNat_of_zero_le h2
 obtain ⟨B,rfl⟩:=Int.eq_ofNat_of_zero_le h0
 rw [pow2_cast] at h1
 rw [pow2_cast,←Int.natCast_mul,Int.toNat_natCast,Int.toNat_natCast,Nat.mul_comm,←Nat.two_pow_add_eq_or_of_lt (Int.ofNat_lt.1 h1),Int.natCast_add]

theorem top_core (f mode:Int) (n:Bool) (V j l A B s:Nat) (more:Bool) (hA:V / 2^(64*(j+1))=A) (hB:V / 2^(64*j)%2^64=B) (l0:1≤l) (l1:l≤64) (a0:2^(l - 1)≤A)
  (hs:s=A*2^(64 - l)+B / 2^l) (hm:more=true↔B%2^l≠0∨V%2^(64*j)≠0):
  PackE f mode n (s*2^(64*j+l+9802)+more.toNat)=PackE f mode n (upN V):=by
 have hd:=div_step V j
 rw [hA,hB] at hd
 have e64:2^64=2^(64 - l)*2^l:=by rw [←Nat.pow_add,show 64 - l+l=64 by omega]
 have hl:=np2 l
 have h1:V / 2^(64*j+l)=s:=by
  rw [Nat.pow_add,←Nat.div_div_eq_div_mul,hd,e64,←Nat.mul_assoc,Nat.add_comm,Nat.add_mul_div_right _ _ hl,hs];omega
 have h2:V%2^(64*j+l)≠0↔B%2^l≠0∨V%2^(64*j)≠0:=by
  have q:(A*2^64+B)%2^l=B%2^l:=by rw [e64,←Nat.mul_assoc,Nat.add_comm,Nat.add_mul_mod_self_right]
  rw [Nat.pow_add,Nat.mod_mul,hd,q]
  have hp:=np2 (64*j)
  have:2^(64*j)*(B%2^l)=0↔B%2^l=0:=by rw [Nat.mul_eq_zero];omega
  omega
 have h3:2^(64*j+l+63)≤V:=by
  have hs63:2^63≤s:=by
   have:2^(l - 1)*2^(64 - l)≤A*2^(64 - l):=Nat.mul_le_mul_right _ a0
   rw [←Nat.pow_add,show l - 1+(64 - l)=63 by omega] at this
   exact Nat.le_trans this (by rw [hs];exact Nat.le_add_right _ _)
  have:=Nat.div_mul_le_self V (2^(64*j+l))
  rw [h1] at this
  rw [Nat.pow_add,Nat.mul_comm]
  exact Nat.le_trans (Nat.mul_le_mul_right _ hs63) this
 have h4:=sticky_top f mode n (upN V) (64*j+l+9802) more (by omega) (up_le V _ h3) (by rw [up_mod,mul_nz _ _ (np2 9802),h2];exact hm)
 rw [up_div,h1] at h4
 exact h4

theorem toNat_val (e s:Int) (m:Bool) (S E:Nat) (he:clampE e+10100=E) (hs:s=S):valN (clampE e) s m=S*2^E+m.toNat:=by
 unfold valN;rw [he,hs];simp

theorem top_len (V k:Nat) (h:limb V k≠0):1≤lenI (limb V k)∧lenI (limb V k)≤64:=by
 have hb:=limb_bd V k
 have:=len_log (limb V k) (by omega)
 exact ⟨by omega,len_le64 _ hb.1 hb.2⟩

theorem top_facts (V j:Nat) (L:Int) (hf:FitN V (j+1+1)) (h:limb V (j+1)≠0) (hL:lenI (limb V (j+1))=L):
  ∃ l A B:Nat,L=l∧limb V (j+1)=A∧limb V j=B∧V / 2^(64*(j+1))=A∧V / 2^(64*j)%2^64=B∧1≤l∧l≤64∧2^(l - 1)≤A∧A<2^l∧B<2^64:=by
 have hb:=limb_bd V (j+1)
 obtain ⟨t0,t1⟩:=top_len V (j+1) h
 have e:=len_log (limb V (j+1)) (by omega)
 have d:=div_step V (j+1)
 rw [Nat.div_eq_of_lt hf.out,Nat.zero_mul,Nat.zero_add] at d
 have hA:limb V (j+1)=((V / 2^(64*(j+1)):Nat):Int):=by unfold limb;rw [←d]
 have hA0:V / 2^(64*(j+1))≠0:=by intro c;rw [c] at hA;exact h hA
 refine ⟨L.toNat,V / 2^(64*(j+1)),V / 2^(64*j)%2^64,by omega,hA,rfl,rfl,rfl,by omega,by omega,?_,?_,Nat.mod_lt _ (np2 64)⟩
 ·rw [hA,Int.toNat_natCast] at e
  rw [←hL,hA,e,show ((((V / 2^(64*(j+1))).log2:Nat):Int)+1).toNat - 1=(V / 2^(64*(j+1))).log2 by omega]
  exact Nat.log2_self_le hA0
 ·rw [hA,Int.toNat_natCast] at e
  rw [←hL,hA,e,show ((((V / 2^(64*(j+1))).log2:Nat):Int)+1).toNat=(V / 2^(64*(j+1))).log2+1 by omega]
  exact Nat.lt_log2_self

theorem clamp_in (e:Int) (h0:-10000≤e) (h1:e≤10000):clampE e=e:=by unfold clampE;rw [if_neg (by omega),if_neg (by omega)]

theorem top_full (f mode:Int) (n:Bool) (V j:Nat) (hj:j≤9) (hf:FitN V (j+1+1)) (h:limb V (j+1)≠0) (hL:lenI (limb V (j+1))=64) (e:Int) (he:e=64*((j:Int)+1) - 298) (m:Bool) (hm:m=((limb V j != 0) || lowB V j)):
  PackE f mode n (valN (clampE e) (limb V (j+1)) m)=PackE f mode n (upN V):=by
 obtain ⟨l,A,B,e1,e2,e3,hA,hB,l0,l1,a0,a1,b1⟩:=top_facts V j 64 hf h hL
 have hl:l=64:=by omega
 subst hl
 rw [toNat_val e _ m A (64*j+64+9802) (by rw [clamp_in e (by omega) (by omega),he];omega) e2]
 refine top_core f mode n V j 64 A B A m hA hB l0 l1 a0 (by rw [Nat.div_eq_of_lt b1];simp) ?_
 rw [hm,e3,Nat.mod_eq_of_lt b1]
 unfold lowB
 simp only [Bool.or_eq_true,bne_iff_ne,decide_eq_true_eq]
 omega

theorem shl_limb (X l:Nat) (l1:l≤64):IntKind.u64.wrap ((X:Int)*2^(64 - (l:Int)).toNat)=((X%2^l*2^(64 - l):Nat):Int):=by
 have e64:2^64=2^l*2^(64 - l):=by rw [←Nat.pow_add,show l+(64 - l)=64 by omega]
 rw [IntKind.wrap_u64,show (64 - (l:Int)).toNat=64 - l by omega,pow2_cast,←Int.natCast_mul]
 rw [show (18446744073709551616:Int)=((2^64:Nat):Int) by decide,←Int.natCast_emod,e64,Nat.mul_mod_mul_right]

theorem top_part (f mode:Int) (n:Bool) (V j:Nat) (L:Int) (hj:j≤9) (hf:FitN V (j+1+1)) (h:limb V (j+1)≠0) (hL:lenI (limb V (j+1))=L) (e:Int) (he:e=64*((j:Int)+1) - 298 - (64 - L)) (s:Int) (hs:s=bits .or .u64 (IntKind.u64.wrap (limb V (j+1)*2^(64 - L).toNat)) (limb V j / 2^L.toNat)) (m:Bool)
  (hm:m=((IntKind.u64.wrap (limb V j*2^(64 - L).toNat) != 0) || lowB V j)):
  PackE f mode n (valN (clampE e) s m)=PackE f mode n (upN V):=by
 obtain ⟨l,A,B,e1,e2,e3,hA,hB,l0,l1,a0,a1,b1⟩:=top_facts V j L hf h hL
 subst e1
 have e64:2^64=2^l*2^(64 - l):=by rw [←Nat.pow_add,show l+(64 - l)=64 by omega]
 have hBl:B / 2^l<2^(64 - l):=by rw [Nat.div_lt_iff_lt_mul (np2 l),←Nat.pow_add,show 64 - l+l=64 by omega];exact b1
 have hAl:A*2^(64 - l)+2^(64 - l)≤2^64:=by
  rw [e64,←Nat.succ_mul];exact Nat.mul_le_mul_right _ a1
 have hsn:s=((A*2^(64 - l)+B / 2^l:Nat):Int):=by
  rw [hs,e2,e3,shl_limb A l l1,Nat.mod_eq_of_lt a1,show ((l:Int)).toNat=l by omega,pow2_cast,←Int.natCast_ediv]
  rw [Int.natCast_mul,←pow2_cast]
  rw [or_hi (A:Int) _ (64 - l) (Int.natCast_nonneg _) (by rw [pow2_cast];exact Int.ofNat_lt.2 hBl) (by omega) (by rw [pow2_cast,←Int.natCast_mul];omega)]
  rw [pow2_cast];omega
 rw [toNat_val e s m _ (64*j+l+9802) (by rw [clamp_in e (by omega) (by omega),he];omega) hsn]
 refine top_core f mode n V j l A B _ m hA hB l0 l1 a0 rfl ?_
 rw [hm,e3,shl_limb B l l1]
 unfold lowB
 simp only [Bool.or_eq_true,bne_iff_ne,decide_eq_true_eq]
 have:B%2^l*2^(64 - l)=0↔B%2^l=0:=by have:=np2 (64 - l);rw [Nat.mul_eq_zero];omega
 omega

theorem top_last (f mode:Int) (n:Bool) (V:Nat) (hf:FitN V 1):PackE f mode n (valN (clampE (-298)) (limb V 0) false)=PackE f mode n (upN V):=by
 have e:limb V 0=(V:Int):=by
  unfold limb
  have:=hf.out
  rw [Nat.mod_eq_of_lt] <;> simp <;> omega
 rw [toNat_val (-298) _ false V 9802 (by rw [clamp_in (-298) (by decide) (by decide)];omega) e]
 unfold upN
 rw [Bool.toNat_false,Nat.add_zero]
end Go.Proofs.YteifobleigfbaaaGreat
