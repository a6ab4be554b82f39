/- The contracts of annealref13's tensors: which may be, their numbers. -/
import Derived.Test.YteifobleigfbaaaGreatDict
import Derived.Test.YteifobleigfbaaaGreatWorld
import Derived.Test.YteifobleigfbaaaGreatRFmt
import Derived.Lib.Hide
import Derived.Handy
import Derived.BigRegion
import Derived.Deep.QuietTactic
import Derived.BigQuiet
namespace Go.Proofs.YteifobleigfbaaaGreat
open Go.RowKit
set_option linter.unusedVariables false
set_option linter.unusedSimpArgs false

def knownB (F:Int):Bool:=F==0 || (F==1 || F==2)

theorem knownB_yes {F:Int} (h:knownB F=true):F=0∨F=1∨F=2:=by
 unfold knownB at h;simpa using h

theorem knownB_no {F:Int} (h:knownB F=false):F≠0∧F≠1∧F≠2:=by
 unfold knownB at h;simpa using h

def rightB (R C F:Int) (n:Nat) (g:Nat→Int):Bool:=
 decide (0≤R∧R≤4096∧0≤C∧C≤4096)&&knownB F&&((n:Int)==R*C)&&allB n (fun i=>decide (g i≤msk F))

theorem rightB_yes {R C F:Int} {n:Nat} {g:Nat→Int} (h:rightB R C F n g=true):
  (0≤R∧R≤4096∧0≤C∧C≤4096)∧(F=0∨F=1∨F=2)∧(n:Int)=R*C∧∀ i,i<n→g i≤msk F:=by
 unfold rightB at h
 simp only [Bool.and_eq_true,decide_eq_true_eq,beq_iff_eq] at h
 exact ⟨h.1.1.1,knownB_yes h.1.1.2,h.1.2,fun i hi=>of_decide_eq_true (allB_of h.2 hi)⟩

theorem tknown_any (F:Int) (w:World):
  Calls Tryz.prog 85 #[.int .i64 F] w fun e w'=>e=.returned (.bool (knownB F))∧w=w':=by
 by_cases h0:F=0
 ·subst h0
  go_enter Tryz.func85,Tryz.ntmps85
  go_wp2
  go_ret
  exact ⟨rfl,rfl⟩
 ·by_cases h1:F=1
  ·subst h1
   go_enter Tryz.func85,Tryz.ntmps85
   go_wp2
   go_ret
   exact ⟨rfl,rfl⟩
  ·have e0:(F==0)=false:=by simp [h0]
   have e1:(F==1)=false:=by simp [h1]
   have hk:knownB F=(F==2):=by unfold knownB;rw [e0,e1];rfl
   rw [hk]
   clear hk
   go_enter Tryz.func85,Tryz.ntmps85
   go_wp2
   go_ret
   exact ⟨rfl,rfl⟩

theorem ten_mul (a b m n:Int) (a0:0≤a) (a1:a≤m) (b0:0≤b) (b1:b≤n):0≤a*b∧a*b≤m*n:=
 ⟨Int.mul_nonneg a0 b0,Int.mul_le_mul a1 b1 b0 (Int.le_trans a0 a1)⟩

theorem and_upper (a:Nat) (h:a<4294967296):a&&&4294901760=a / 65536*65536:=by
 apply Nat.eq_of_testBit_eq
 intro j
 rw [show 4294901760=(2^16 - 1)*2^16 by decide,show 65536=2^16 by decide,Nat.testBit_and,Nat.testBit_mul_two_pow,Nat.testBit_mul_two_pow,Nat.testBit_two_pow_sub_one,Nat.testBit_div_two_pow]
 by_cases c:16≤j
 ·rw [show j - 16+16=j by omega]
  by_cases d:j - 16<16
  ·simp [c,d]
  ·have:a.testBit j=false:=Nat.testBit_lt_two_pow (Nat.lt_of_lt_of_le h (by rw [show 4294967296=2^32 by decide];exact Nat.pow_le_pow_right (by decide) (by omega)))
   simp [c,d,this]
 ·simp [c]

theorem and_not_msk (f v:Int) (h0:0≤v) (h1:v≤4294967295):(bits .andNot .u32 v (msk f)==0)=decide (v≤msk f):=by
 rcases fmt_cases f with ⟨rfl,hf⟩ | ⟨rfl,hf⟩ | ⟨⟨c0,c1⟩,hf⟩ <;> obtain ⟨e1,e2,e3,e4,e5,e6,e7,e8,e9⟩:=hf <;> rw [e8,u32_andNot _ _ h0 (by omega) (by decide) (by decide)]
 ·rw [show 4294967295 - Int.toNat 65535=4294901760 by decide,and_upper _ (by omega)]
  rw [Bool.eq_iff_iff];simp only [beq_iff_eq,decide_eq_true_eq];omega
 ·rw [show 4294967295 - Int.toNat 65535=4294901760 by decide,and_upper _ (by omega)]
  rw [Bool.eq_iff_iff];simp only [beq_iff_eq,decide_eq_true_eq];omega
 ·rw [show 4294967295 - Int.toNat 4294967295=0 by decide,Nat.and_zero]
  rw [Bool.eq_iff_iff];simp only [beq_iff_eq,decide_eq_true_eq];omega

theorem rright_shape (R C F:Int) (ad:Option Addr) (n c:Nat) (w:World) (hn:n≤9223372036854775807)
  (h:(decide (0≤R∧R≤4096∧0≤C∧C≤4096)&&knownB F&&((n:Int)==R*C))=false):
  Calls Tryz.prog 46 #[.agg #[.int .i64 R,.int .i64 C,.int .i64 F,.slice ad n c]] w fun e w'=>e=.returned (.bool false)∧Grown w w':=by
 by_cases h1:0≤R
 ·by_cases h2:R≤4096
  ·by_cases h3:0≤C
   ·by_cases h4:C≤4096
    ·have hp:=ten_mul R C 4096 4096 h1 h2 h3 h4
     obtain ⟨K,hK⟩:∃ K,knownB F=K:=⟨_,rfl⟩
     have HK:=Lib.hid (show Ending.returned (.bool (knownB F))=.returned (.bool K) by rw [hK])
     rw [hK,decide_eq_true ⟨h1,h2,h3,h4⟩] at h
     clear hK
     obtain ⟨P,hP⟩:∃ P,R*C=P:=⟨_,rfl⟩
     have hw:IntKind.i64.wrap (R*C)=P:=by rw [hP] at hp ⊢;rw [IntKind.wrap_i64];omega
     rw [hP] at h hp
     cases K
     ·exact dx_32
     ·have hne:((n:Int)==P)=false:=by simpa using h
      have hne2:((n:Int) != P)=true:=by rw [bne,hne];rfl
      exact dx_32
    ·clear h
     go_enter Tryz.func46,Tryz.ntmps46
     go_wp2
     go_ret
     exact ⟨rfl,Grown.alloc (Grown.refl _) _ _⟩
   ·clear h
    go_enter Tryz.func46,Tryz.ntmps46
    go_wp2
    go_ret
    exact ⟨rfl,Grown.alloc (Grown.refl _) _ _⟩
  ·clear h
   go_enter Tryz.func46,Tryz.ntmps46
   go_wp2
   go_ret
   exact ⟨rfl,Grown.alloc (Grown.refl _) _ _⟩
 ·clear h
  go_enter Tryz.func46,Tryz.ntmps46
  go_wp2
  go_ret
  exact ⟨rfl,Grown.alloc (Grown.refl _) _ _⟩

theorem shape_yes {R C F:Int} {n:Nat} (h:(decide (0≤R∧R≤4096∧0≤C∧C≤4096)&&knownB F&&((n:Int)==R*C))=true):
  (0≤R∧R≤4096∧0≤C∧C≤4096)∧knownB F=true∧(n:Int)=R*C:=by
 simp only [Bool.and_eq_true,decide_eq_true_eq,beq_iff_eq] at h
 exact ⟨h.1.1,h.1.2,h.2⟩

set_option maxHeartbeats 1000000 in
theorem rright_loop (R C F:Int) (b off n c:Nat) (g:Nat→Int) (w:World) (hn:n≤9223372036854775807) (hg:∀ i,i<n→0≤g i∧g i≤4294967295)
  (hb:b<w.heap.size) (hc:∀ i,i<n→w.cell? ⟨b,off+i,none⟩=some (.int .u32 (g i)))
  (h:(decide (0≤R∧R≤4096∧0≤C∧C≤4096)&&knownB F&&((n:Int)==R*C))=true):
  Calls Tryz.prog 46 #[.agg #[.int .i64 R,.int .i64 C,.int .i64 F,.slice (some ⟨b,off,none⟩) n c]] w fun e w'=>e=.returned (.bool (allB n (fun i=>decide (g i≤msk F))))∧Grown w w':=by
 obtain ⟨⟨h1,h2,h3,h4⟩,h5,h6⟩:=shape_yes h
 have hp:=ten_mul R C 4096 4096 h1 h2 h3 h4
 have HK:=Lib.hid (show Ending.returned (.bool (knownB F))=.returned (.bool true) by rw [h5])
 obtain ⟨P,hP⟩:∃ P,R*C=P:=⟨_,rfl⟩
 have hw:IntKind.i64.wrap (R*C)=P:=by rw [hP] at hp ⊢;rw [IntKind.wrap_i64];omega
 rw [hP] at h6 hp
 have hne2:((n:Int) != P)=false:=by rw [bne,beq_iff_eq.2 h6];rfl
 have HC:=Lib.hid hc
 have HB:=Lib.hid hg
 have HM:=Lib.hid (and_not_msk F)
 obtain ⟨A,hA⟩:∃ A,allB n (fun i=>decide (g i≤msk F))=A:=⟨_,rfl⟩
 have HA:=Lib.hid hA
 obtain ⟨M,hM⟩:∃ M,msk F=M:=⟨_,rfl⟩
 have Hm:=Lib.hid (show Ending.returned (.int .u32 (msk F))=.returned (.int .u32 M) by rw [hM])
 have HM2:=Lib.hid hM
 have HMk:=Lib.hid (show ∀ w,Calls Tryz.prog 61 #[.int .i64 F] w fun e w'=>e=.returned (.int .u32 M)∧w=w' from fun w=>by rw [←hM];exact rmask_any F w)
 rw [hA]
 clear h h5 hP hc hg h6 hA hM
 have hnn:((n:Int)==P)=true:=by simpa [bne] using hne2
 go_enter Tryz.func46,Tryz.ntmps46
 go_wp2_with (go_at_call 85;refine (tknown_any _ _).mono ?_;rintro e w' ⟨he,rfl⟩;rw [HK.out] at he;subst he)
 have y2:(w.alloc (.cells #[.int .i64 R,.int .i64 C,.int .i64 F,.slice (some ⟨b,off,none⟩) n c] 24)).cell? ⟨w.heap.size,2,none⟩=some (.int .i64 F):=by go_simp
 have y3:(w.alloc (.cells #[.int .i64 R,.int .i64 C,.int .i64 F,.slice (some ⟨b,off,none⟩) n c] 24)).cell? ⟨w.heap.size,3,none⟩=some (.slice (some ⟨b,off,none⟩) n c):=by go_simp
 have HG:Grown w (w.alloc (.cells #[.int .i64 R,.int .i64 C,.int .i64 F,.slice (some ⟨b,off,none⟩) n c] 24)):=Grown.alloc (Grown.refl _) _ _
 have hZ:w.heap.size<(w.alloc (.cells #[.int .i64 R,.int .i64 C,.int .i64 F,.slice (some ⟨b,off,none⟩) n c] 24)).heap.size:=by simp
 generalize (w.alloc (.cells #[.int .i64 R,.int .i64 C,.int .i64 F,.slice (some ⟨b,off,none⟩) n c] 24))=W0 at y2 y3 HG hZ ⊢
 have HC':Hid (∀ i,i<n→W0.cell? ⟨b,off+i,none⟩=some (.int .u32 (g i))):=Lib.hid fun i hi=>grown_cell HG (HC.out i hi) hb
 have HG':=Lib.hid HG
 have hz:w.heap.size<W0.heap.size:=hZ
 have Y2:=Lib.hid y2
 have Y3:=Lib.hid y3
 clear HG hZ y2 y3
 go_loopw [3] (fun i wr=>∃ k:Nat,k≤n∧i=.int .i64 k∧Hid (Grown W0 wr)∧Hid (∀ j,j<k→g j≤M)) (fun i _=>n - (intOf i).toNat)
 case atStart=>exact ⟨0,Nat.zero_le _,rfl,Lib.hid (Grown.refl _),Lib.hid fun j hj=>by omega⟩
 case round=>
  obtain ⟨k,hk,rfl,HW,HJ⟩:=hrel
  have z2:wr.cell? ⟨w.heap.size,2,none⟩=some (.int .i64 F):=grown_cell HW.out Y2.out hz
  have z3:wr.cell? ⟨w.heap.size,3,none⟩=some (.slice (some ⟨b,off,none⟩) n c):=grown_cell HW.out Y3.out hz
  by_cases hlt:k<n
  ·have y0:wr.cell? ⟨b,off+k,none⟩=some (.int .u32 (g k)):=grown_cell HW.out (HC'.out k hlt) (Nat.lt_of_lt_of_le hb HG'.out.2.2)
   obtain ⟨x,hx⟩:∃ x,g k=x:=⟨_,rfl⟩
   have hm:=HM.out x (by rw [←hx];exact (HB.out k hlt).1) (by rw [←hx];exact (HB.out k hlt).2)
   rw [HM2.out] at hm
   rw [hx] at y0
   have HX:=Lib.hid hx
   clear hx
   by_cases hle:x≤M
   ·rw [decide_eq_true hle] at hm
    have hm2:(bits .andNot .u32 x M != 0)=false:=by rw [bne,hm];rfl
    go_wp2
    go_quiet ((go_at_call 61;exact quiet_same (HMk.out _)))
    go_wp2
    go_roundw
    case rel=>exact ⟨k+1,by omega,by go_num,Lib.hid (grown_more HW.out _),Lib.hid fun j hj=>by
     by_cases e:j=k
     ·subst e;rw [HX.out];exact hle
     ·exact HJ.out j (by omega)⟩
    case measure=>simp [intOf];omega
   ·rw [decide_eq_false hle] at hm
    have hm2:(bits .andNot .u32 x M != 0)=true:=by rw [bne,hm];rfl
    go_wp2
    go_quiet ((go_at_call 61;exact quiet_same (HMk.out _)))
    go_wp2
    go_ret
    have hF:A=false:=by rw [←HA.out];exact allB_no hlt (by rw [HX.out,HM2.out];exact decide_eq_false (by omega))
    exact ⟨by rw [hF];rfl,grown_trans HG'.out (by first | exact HW.out | exact grown_more HW.out _)⟩
  ·go_wp2
   go_ret
   have hF:A=true:=by rw [←HA.out];exact allB_yes fun i hi=>by rw [HM2.out];exact decide_eq_true (HJ.out i (by omega))
   exact ⟨by rw [hF];rfl,grown_trans HG'.out (by first | exact HW.out | exact grown_more HW.out _)⟩

theorem rright_nil (R C F:Int) (ad:Option Addr) (c:Nat) (w:World)
  (h:(decide (0≤R∧R≤4096∧0≤C∧C≤4096)&&knownB F&&(((0:Nat):Int)==R*C))=true):
  Calls Tryz.prog 46 #[.agg #[.int .i64 R,.int .i64 C,.int .i64 F,.slice ad 0 c]] w fun e w'=>e=.returned (.bool true)∧Grown w w':=by
 obtain ⟨⟨h1,h2,h3,h4⟩,h5,h6⟩:=shape_yes h
 have HK:=Lib.hid (show Ending.returned (.bool (knownB F))=.returned (.bool true) by rw [h5])
 have hw:IntKind.i64.wrap (R*C)=0:=by rw [←h6];decide
 clear h h5 h6
 go_enter Tryz.func46,Tryz.ntmps46
 go_wp2_with (go_at_call 85;refine (tknown_any _ _).mono ?_;rintro e w' ⟨he,rfl⟩;rw [HK.out] at he;subst he)
 refine wp_loop_rounds 1 ?_
 rw [rounds_succ]
 go_wp2
 go_ret
 exact ⟨rfl,Grown.alloc (Grown.refl _) _ _⟩

theorem rright_any (R C F:Int) (ad:Option Addr) (n c:Nat) (g:Nat→Int) (w:World) (hn:n≤9223372036854775807) (hr:Reads ad n g w):
  Calls Tryz.prog 46 #[.agg #[.int .i64 R,.int .i64 C,.int .i64 F,.slice ad n c]] w fun e w'=>e=.returned (.bool (rightB R C F n g))∧Grown w w':=by
 by_cases h:(decide (0≤R∧R≤4096∧0≤C∧C≤4096)&&knownB F&&((n:Int)==R*C))=true
 ·have e:rightB R C F n g=allB n (fun i=>decide (g i≤msk F)):=by unfold rightB;rw [h];rfl
  rw [e]
  rcases hr.2 with rfl | ⟨b,off,rfl,hl,hc⟩
  ·exact rright_nil R C F ad c w h
  ·exact rright_loop R C F b off n c g w hn hr.1 hl hc h
 ·have h':=Bool.eq_false_iff.2 h
  have e:rightB R C F n g=false:=by unfold rightB;rw [h'];rfl
  rw [e]
  exact rright_shape R C F ad n c w hn h'

structure PT where
 R:Int
 C:Int
 F:Int
 n:Nat
 g:Nat→Int

def PT.bad:PT:=⟨0,0,0,0,fun _=>0⟩

def PT.right (t:PT):Bool:=rightB t.R t.C t.F t.n t.g

def TenE (t:PT) (E:Int) (w:World) (e:Ending) (w':World):Prop:=
 ∃ (ad:Option Addr) (c:Nat),e=.returned (.tuple #[.agg #[.int .i64 t.R,.int .i64 t.C,.int .i64 t.F,.slice ad t.n c],.int .i64 E])∧Reads ad t.n t.g w'∧t.n≤9223372036854775807∧Fresh ad w∧Grown w w'

theorem wrap_mul (a b p:Nat) (ha:a≤4096) (hb:b≤4096) (h:a*b=p):IntKind.i64.wrap ((a:Int)*(b:Int))=(p:Int)∧p≤16777216:=by
 have h1:a*b≤4096*4096:=Nat.mul_le_mul ha hb
 have h2:((a:Int)*(b:Int))=(p:Int):=by rw [←h,Int.natCast_mul]
 rw [h2,IntKind.wrap_i64];omega

theorem wrap_add (a b p:Nat) (ha:a≤16777216) (hb:b≤4096) (h:a+b=p):IntKind.i64.wrap ((a:Int)+(b:Int))=(p:Int):=by
 rw [IntKind.wrap_i64];omega

theorem right_nat {t:PT} (h:t.right=true):∃ r c:Nat,t.R=r∧t.C=c∧r≤4096∧c≤4096∧t.n=r*c:=by
 obtain ⟨⟨h1,h2,h3,h4⟩,_,h6,_⟩:=rightB_yes h
 refine ⟨t.R.toNat,t.C.toNat,by omega,by omega,by omega,by omega,?_⟩
 have:(t.n:Int)=(t.R.toNat:Int)*(t.C.toNat:Int):=by rw [h6,Int.toNat_of_nonneg h1,Int.toNat_of_nonneg h3]
 rw [←Int.natCast_mul] at this
 exact Int.ofNat_inj.1 this

theorem ix_any (r c R C:Nat) (hr:r<R) (hc:c<C) (hR:R≤4096) (hC:C≤4096):
  ∃ P1 P:Nat,IntKind.i64.wrap ((r:Int)*(C:Int))=(P1:Int)∧IntKind.i64.wrap ((P1:Int)+(c:Int))=(P:Int)∧P<R*C∧r*C+c=P:=by
 have hlt:r*C+c<R*C:=by
  have:=Nat.mul_le_mul_right C (show r+1≤R by omega)
  rw [Nat.add_mul,Nat.one_mul] at this;omega
 obtain ⟨e1,e2⟩:=wrap_mul r C (r*C) (by omega) hC rfl
 exact ⟨r*C,r*C+c,e1,wrap_add (r*C) c _ e2 (by omega) rfl,hlt,rfl⟩

theorem ix_back (I J n:Nat) (h:J<n):(I*n+J) / n=I∧(I*n+J)%n=J:=by
 rw [Nat.mul_comm I n,Nat.mul_add_div (by omega),Nat.div_eq_of_lt h,Nat.mul_add_mod,Nat.mod_eq_of_lt h]
 exact ⟨rfl,rfl⟩

def clampI (n:Int):Int:=if n<0 then 0 else if 4096<n then 4096 else n

def newB (R C:Int):Bool:=decide (262144<clampI R*clampI C)

def newR (R C:Int):Int:=if newB R C then 0 else clampI R

def newC (R C:Int):Int:=if newB R C then 0 else clampI C

def newF (F:Int):Int:=if knownB F then F else 2

theorem clamp_nat (n:Int):∃ k:Nat,clampI n=k∧k≤4096:=by
 refine ⟨(clampI n).toNat,?_,?_⟩ <;> unfold clampI <;> (repeat' split) <;> omega

theorem reads_lit (w:World) (L:List Int) (t:TypeId) (n b:Nat) (hn:n=L.length) (hb:∀ x ∈ L,0≤x∧x≤4294967295) (hs:w.heap.size=b):Reads (some ⟨b,0,none⟩) n (fun i=>L.getD i 0) (w.alloc (.cells (L.map fun x=>Value.int .u32 x).toArray t)):=by
 subst hn hs
 refine ⟨fun i hi=>?_,.inr ⟨w.heap.size,0,rfl,by simp,fun i hi=>?_⟩⟩
 ·have e:L.getD i 0=L[i]:=by simp [List.getD,hi]
  show 0≤L.getD i 0∧L.getD i 0≤4294967295
  rw [e];exact hb _ (List.getElem_mem hi)
 ·rw [Nat.zero_add,World.cell?_alloc_at (hn:=rfl)]
  simp [hi]

theorem ten_right {x y n:Nat} {F:Int} {g:Nat→Int} (hx:x≤4096) (hy:y≤4096) (hF:knownB F=true) (hn:n=x*y) (h:∀ i,i<n→g i≤msk F):rightB x y F n g=true:=by
 unfold rightB
 rw [decide_eq_true (by omega),hF,beq_iff_eq.2 (by rw [hn,Int.natCast_mul]),allB_yes fun i hi=>decide_eq_true (h i hi)]
 rfl
end Go.Proofs.YteifobleigfbaaaGreat
