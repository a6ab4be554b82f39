/- Contracts of the reference's wide numbers: spread, nought, below. Contracts of the reference's wide numbers: sums of like signs. (Written by gen4.py.) Contracts of the reference's wide numbers: differences. (Written by gen4.py.) Contracts of the reference's wide numbers: differences, the greater one ahead. (Written by gen4.py.) Contracts of the reference's wide numbers: rounded. Contracts of the reference's wide numbers: sums of any signs, rounded. -/
import Derived.Test.YteifobleigfbaaaGreatRows
import Derived.Test.YteifobleigfbaaaGreatRFmt
import Derived.Test.YteifobleigfbaaaGreatWorld
import Derived.Test.YteifobleigfbaaaGreatLimbs
import Derived.Lib.Hide
import Derived.Handy
import Derived.DeepKeys
import Derived.KernelRfl
import Derived.Deep.QuietTactic
import Derived.BigQuiet
import Derived.Test.YteifobleigfbaaaGreatRRdT
namespace Go.Proofs.YteifobleigfbaaaGreat
open Go.RowKit
set_option linter.unusedVariables false
set_option linter.unusedSimpArgs false

/-! Contracts of the reference's wide numbers. -/
theorem results_cell1 {fn:Func} {p:Tmp} {ty:TypeId} (h:fn.results=#[.cell p ty]) (tmps:Array Value) (P:Program) (w:World):
  (results fn tmps).run P w=((asAddr (tmps.getD p undef)).run P w).andThen fun a w₁=>(loadVar ty a).run P w₁:=by
 simp only [results,h]
 simp [Sem.run_bind,Result.andThen]

set_option maxRecDepth 100000 in
set_option maxHeartbeats 8000000 in
theorem spread_any (neg:Bool) (exp sig:Int) (w:World) (A B:Nat) (hA:A<10) (hB:B<64) (he:exp+298=64*A+B) (s0:0≤sig) (s1:sig≤18446744073709551615):
  Calls Tryz.prog 114 #[.bool neg,.int .i64 exp,.int .u64 sig] w fun e w'=>e=.returned (wideV neg (sprN sig.toNat A B))∧Grown w w':=by
 have hq:(exp+298) / 64=A:=by omega
 have hr:(exp+298)%64=B:=by omega
 have hx0:-298≤exp:=by omega
 have hx1:exp≤400:=by omega
 have L:Hid (∀ i,limb (sprN sig.toNat A B) i=if i=A then (if B=0 then sig else IntKind.u64.wrap (sig*2^B)) else if i=A+1 then (if B=0 then 0 else sig / 2^(64 - B)) else 0):=by
  intro i
  obtain ⟨S,rfl⟩:=Int.eq_ofNat_of_zero_le s0
  rw [Int.toNat_natCast]
  split
  ·subst i
   rw [spr_at]
   split
   ·subst B;simp;omega
   ·rw [IntKind.wrap_u64,pow2_cast,←Int.natCast_mul];omega
  ·split
   ·subst i
    rw [spr_next S A B (by omega) hB]
    split
    ·subst B;simp;omega
    ·rw [spr_div S B (by omega) hB,pow2_cast,←Int.natCast_ediv]
   ·rcases Nat.lt_trichotomy i A with h | h | h
    ·exact spr_low S A B i h
    ·exact absurd h (by assumption)
    ·exact spr_high S A B i (by omega) hB (by omega)
 clear he
 have hA':A=0∨A=1∨A=2∨A=3∨A=4∨A=5∨A=6∨A=7∨A=8∨A=9:=by omega
 clear hA
 rcases hA' with rfl | rfl | rfl | rfl | rfl | rfl | rfl | rfl | rfl | rfl
 all_goals
  rcases Nat.eq_zero_or_pos B with hB0 | hB0
  all_goals
   try subst hB0
   go_enter Tryz.func114,Tryz.ntmps114
   go_wp2
   (try simp only [Exit.inBlock,Exit.then])
   refine bodyPost_ret (v:=wideV neg (sprN sig.toNat _ _)) ?_ rfl ⟨rfl,Grown.alloc (Grown.alloc (Grown.refl _) _ _) _ _⟩
   rw [results_cell1 rfl]
   unfold wideV
   go_simp
  all_goals
   have l:=L.out
   simp [l]
   try omega

/-! Contracts of the reference's wide numbers: is it nought,which is below. -/
theorem lits10 (a0 a1 a2 a3 a4 a5 a6 a7 a8 a9:Int) (h0:(Lit.int .u64 a0).wf=true) (h1:(Lit.int .u64 a1).wf=true) (h2:(Lit.int .u64 a2).wf=true) (h3:(Lit.int .u64 a3).wf=true) (h4:(Lit.int .u64 a4).wf=true) (h5:(Lit.int .u64 a5).wf=true) (h6:(Lit.int .u64 a6).wf=true) (h7:(Lit.int .u64 a7).wf=true) (h8:(Lit.int .u64 a8).wf=true) (h9:(Lit.int .u64 a9).wf=true):
  (Tryz.prog).keyLits 100 110 [.int .u64 a0,.int .u64 a1,.int .u64 a2,.int .u64 a3,.int .u64 a4,.int .u64 a5,.int .u64 a6,.int .u64 a7,.int .u64 a8,.int .u64 a9]=some [.int .u64 a0,.int .u64 a1,.int .u64 a2,.int .u64 a3,.int .u64 a4,.int .u64 a5,.int .u64 a6,.int .u64 a7,.int .u64 a8,.int .u64 a9]:=by
 have u1:(Tryz.prog).underlying 110=some (.array 10 79):=by kernel_rfl
 have u2:(Tryz.prog).underlying 79=some (.int .u64):=by kernel_rfl
 have c1:(Tryz.prog).cellsOf 110=10:=by kernel_rfl
 have c2:(Tryz.prog).cellsOf 79=1:=by kernel_rfl
 have one:∀ x:Int,(Lit.int .u64 x).wf=true→(Tryz.prog).keyLits 99 79 [.int .u64 x]=some [.int .u64 x]:=by
  intro x hx
  unfold Program.keyLits
  simp [u2,hx]
 have r10:List.range 10=[0,1,2,3,4,5,6,7,8,9]:=by decide
 unfold Program.keyLits
 simp [u1,c1,c2,r10,one a0 h0,one a1 h1,one a2 h2,one a3 h3,one a4 h4,one a5 h5,one a6 h6,one a7 h7,one a8 h8,one a9 h9]

set_option maxRecDepth 100000 in
theorem eq10 (w:World) (a0 a1 a2 a3 a4 a5 a6 a7 a8 a9 b0 b1 b2 b3 b4 b5 b6 b7 b8 b9:Int) (h0:(Lit.int .u64 a0).wf=true) (h1:(Lit.int .u64 a1).wf=true) (h2:(Lit.int .u64 a2).wf=true) (h3:(Lit.int .u64 a3).wf=true) (h4:(Lit.int .u64 a4).wf=true) (h5:(Lit.int .u64 a5).wf=true) (h6:(Lit.int .u64 a6).wf=true) (h7:(Lit.int .u64 a7).wf=true) (h8:(Lit.int .u64 a8).wf=true) (h9:(Lit.int .u64 a9).wf=true) (g0:(Lit.int .u64 b0).wf=true) (g1:(Lit.int .u64 b1).wf=true) (g2:(Lit.int .u64 b2).wf=true) (g3:(Lit.int .u64 b3).wf=true) (g4:(Lit.int .u64 b4).wf=true) (g5:(Lit.int .u64 b5).wf=true) (g6:(Lit.int .u64 b6).wf=true) (g7:(Lit.int .u64 b7).wf=true) (g8:(Lit.int .u64 b8).wf=true) (g9:(Lit.int .u64 b9).wf=true):
  (Op.equalIn 10000 110 (.agg #[.int .u64 a0,.int .u64 a1,.int .u64 a2,.int .u64 a3,.int .u64 a4,.int .u64 a5,.int .u64 a6,.int .u64 a7,.int .u64 a8,.int .u64 a9]) (.agg #[.int .u64 b0,.int .u64 b1,.int .u64 b2,.int .u64 b3,.int .u64 b4,.int .u64 b5,.int .u64 b6,.int .u64 b7,.int .u64 b8,.int .u64 b9])).run Tryz.prog w=.ok (decide (a0=b0∧a1=b1∧a2=b2∧a3=b3∧a4=b4∧a5=b5∧a6=b6∧a7=b7∧a8=b8∧a9=b9)) w:=by
 obtain ⟨r,h,e⟩:=run_equalIn_deep (P:=Tryz.prog) 9998 2 110 (by kernel_rfl) w 100 100 (.agg #[.int .u64 a0,.int .u64 a1,.int .u64 a2,.int .u64 a3,.int .u64 a4,.int .u64 a5,.int .u64 a6,.int .u64 a7,.int .u64 a8,.int .u64 a9]) (.agg #[.int .u64 b0,.int .u64 b1,.int .u64 b2,.int .u64 b3,.int .u64 b4,.int .u64 b5,.int .u64 b6,.int .u64 b7,.int .u64 b8,.int .u64 b9]) _ _ (by kernel_rfl) (by kernel_rfl) (lits10 a0 a1 a2 a3 a4 a5 a6 a7 a8 a9 h0 h1 h2 h3 h4 h5 h6 h7 h8 h9) (lits10 b0 b1 b2 b3 b4 b5 b6 b7 b8 b9 g0 g1 g2 g3 g4 g5 g6 g7 g8 g9)
 rw [h]
 congr 1
 rw [Bool.eq_iff_iff,e,decide_eq_true_eq]
 simp

set_option maxHeartbeats 1000000 in
theorem nought_is (neg:Bool) (V:Nat) (w:World) (hV:V<2^(64*10)):
  Calls Tryz.prog 165 #[wideV neg V] w fun e w'=>e=.returned (.bool (decide (V=0)))∧w.alloc (.cells (wideO neg V) 112)=w':=by
 have hw:=limb_wf V
 have hz:(Lit.int .u64 0).wf=true:=by decide
 have hE:=fun W=>eq10 W (limb V 0) (limb V 1) (limb V 2) (limb V 3) (limb V 4) (limb V 5) (limb V 6) (limb V 7) (limb V 8) (limb V 9) 0 0 0 0 0 0 0 0 0 0 (hw 0) (hw 1) (hw 2) (hw 3) (hw 4) (hw 5) (hw 6) (hw 7) (hw 8) (hw 9) hz hz hz hz hz hz hz hz hz hz
 have hD:Hid ((decide (limb V 0=0)&&(decide (limb V 1=0)&&(decide (limb V 2=0)&&(decide (limb V 3=0)&&(decide (limb V 4=0)&&(decide (limb V 5=0)&&(decide (limb V 6=0)&&(decide (limb V 7=0)&&(decide (limb V 8=0)&&decide (limb V 9=0))))))))))=decide (V=0)):=by
  show _=_
  rw [Bool.eq_iff_iff]
  simp only [Bool.and_eq_true,decide_eq_true_eq]
  constructor
  ·intro ⟨h0,h1,h2,h3,h4,h5,h6,h7,h8,h9⟩
   refine limbs_zero 10 V hV (fun i hi=>?_)
   have:i=0∨i=1∨i=2∨i=3∨i=4∨i=5∨i=6∨i=7∨i=8∨i=9:=by omega
   rcases this with e | e | e | e | e | e | e | e | e | e <;> rw [e]
   ·exact h0
   ·exact h1
   ·exact h2
   ·exact h3
   ·exact h4
   ·exact h5
   ·exact h6
   ·exact h7
   ·exact h8
   ·exact h9
  ·intro e
   rw [e]
   exact ⟨limb_zero 0,limb_zero 1,limb_zero 2,limb_zero 3,limb_zero 4,limb_zero 5,limb_zero 6,limb_zero 7,limb_zero 8,limb_zero 9⟩
 clear hw hz hV
 unfold wideV
 go_enter Tryz.func165,Tryz.ntmps165
 go_wp2
 go_ret
 exact ⟨ret_bool hD.out,rfl⟩

/-! Contracts of the reference's wide numbers: which is below. -/
def topN (V k:Nat):Nat:=V / 2^(64*k)

def BelowRel (V W:Nat) (W0:World) (i:Value) (wr:World):Prop:=
 ∃ k m:Nat,k≤10∧i=.int .i64 ((k:Int) - 1)∧wr=W0.drewN m∧topN V k=topN W k

theorem top_ten (n V W:Nat) (hV:V<2^(64*n)) (hW:W<2^(64*n)):topN V n=topN W n:=by
 unfold topN
 rw [Nat.div_eq_of_lt hV,Nat.div_eq_of_lt hW]

theorem topN_step (V W i:Nat) (h:topN V (i+1)=topN W (i+1)) (hl:limb V i=limb W i):topN V i=topN W i:=top_step V W i h hl

theorem topN_less (V W i:Nat) (h:topN V (i+1)=topN W (i+1)) (hl:limb V i≠limb W i):(V<W↔limb V i<limb W i):=top_less V W i h hl

set_option maxRecDepth 100000 in
set_option maxHeartbeats 8000000 in
theorem below_is (nx ny:Bool) (V W:Nat) (w:World) (hV:V<2^(64*10)) (hW:W<2^(64*10)):
  Calls Tryz.prog 181 #[wideV nx V,wideV ny W] w fun e w'=>e=.returned (.bool (decide (V<W)))∧∃ m,w'=((w.alloc (.cells (wideO nx V) 112)).alloc (.cells (wideO ny W) 112)).drewN m:=by
 have HT:=Lib.hid (top_ten 10 V W hV hW)
 clear hV hW
 unfold wideV
 go_enter Tryz.func181,Tryz.ntmps181
 go_wp2
 go_loopw [5] (fun i wr=>BelowRel V W ((w.alloc (.cells #[.bool nx,.int .u64 (limb V 0),.int .u64 (limb V 1),.int .u64 (limb V 2),.int .u64 (limb V 3),.int .u64 (limb V 4),.int .u64 (limb V 5),.int .u64 (limb V 6),.int .u64 (limb V 7),.int .u64 (limb V 8),.int .u64 (limb V 9)] 112)).alloc (.cells #[.bool ny,.int .u64 (limb W 0),.int .u64 (limb W 1),.int .u64 (limb W 2),.int .u64 (limb W 3),.int .u64 (limb W 4),.int .u64 (limb W 5),.int .u64 (limb W 6),.int .u64 (limb W 7),.int .u64 (limb W 8),.int .u64 (limb W 9)] 112)) i wr) (fun i _=>(intOf i+1).toNat)
 case atStart=>exact ⟨10,0,by decide,rfl,rfl,HT.out⟩
 case round=>
  obtain ⟨k,m,hk,rfl,rfl,ht⟩:=hrel
  have hk':k=0∨k=1∨k=2∨k=3∨k=4∨k=5∨k=6∨k=7∨k=8∨k=9∨k=10:=by omega
  clear hk
  rcases hk' with rfl | rfl | rfl | rfl | rfl | rfl | rfl | rfl | rfl | rfl | rfl
  ·have he:V=W:=by simpa [topN] using ht
   have hd:=Lib.hid (decide_eq_false (show ¬V<W by omega))
   clear he ht
   go_wp2
   go_ret
   exact ⟨ret_bool hd.out.symm,_,rfl⟩
  ·by_cases he:limb V 0=limb W 0
   ·have hb:(limb V 0 != limb W 0)=false:=by rw [he];simp
    have HR:=Lib.hid (topN_step V W 0 ht he)
    clear he ht
    go_wp2
    go_quiet (fail)
    go_wp2
    go_roundw
    case rel=>exact ⟨0,_,by decide,by go_num,rfl,HR.out⟩
    case measure=>simp [intOf]
   ·have hb:(limb V 0 != limb W 0)=true:=by simpa using he
    have HL:=Lib.hid (topN_less V W 0 ht he)
    clear he ht
    go_wp2
    go_quiet (fail)
    go_wp2
    go_quiet (fail)
    go_wp2
    go_ret
    exact ⟨ret_bool (by rw [Bool.eq_iff_iff,decide_eq_true_eq,decide_eq_true_eq];exact HL.out.symm),_,by simp only [World.drewN_drewN];rfl⟩
  ·by_cases he:limb V 1=limb W 1
   ·have hb:(limb V 1 != limb W 1)=false:=by rw [he];simp
    have HR:=Lib.hid (topN_step V W 1 ht he)
    clear he ht
    go_wp2
    go_quiet (fail)
    go_wp2
    go_roundw
    case rel=>exact ⟨1,_,by decide,by go_num,rfl,HR.out⟩
    case measure=>simp [intOf]
   ·have hb:(limb V 1 != limb W 1)=true:=by simpa using he
    have HL:=Lib.hid (topN_less V W 1 ht he)
    clear he ht
    go_wp2
    go_quiet (fail)
    go_wp2
    go_quiet (fail)
    go_wp2
    go_ret
    exact ⟨ret_bool (by rw [Bool.eq_iff_iff,decide_eq_true_eq,decide_eq_true_eq];exact HL.out.symm),_,by simp only [World.drewN_drewN];rfl⟩
  ·by_cases he:limb V 2=limb W 2
   ·have hb:(limb V 2 != limb W 2)=false:=by rw [he];simp
    have HR:=Lib.hid (topN_step V W 2 ht he)
    clear he ht
    go_wp2
    go_quiet (fail)
    go_wp2
    go_roundw
    case rel=>exact ⟨2,_,by decide,by go_num,rfl,HR.out⟩
    case measure=>simp [intOf]
   ·have hb:(limb V 2 != limb W 2)=true:=by simpa using he
    have HL:=Lib.hid (topN_less V W 2 ht he)
    clear he ht
    go_wp2
    go_quiet (fail)
    go_wp2
    go_quiet (fail)
    go_wp2
    go_ret
    exact ⟨ret_bool (by rw [Bool.eq_iff_iff,decide_eq_true_eq,decide_eq_true_eq];exact HL.out.symm),_,by simp only [World.drewN_drewN];rfl⟩
  ·by_cases he:limb V 3=limb W 3
   ·have hb:(limb V 3 != limb W 3)=false:=by rw [he];simp
    have HR:=Lib.hid (topN_step V W 3 ht he)
    clear he ht
    go_wp2
    go_quiet (fail)
    go_wp2
    go_roundw
    case rel=>exact ⟨3,_,by decide,by go_num,rfl,HR.out⟩
    case measure=>simp [intOf]
   ·have hb:(limb V 3 != limb W 3)=true:=by simpa using he
    have HL:=Lib.hid (topN_less V W 3 ht he)
    clear he ht
    go_wp2
    go_quiet (fail)
    go_wp2
    go_quiet (fail)
    go_wp2
    go_ret
    exact ⟨ret_bool (by rw [Bool.eq_iff_iff,decide_eq_true_eq,decide_eq_true_eq];exact HL.out.symm),_,by simp only [World.drewN_drewN];rfl⟩
  ·by_cases he:limb V 4=limb W 4
   ·have hb:(limb V 4 != limb W 4)=false:=by rw [he];simp
    have HR:=Lib.hid (topN_step V W 4 ht he)
    clear he ht
    go_wp2
    go_quiet (fail)
    go_wp2
    go_roundw
    case rel=>exact ⟨4,_,by decide,by go_num,rfl,HR.out⟩
    case measure=>simp [intOf]
   ·have hb:(limb V 4 != limb W 4)=true:=by simpa using he
    have HL:=Lib.hid (topN_less V W 4 ht he)
    clear he ht
    go_wp2
    go_quiet (fail)
    go_wp2
    go_quiet (fail)
    go_wp2
    go_ret
    exact ⟨ret_bool (by rw [Bool.eq_iff_iff,decide_eq_true_eq,decide_eq_true_eq];exact HL.out.symm),_,by simp only [World.drewN_drewN];rfl⟩
  ·by_cases he:limb V 5=limb W 5
   ·have hb:(limb V 5 != limb W 5)=false:=by rw [he];simp
    have HR:=Lib.hid (topN_step V W 5 ht he)
    clear he ht
    go_wp2
    go_quiet (fail)
    go_wp2
    go_roundw
    case rel=>exact ⟨5,_,by decide,by go_num,rfl,HR.out⟩
    case measure=>simp [intOf]
   ·have hb:(limb V 5 != limb W 5)=true:=by simpa using he
    have HL:=Lib.hid (topN_less V W 5 ht he)
    clear he ht
    go_wp2
    go_quiet (fail)
    go_wp2
    go_quiet (fail)
    go_wp2
    go_ret
    exact ⟨ret_bool (by rw [Bool.eq_iff_iff,decide_eq_true_eq,decide_eq_true_eq];exact HL.out.symm),_,by simp only [World.drewN_drewN];rfl⟩
  ·by_cases he:limb V 6=limb W 6
   ·have hb:(limb V 6 != limb W 6)=false:=by rw [he];simp
    have HR:=Lib.hid (topN_step V W 6 ht he)
    clear he ht
    go_wp2
    go_quiet (fail)
    go_wp2
    go_roundw
    case rel=>exact ⟨6,_,by decide,by go_num,rfl,HR.out⟩
    case measure=>simp [intOf]
   ·have hb:(limb V 6 != limb W 6)=true:=by simpa using he
    have HL:=Lib.hid (topN_less V W 6 ht he)
    clear he ht
    go_wp2
    go_quiet (fail)
    go_wp2
    go_quiet (fail)
    go_wp2
    go_ret
    exact ⟨ret_bool (by rw [Bool.eq_iff_iff,decide_eq_true_eq,decide_eq_true_eq];exact HL.out.symm),_,by simp only [World.drewN_drewN];rfl⟩
  ·by_cases he:limb V 7=limb W 7
   ·have hb:(limb V 7 != limb W 7)=false:=by rw [he];simp
    have HR:=Lib.hid (topN_step V W 7 ht he)
    clear he ht
    go_wp2
    go_quiet (fail)
    go_wp2
    go_roundw
    case rel=>exact ⟨7,_,by decide,by go_num,rfl,HR.out⟩
    case measure=>simp [intOf]
   ·have hb:(limb V 7 != limb W 7)=true:=by simpa using he
    have HL:=Lib.hid (topN_less V W 7 ht he)
    clear he ht
    go_wp2
    go_quiet (fail)
    go_wp2
    go_quiet (fail)
    go_wp2
    go_ret
    exact ⟨ret_bool (by rw [Bool.eq_iff_iff,decide_eq_true_eq,decide_eq_true_eq];exact HL.out.symm),_,by simp only [World.drewN_drewN];rfl⟩
  ·by_cases he:limb V 8=limb W 8
   ·have hb:(limb V 8 != limb W 8)=false:=by rw [he];simp
    have HR:=Lib.hid (topN_step V W 8 ht he)
    clear he ht
    go_wp2
    go_quiet (fail)
    go_wp2
    go_roundw
    case rel=>exact ⟨8,_,by decide,by go_num,rfl,HR.out⟩
    case measure=>simp [intOf]
   ·have hb:(limb V 8 != limb W 8)=true:=by simpa using he
    have HL:=Lib.hid (topN_less V W 8 ht he)
    clear he ht
    go_wp2
    go_quiet (fail)
    go_wp2
    go_quiet (fail)
    go_wp2
    go_ret
    exact ⟨ret_bool (by rw [Bool.eq_iff_iff,decide_eq_true_eq,decide_eq_true_eq];exact HL.out.symm),_,by simp only [World.drewN_drewN];rfl⟩
  ·by_cases he:limb V 9=limb W 9
   ·have hb:(limb V 9 != limb W 9)=false:=by rw [he];simp
    have HR:=Lib.hid (topN_step V W 9 ht he)
    clear he ht
    go_wp2
    go_quiet (fail)
    go_wp2
    go_roundw
    case rel=>exact ⟨9,_,by decide,by go_num,rfl,HR.out⟩
    case measure=>simp [intOf]
   ·have hb:(limb V 9 != limb W 9)=true:=by simpa using he
    have HL:=Lib.hid (topN_less V W 9 ht he)
    clear he ht
    go_wp2
    go_quiet (fail)
    go_wp2
    go_quiet (fail)
    go_wp2
    go_ret
    exact ⟨ret_bool (by rw [Bool.eq_iff_iff,decide_eq_true_eq,decide_eq_true_eq];exact HL.out.symm),_,by simp only [World.drewN_drewN];rfl⟩

def PlusRel (n m:Bool) (V W:Nat) (w0:World) (c i:Value) (wr:World):Prop:=
 ∃ k d:Nat,k≤10∧i=.int .i64 k∧c=.int .u64 (carN V W k)∧wr=(((w0.alloc (.cells (mixO n V (V+W) k) 112)).alloc (.cells (wideO m W) 112)).alloc (.cells nilO 112)).drewN d

set_option maxRecDepth 100000 in
set_option maxHeartbeats 8000000 in
theorem plus_like (n:Bool) (V W:Nat) (w:World):
  Calls Tryz.prog 164 #[wideV n V,wideV n W] w fun e w'=>e=.returned (wideV n (V+W))∧Grown w w':=by
 unfold wideV
 have hnn:(n != n)=false:=by simp
 go_enter Tryz.func164,Tryz.ntmps164
 go_wp2
 clear hnn
 go_loopw [5,6,7,8] (fun c i s d wr=>PlusRel n n V W w c i wr) (fun _ i _ _ _=>(10 - intOf i).toNat)
 case atStart=>exact ⟨0,0,by decide,rfl,by rw [car_zero],rfl⟩
 case round=>
  obtain ⟨k,d,hk,rfl,rfl,rfl⟩:=hrel
  have hk':k=0∨k=1∨k=2∨k=3∨k=4∨k=5∨k=6∨k=7∨k=8∨k=9∨k=10:=by omega
  clear hk
  rcases hk' with rfl | rfl | rfl | rfl | rfl | rfl | rfl | rfl | rfl | rfl | rfl
  ·have HC:=Lib.hid (plus_way _ _ _ _ _ (limb_bd V 0).1 (limb_bd V 0).2 (limb_bd W 0).1 (limb_bd W 0).2 (car_01 V W 0) (car_01 V W 1) (limb_bd (V+W) 0).1 (limb_bd (V+W) 0).2 (car_step V W 0))
   unfold mixO wideO nilO
   simp only [mixL]
   by_cases hs:IntKind.u64.wrap (limb V 0+limb W 0)<limb V 0
   ·have HS:=Lib.hid hs
    go_wp2
    go_quiet (fail)
    go_wp2
    exact ⟨⟨1,_,by decide,rfl,is_u64 ((car_is HC.out.2 (car_01 V W 1)).1 (.inl HS.out)),round_world w n n V W (V+W) 0 112 _ _ (by decide) HC.out.1⟩,by simp [intOf]⟩
   ·have HS:=Lib.hid hs
    have hsb:decide (IntKind.u64.wrap (limb V 0+limb W 0)<limb V 0)=false:=decide_eq_false hs
    clear hs
    by_cases ht:IntKind.u64.wrap (IntKind.u64.wrap (limb V 0+limb W 0)+carN V W 0)<IntKind.u64.wrap (limb V 0+limb W 0)
    ·have HT:=Lib.hid ht
     have htb:decide (IntKind.u64.wrap (IntKind.u64.wrap (limb V 0+limb W 0)+carN V W 0)<IntKind.u64.wrap (limb V 0+limb W 0))=true:=decide_eq_true ht
     clear ht
     go_wp2
     go_quiet (fail)
     go_wp2
     exact ⟨⟨1,_,by decide,rfl,is_u64 ((car_is HC.out.2 (car_01 V W 1)).1 (.inr HT.out)),round_world w n n V W (V+W) 0 112 _ _ (by decide) HC.out.1⟩,by simp [intOf]⟩
    ·have HT:=Lib.hid ht
     have htb:decide (IntKind.u64.wrap (IntKind.u64.wrap (limb V 0+limb W 0)+carN V W 0)<IntKind.u64.wrap (limb V 0+limb W 0))=false:=decide_eq_false ht
     clear ht
     go_wp2
     go_quiet (fail)
     go_wp2
     exact ⟨⟨1,_,by decide,rfl,is_u64 ((car_is HC.out.2 (car_01 V W 1)).2 (fun h=>h.elim (Int.not_lt.2 HS.out) (Int.not_lt.2 HT.out))),round_world w n n V W (V+W) 0 112 _ _ (by decide) HC.out.1⟩,by simp [intOf]⟩
  ·have HC:=Lib.hid (plus_way _ _ _ _ _ (limb_bd V 1).1 (limb_bd V 1).2 (limb_bd W 1).1 (limb_bd W 1).2 (car_01 V W 1) (car_01 V W 2) (limb_bd (V+W) 1).1 (limb_bd (V+W) 1).2 (car_step V W 1))
   unfold mixO wideO nilO
   simp only [mixL]
   by_cases hs:IntKind.u64.wrap (limb V 1+limb W 1)<limb V 1
   ·have HS:=Lib.hid hs
    go_wp2
    go_quiet (fail)
    go_wp2
    exact ⟨⟨2,_,by decide,rfl,is_u64 ((car_is HC.out.2 (car_01 V W 2)).1 (.inl HS.out)),round_world w n n V W (V+W) 1 112 _ _ (by decide) HC.out.1⟩,by simp [intOf]⟩
   ·have HS:=Lib.hid hs
    have hsb:decide (IntKind.u64.wrap (limb V 1+limb W 1)<limb V 1)=false:=decide_eq_false hs
    clear hs
    by_cases ht:IntKind.u64.wrap (IntKind.u64.wrap (limb V 1+limb W 1)+carN V W 1)<IntKind.u64.wrap (limb V 1+limb W 1)
    ·have HT:=Lib.hid ht
     have htb:decide (IntKind.u64.wrap (IntKind.u64.wrap (limb V 1+limb W 1)+carN V W 1)<IntKind.u64.wrap (limb V 1+limb W 1))=true:=decide_eq_true ht
     clear ht
     go_wp2
     go_quiet (fail)
     go_wp2
     exact ⟨⟨2,_,by decide,rfl,is_u64 ((car_is HC.out.2 (car_01 V W 2)).1 (.inr HT.out)),round_world w n n V W (V+W) 1 112 _ _ (by decide) HC.out.1⟩,by simp [intOf]⟩
    ·have HT:=Lib.hid ht
     have htb:decide (IntKind.u64.wrap (IntKind.u64.wrap (limb V 1+limb W 1)+carN V W 1)<IntKind.u64.wrap (limb V 1+limb W 1))=false:=decide_eq_false ht
     clear ht
     go_wp2
     go_quiet (fail)
     go_wp2
     exact ⟨⟨2,_,by decide,rfl,is_u64 ((car_is HC.out.2 (car_01 V W 2)).2 (fun h=>h.elim (Int.not_lt.2 HS.out) (Int.not_lt.2 HT.out))),round_world w n n V W (V+W) 1 112 _ _ (by decide) HC.out.1⟩,by simp [intOf]⟩
  ·have HC:=Lib.hid (plus_way _ _ _ _ _ (limb_bd V 2).1 (limb_bd V 2).2 (limb_bd W 2).1 (limb_bd W 2).2 (car_01 V W 2) (car_01 V W 3) (limb_bd (V+W) 2).1 (limb_bd (V+W) 2).2 (car_step V W 2))
   unfold mixO wideO nilO
   simp only [mixL]
   by_cases hs:IntKind.u64.wrap (limb V 2+limb W 2)<limb V 2
   ·have HS:=Lib.hid hs
    go_wp2
    go_quiet (fail)
    go_wp2
    exact ⟨⟨3,_,by decide,rfl,is_u64 ((car_is HC.out.2 (car_01 V W 3)).1 (.inl HS.out)),round_world w n n V W (V+W) 2 112 _ _ (by decide) HC.out.1⟩,by simp [intOf]⟩
   ·have HS:=Lib.hid hs
    have hsb:decide (IntKind.u64.wrap (limb V 2+limb W 2)<limb V 2)=false:=decide_eq_false hs
    clear hs
    by_cases ht:IntKind.u64.wrap (IntKind.u64.wrap (limb V 2+limb W 2)+carN V W 2)<IntKind.u64.wrap (limb V 2+limb W 2)
    ·have HT:=Lib.hid ht
     have htb:decide (IntKind.u64.wrap (IntKind.u64.wrap (limb V 2+limb W 2)+carN V W 2)<IntKind.u64.wrap (limb V 2+limb W 2))=true:=decide_eq_true ht
     clear ht
     go_wp2
     go_quiet (fail)
     go_wp2
     exact ⟨⟨3,_,by decide,rfl,is_u64 ((car_is HC.out.2 (car_01 V W 3)).1 (.inr HT.out)),round_world w n n V W (V+W) 2 112 _ _ (by decide) HC.out.1⟩,by simp [intOf]⟩
    ·have HT:=Lib.hid ht
     have htb:decide (IntKind.u64.wrap (IntKind.u64.wrap (limb V 2+limb W 2)+carN V W 2)<IntKind.u64.wrap (limb V 2+limb W 2))=false:=decide_eq_false ht
     clear ht
     go_wp2
     go_quiet (fail)
     go_wp2
     exact ⟨⟨3,_,by decide,rfl,is_u64 ((car_is HC.out.2 (car_01 V W 3)).2 (fun h=>h.elim (Int.not_lt.2 HS.out) (Int.not_lt.2 HT.out))),round_world w n n V W (V+W) 2 112 _ _ (by decide) HC.out.1⟩,by simp [intOf]⟩
  ·have HC:=Lib.hid (plus_way _ _ _ _ _ (limb_bd V 3).1 (limb_bd V 3).2 (limb_bd W 3).1 (limb_bd W 3).2 (car_01 V W 3) (car_01 V W 4) (limb_bd (V+W) 3).1 (limb_bd (V+W) 3).2 (car_step V W 3))
   unfold mixO wideO nilO
   simp only [mixL]
   by_cases hs:IntKind.u64.wrap (limb V 3+limb W 3)<limb V 3
   ·have HS:=Lib.hid hs
    go_wp2
    go_quiet (fail)
    go_wp2
    exact ⟨⟨4,_,by decide,rfl,is_u64 ((car_is HC.out.2 (car_01 V W 4)).1 (.inl HS.out)),round_world w n n V W (V+W) 3 112 _ _ (by decide) HC.out.1⟩,by simp [intOf]⟩
   ·have HS:=Lib.hid hs
    have hsb:decide (IntKind.u64.wrap (limb V 3+limb W 3)<limb V 3)=false:=decide_eq_false hs
    clear hs
    by_cases ht:IntKind.u64.wrap (IntKind.u64.wrap (limb V 3+limb W 3)+carN V W 3)<IntKind.u64.wrap (limb V 3+limb W 3)
    ·have HT:=Lib.hid ht
     have htb:decide (IntKind.u64.wrap (IntKind.u64.wrap (limb V 3+limb W 3)+carN V W 3)<IntKind.u64.wrap (limb V 3+limb W 3))=true:=decide_eq_true ht
     clear ht
     go_wp2
     go_quiet (fail)
     go_wp2
     exact ⟨⟨4,_,by decide,rfl,is_u64 ((car_is HC.out.2 (car_01 V W 4)).1 (.inr HT.out)),round_world w n n V W (V+W) 3 112 _ _ (by decide) HC.out.1⟩,by simp [intOf]⟩
    ·have HT:=Lib.hid ht
     have htb:decide (IntKind.u64.wrap (IntKind.u64.wrap (limb V 3+limb W 3)+carN V W 3)<IntKind.u64.wrap (limb V 3+limb W 3))=false:=decide_eq_false ht
     clear ht
     go_wp2
     go_quiet (fail)
     go_wp2
     exact ⟨⟨4,_,by decide,rfl,is_u64 ((car_is HC.out.2 (car_01 V W 4)).2 (fun h=>h.elim (Int.not_lt.2 HS.out) (Int.not_lt.2 HT.out))),round_world w n n V W (V+W) 3 112 _ _ (by decide) HC.out.1⟩,by simp [intOf]⟩
  ·have HC:=Lib.hid (plus_way _ _ _ _ _ (limb_bd V 4).1 (limb_bd V 4).2 (limb_bd W 4).1 (limb_bd W 4).2 (car_01 V W 4) (car_01 V W 5) (limb_bd (V+W) 4).1 (limb_bd (V+W) 4).2 (car_step V W 4))
   unfold mixO wideO nilO
   simp only [mixL]
   by_cases hs:IntKind.u64.wrap (limb V 4+limb W 4)<limb V 4
   ·have HS:=Lib.hid hs
    go_wp2
    go_quiet (fail)
    go_wp2
    exact ⟨⟨5,_,by decide,rfl,is_u64 ((car_is HC.out.2 (car_01 V W 5)).1 (.inl HS.out)),round_world w n n V W (V+W) 4 112 _ _ (by decide) HC.out.1⟩,by simp [intOf]⟩
   ·have HS:=Lib.hid hs
    have hsb:decide (IntKind.u64.wrap (limb V 4+limb W 4)<limb V 4)=false:=decide_eq_false hs
    clear hs
    by_cases ht:IntKind.u64.wrap (IntKind.u64.wrap (limb V 4+limb W 4)+carN V W 4)<IntKind.u64.wrap (limb V 4+limb W 4)
    ·have HT:=Lib.hid ht
     have htb:decide (IntKind.u64.wrap (IntKind.u64.wrap (limb V 4+limb W 4)+carN V W 4)<IntKind.u64.wrap (limb V 4+limb W 4))=true:=decide_eq_true ht
     clear ht
     go_wp2
     go_quiet (fail)
     go_wp2
     exact ⟨⟨5,_,by decide,rfl,is_u64 ((car_is HC.out.2 (car_01 V W 5)).1 (.inr HT.out)),round_world w n n V W (V+W) 4 112 _ _ (by decide) HC.out.1⟩,by simp [intOf]⟩
    ·have HT:=Lib.hid ht
     have htb:decide (IntKind.u64.wrap (IntKind.u64.wrap (limb V 4+limb W 4)+carN V W 4)<IntKind.u64.wrap (limb V 4+limb W 4))=false:=decide_eq_false ht
     clear ht
     go_wp2
     go_quiet (fail)
     go_wp2
     exact ⟨⟨5,_,by decide,rfl,is_u64 ((car_is HC.out.2 (car_01 V W 5)).2 (fun h=>h.elim (Int.not_lt.2 HS.out) (Int.not_lt.2 HT.out))),round_world w n n V W (V+W) 4 112 _ _ (by decide) HC.out.1⟩,by simp [intOf]⟩
  ·have HC:=Lib.hid (plus_way _ _ _ _ _ (limb_bd V 5).1 (limb_bd V 5).2 (limb_bd W 5).1 (limb_bd W 5).2 (car_01 V W 5) (car_01 V W 6) (limb_bd (V+W) 5).1 (limb_bd (V+W) 5).2 (car_step V W 5))
   unfold mixO wideO nilO
   simp only [mixL]
   by_cases hs:IntKind.u64.wrap (limb V 5+limb W 5)<limb V 5
   ·have HS:=Lib.hid hs
    go_wp2
    go_quiet (fail)
    go_wp2
    exact ⟨⟨6,_,by decide,rfl,is_u64 ((car_is HC.out.2 (car_01 V W 6)).1 (.inl HS.out)),round_world w n n V W (V+W) 5 112 _ _ (by decide) HC.out.1⟩,by simp [intOf]⟩
   ·have HS:=Lib.hid hs
    have hsb:decide (IntKind.u64.wrap (limb V 5+limb W 5)<limb V 5)=false:=decide_eq_false hs
    clear hs
    by_cases ht:IntKind.u64.wrap (IntKind.u64.wrap (limb V 5+limb W 5)+carN V W 5)<IntKind.u64.wrap (limb V 5+limb W 5)
    ·have HT:=Lib.hid ht
     have htb:decide (IntKind.u64.wrap (IntKind.u64.wrap (limb V 5+limb W 5)+carN V W 5)<IntKind.u64.wrap (limb V 5+limb W 5))=true:=decide_eq_true ht
     clear ht
     go_wp2
     go_quiet (fail)
     go_wp2
     exact ⟨⟨6,_,by decide,rfl,is_u64 ((car_is HC.out.2 (car_01 V W 6)).1 (.inr HT.out)),round_world w n n V W (V+W) 5 112 _ _ (by decide) HC.out.1⟩,by simp [intOf]⟩
    ·have HT:=Lib.hid ht
     have htb:decide (IntKind.u64.wrap (IntKind.u64.wrap (limb V 5+limb W 5)+carN V W 5)<IntKind.u64.wrap (limb V 5+limb W 5))=false:=decide_eq_false ht
     clear ht
     go_wp2
     go_quiet (fail)
     go_wp2
     exact ⟨⟨6,_,by decide,rfl,is_u64 ((car_is HC.out.2 (car_01 V W 6)).2 (fun h=>h.elim (Int.not_lt.2 HS.out) (Int.not_lt.2 HT.out))),round_world w n n V W (V+W) 5 112 _ _ (by decide) HC.out.1⟩,by simp [intOf]⟩
  ·have HC:=Lib.hid (plus_way _ _ _ _ _ (limb_bd V 6).1 (limb_bd V 6).2 (limb_bd W 6).1 (limb_bd W 6).2 (car_01 V W 6) (car_01 V W 7) (limb_bd (V+W) 6).1 (limb_bd (V+W) 6).2 (car_step V W 6))
   unfold mixO wideO nilO
   simp only [mixL]
   by_cases hs:IntKind.u64.wrap (limb V 6+limb W 6)<limb V 6
   ·have HS:=Lib.hid hs
    go_wp2
    go_quiet (fail)
    go_wp2
    exact ⟨⟨7,_,by decide,rfl,is_u64 ((car_is HC.out.2 (car_01 V W 7)).1 (.inl HS.out)),round_world w n n V W (V+W) 6 112 _ _ (by decide) HC.out.1⟩,by simp [intOf]⟩
   ·have HS:=Lib.hid hs
    have hsb:decide (IntKind.u64.wrap (limb V 6+limb W 6)<limb V 6)=false:=decide_eq_false hs
    clear hs
    by_cases ht:IntKind.u64.wrap (IntKind.u64.wrap (limb V 6+limb W 6)+carN V W 6)<IntKind.u64.wrap (limb V 6+limb W 6)
    ·have HT:=Lib.hid ht
     have htb:decide (IntKind.u64.wrap (IntKind.u64.wrap (limb V 6+limb W 6)+carN V W 6)<IntKind.u64.wrap (limb V 6+limb W 6))=true:=decide_eq_true ht
     clear ht
     go_wp2
     go_quiet (fail)
     go_wp2
     exact ⟨⟨7,_,by decide,rfl,is_u64 ((car_is HC.out.2 (car_01 V W 7)).1 (.inr HT.out)),round_world w n n V W (V+W) 6 112 _ _ (by decide) HC.out.1⟩,by simp [intOf]⟩
    ·have HT:=Lib.hid ht
     have htb:decide (IntKind.u64.wrap (IntKind.u64.wrap (limb V 6+limb W 6)+carN V W 6)<IntKind.u64.wrap (limb V 6+limb W 6))=false:=decide_eq_false ht
     clear ht
     go_wp2
     go_quiet (fail)
     go_wp2
     exact ⟨⟨7,_,by decide,rfl,is_u64 ((car_is HC.out.2 (car_01 V W 7)).2 (fun h=>h.elim (Int.not_lt.2 HS.out) (Int.not_lt.2 HT.out))),round_world w n n V W (V+W) 6 112 _ _ (by decide) HC.out.1⟩,by simp [intOf]⟩
  ·have HC:=Lib.hid (plus_way _ _ _ _ _ (limb_bd V 7).1 (limb_bd V 7).2 (limb_bd W 7).1 (limb_bd W 7).2 (car_01 V W 7) (car_01 V W 8) (limb_bd (V+W) 7).1 (limb_bd (V+W) 7).2 (car_step V W 7))
   unfold mixO wideO nilO
   simp only [mixL]
   by_cases hs:IntKind.u64.wrap (limb V 7+limb W 7)<limb V 7
   ·have HS:=Lib.hid hs
    go_wp2
    go_quiet (fail)
    go_wp2
    exact ⟨⟨8,_,by decide,rfl,is_u64 ((car_is HC.out.2 (car_01 V W 8)).1 (.inl HS.out)),round_world w n n V W (V+W) 7 112 _ _ (by decide) HC.out.1⟩,by simp [intOf]⟩
   ·have HS:=Lib.hid hs
    have hsb:decide (IntKind.u64.wrap (limb V 7+limb W 7)<limb V 7)=false:=decide_eq_false hs
    clear hs
    by_cases ht:IntKind.u64.wrap (IntKind.u64.wrap (limb V 7+limb W 7)+carN V W 7)<IntKind.u64.wrap (limb V 7+limb W 7)
    ·have HT:=Lib.hid ht
     have htb:decide (IntKind.u64.wrap (IntKind.u64.wrap (limb V 7+limb W 7)+carN V W 7)<IntKind.u64.wrap (limb V 7+limb W 7))=true:=decide_eq_true ht
     clear ht
     go_wp2
     go_quiet (fail)
     go_wp2
     exact ⟨⟨8,_,by decide,rfl,is_u64 ((car_is HC.out.2 (car_01 V W 8)).1 (.inr HT.out)),round_world w n n V W (V+W) 7 112 _ _ (by decide) HC.out.1⟩,by simp [intOf]⟩
    ·have HT:=Lib.hid ht
     have htb:decide (IntKind.u64.wrap (IntKind.u64.wrap (limb V 7+limb W 7)+carN V W 7)<IntKind.u64.wrap (limb V 7+limb W 7))=false:=decide_eq_false ht
     clear ht
     go_wp2
     go_quiet (fail)
     go_wp2
     exact ⟨⟨8,_,by decide,rfl,is_u64 ((car_is HC.out.2 (car_01 V W 8)).2 (fun h=>h.elim (Int.not_lt.2 HS.out) (Int.not_lt.2 HT.out))),round_world w n n V W (V+W) 7 112 _ _ (by decide) HC.out.1⟩,by simp [intOf]⟩
  ·have HC:=Lib.hid (plus_way _ _ _ _ _ (limb_bd V 8).1 (limb_bd V 8).2 (limb_bd W 8).1 (limb_bd W 8).2 (car_01 V W 8) (car_01 V W 9) (limb_bd (V+W) 8).1 (limb_bd (V+W) 8).2 (car_step V W 8))
   unfold mixO wideO nilO
   simp only [mixL]
   by_cases hs:IntKind.u64.wrap (limb V 8+limb W 8)<limb V 8
   ·have HS:=Lib.hid hs
    go_wp2
    go_quiet (fail)
    go_wp2
    exact ⟨⟨9,_,by decide,rfl,is_u64 ((car_is HC.out.2 (car_01 V W 9)).1 (.inl HS.out)),round_world w n n V W (V+W) 8 112 _ _ (by decide) HC.out.1⟩,by simp [intOf]⟩
   ·have HS:=Lib.hid hs
    have hsb:decide (IntKind.u64.wrap (limb V 8+limb W 8)<limb V 8)=false:=decide_eq_false hs
    clear hs
    by_cases ht:IntKind.u64.wrap (IntKind.u64.wrap (limb V 8+limb W 8)+carN V W 8)<IntKind.u64.wrap (limb V 8+limb W 8)
    ·have HT:=Lib.hid ht
     have htb:decide (IntKind.u64.wrap (IntKind.u64.wrap (limb V 8+limb W 8)+carN V W 8)<IntKind.u64.wrap (limb V 8+limb W 8))=true:=decide_eq_true ht
     clear ht
     go_wp2
     go_quiet (fail)
     go_wp2
     exact ⟨⟨9,_,by decide,rfl,is_u64 ((car_is HC.out.2 (car_01 V W 9)).1 (.inr HT.out)),round_world w n n V W (V+W) 8 112 _ _ (by decide) HC.out.1⟩,by simp [intOf]⟩
    ·have HT:=Lib.hid ht
     have htb:decide (IntKind.u64.wrap (IntKind.u64.wrap (limb V 8+limb W 8)+carN V W 8)<IntKind.u64.wrap (limb V 8+limb W 8))=false:=decide_eq_false ht
     clear ht
     go_wp2
     go_quiet (fail)
     go_wp2
     exact ⟨⟨9,_,by decide,rfl,is_u64 ((car_is HC.out.2 (car_01 V W 9)).2 (fun h=>h.elim (Int.not_lt.2 HS.out) (Int.not_lt.2 HT.out))),round_world w n n V W (V+W) 8 112 _ _ (by decide) HC.out.1⟩,by simp [intOf]⟩
  ·have HC:=Lib.hid (plus_way _ _ _ _ _ (limb_bd V 9).1 (limb_bd V 9).2 (limb_bd W 9).1 (limb_bd W 9).2 (car_01 V W 9) (car_01 V W 10) (limb_bd (V+W) 9).1 (limb_bd (V+W) 9).2 (car_step V W 9))
   unfold mixO wideO nilO
   simp only [mixL]
   by_cases hs:IntKind.u64.wrap (limb V 9+limb W 9)<limb V 9
   ·have HS:=Lib.hid hs
    go_wp2
    go_quiet (fail)
    go_wp2
    exact ⟨⟨10,_,by decide,rfl,is_u64 ((car_is HC.out.2 (car_01 V W 10)).1 (.inl HS.out)),round_world w n n V W (V+W) 9 112 _ _ (by decide) HC.out.1⟩,by simp [intOf]⟩
   ·have HS:=Lib.hid hs
    have hsb:decide (IntKind.u64.wrap (limb V 9+limb W 9)<limb V 9)=false:=decide_eq_false hs
    clear hs
    by_cases ht:IntKind.u64.wrap (IntKind.u64.wrap (limb V 9+limb W 9)+carN V W 9)<IntKind.u64.wrap (limb V 9+limb W 9)
    ·have HT:=Lib.hid ht
     have htb:decide (IntKind.u64.wrap (IntKind.u64.wrap (limb V 9+limb W 9)+carN V W 9)<IntKind.u64.wrap (limb V 9+limb W 9))=true:=decide_eq_true ht
     clear ht
     go_wp2
     go_quiet (fail)
     go_wp2
     exact ⟨⟨10,_,by decide,rfl,is_u64 ((car_is HC.out.2 (car_01 V W 10)).1 (.inr HT.out)),round_world w n n V W (V+W) 9 112 _ _ (by decide) HC.out.1⟩,by simp [intOf]⟩
    ·have HT:=Lib.hid ht
     have htb:decide (IntKind.u64.wrap (IntKind.u64.wrap (limb V 9+limb W 9)+carN V W 9)<IntKind.u64.wrap (limb V 9+limb W 9))=false:=decide_eq_false ht
     clear ht
     go_wp2
     go_quiet (fail)
     go_wp2
     exact ⟨⟨10,_,by decide,rfl,is_u64 ((car_is HC.out.2 (car_01 V W 10)).2 (fun h=>h.elim (Int.not_lt.2 HS.out) (Int.not_lt.2 HT.out))),round_world w n n V W (V+W) 9 112 _ _ (by decide) HC.out.1⟩,by simp [intOf]⟩
  ·unfold mixO wideO nilO
   simp only [mixL]
   go_wp2
   (try simp only [Exit.inBlock,Exit.then])
   refine bodyPost_ret (v:=wideV n (V+W)) ?_ rfl ⟨rfl,?_⟩
   ·rw [results_one rfl]
    unfold wideV
    go_simp
   ·repeat refine Grown.setCell ?_ (by simp <;> omega) _
    exact grown_more (Grown.alloc (Grown.alloc (Grown.alloc (Grown.refl _) _ _) _ _) _ _) _

def MinusRel (n m:Bool) (V W D:Nat) (E F:Array Value) (w0:World) (c i:Value) (wr:World):Prop:=
 ∃ k d:Nat,k≤10∧i=.int .i64 k∧c=.int .u64 (carN W D k)∧wr=(((((w0.alloc (.cells (mixO n V D k) 112)).alloc (.cells (wideO m W) 112)).alloc (.cells nilO 112)).alloc (.cells E 112)).alloc (.cells F 112)).drewN d

set_option maxRecDepth 100000 in
set_option maxHeartbeats 8000000 in
theorem minus_up (n m:Bool) (V W D:Nat) (w:World) (hD:V+D=W) (hlt:V<W) (hV:V<2^(64*10)) (hW:W<2^(64*10)):
  Calls Tryz.prog 177 #[wideV n V,wideV m W] w fun e w'=>e=.returned (wideV m D)∧Grown w w':=by
 have HD:=Lib.hid hD
 have HV:=Lib.hid hV
 have HW:=Lib.hid hW
 have hsd:=set_drewN
 clear hD hV hW
 unfold wideV
 go_enter Tryz.func177,Tryz.ntmps177
 go_wp2_with (go_at_call 181;refine (below_is n m V W _ HV.out HW.out).mono ?_;rintro e w' ⟨rfl,g,rfl⟩)
 clear hsd
 go_loopw [5,6,7,8,9] (fun c i s d b wr=>MinusRel m n W V D (wideO n V) (wideO m W) w c i wr) (fun _ i _ _ _ _=>(10 - intOf i).toNat)
 case atStart=>exact ⟨0,g,by decide,rfl,by rw [car_zero],rfl⟩
 case round=>
  obtain ⟨k,d,hk,rfl,rfl,rfl⟩:=hrel
  clear hlt
  have hk':k=0∨k=1∨k=2∨k=3∨k=4∨k=5∨k=6∨k=7∨k=8∨k=9∨k=10:=by omega
  clear hk
  rcases hk' with rfl | rfl | rfl | rfl | rfl | rfl | rfl | rfl | rfl | rfl | rfl
  ·have HC:=Lib.hid (minus_way (limb W 0) (limb V 0) (carN V D 0) (limb D 0) (carN V D 1) (limb_bd W 0).1 (limb_bd W 0).2 (limb_bd V 0).1 (limb_bd V 0).2 (car_01 V D 0) (car_01 V D 1) (limb_bd D 0).1 (limb_bd D 0).2 (by have e:=car_step V D 0;rw [HD.out] at e;exact e))
   unfold mixO wideO nilO
   simp only [mixL]
   by_cases hs:limb W 0<limb V 0
   ·have HS:=Lib.hid hs
    go_wp2
    go_quiet (fail)
    go_wp2
    go_quiet (fail)
    go_wp2
    exact ⟨⟨1,_,by decide,rfl,is_u64 ((car_is HC.out.2 (car_01 V D 1)).1 (.inl HS.out)),round_world5 w m n W V D 0 (wideO n V) (wideO m W) 112 _ _ (by decide) HC.out.1⟩,by simp [intOf]⟩
   ·have HS:=Lib.hid hs
    have hsb:decide (limb W 0<limb V 0)=false:=decide_eq_false hs
    clear hs
    by_cases ht:IntKind.u64.wrap (limb W 0 - limb V 0)<carN V D 0
    ·have HT:=Lib.hid ht
     have htb:decide (IntKind.u64.wrap (limb W 0 - limb V 0)<carN V D 0)=true:=decide_eq_true ht
     clear ht
     go_wp2
     go_quiet (fail)
     go_wp2
     go_quiet (fail)
     go_wp2
     exact ⟨⟨1,_,by decide,rfl,is_u64 ((car_is HC.out.2 (car_01 V D 1)).1 (.inr HT.out)),round_world5 w m n W V D 0 (wideO n V) (wideO m W) 112 _ _ (by decide) HC.out.1⟩,by simp [intOf]⟩
    ·have HT:=Lib.hid ht
     have htb:decide (IntKind.u64.wrap (limb W 0 - limb V 0)<carN V D 0)=false:=decide_eq_false ht
     clear ht
     go_wp2
     go_quiet (fail)
     go_wp2
     go_quiet (fail)
     go_wp2
     exact ⟨⟨1,_,by decide,rfl,is_u64 ((car_is HC.out.2 (car_01 V D 1)).2 (fun h=>h.elim (Int.not_lt.2 HS.out) (Int.not_lt.2 HT.out))),round_world5 w m n W V D 0 (wideO n V) (wideO m W) 112 _ _ (by decide) HC.out.1⟩,by simp [intOf]⟩
  ·have HC:=Lib.hid (minus_way (limb W 1) (limb V 1) (carN V D 1) (limb D 1) (carN V D 2) (limb_bd W 1).1 (limb_bd W 1).2 (limb_bd V 1).1 (limb_bd V 1).2 (car_01 V D 1) (car_01 V D 2) (limb_bd D 1).1 (limb_bd D 1).2 (by have e:=car_step V D 1;rw [HD.out] at e;exact e))
   unfold mixO wideO nilO
   simp only [mixL]
   by_cases hs:limb W 1<limb V 1
   ·have HS:=Lib.hid hs
    go_wp2
    go_quiet (fail)
    go_wp2
    go_quiet (fail)
    go_wp2
    exact ⟨⟨2,_,by decide,rfl,is_u64 ((car_is HC.out.2 (car_01 V D 2)).1 (.inl HS.out)),round_world5 w m n W V D 1 (wideO n V) (wideO m W) 112 _ _ (by decide) HC.out.1⟩,by simp [intOf]⟩
   ·have HS:=Lib.hid hs
    have hsb:decide (limb W 1<limb V 1)=false:=decide_eq_false hs
    clear hs
    by_cases ht:IntKind.u64.wrap (limb W 1 - limb V 1)<carN V D 1
    ·have HT:=Lib.hid ht
     have htb:decide (IntKind.u64.wrap (limb W 1 - limb V 1)<carN V D 1)=true:=decide_eq_true ht
     clear ht
     go_wp2
     go_quiet (fail)
     go_wp2
     go_quiet (fail)
     go_wp2
     exact ⟨⟨2,_,by decide,rfl,is_u64 ((car_is HC.out.2 (car_01 V D 2)).1 (.inr HT.out)),round_world5 w m n W V D 1 (wideO n V) (wideO m W) 112 _ _ (by decide) HC.out.1⟩,by simp [intOf]⟩
    ·have HT:=Lib.hid ht
     have htb:decide (IntKind.u64.wrap (limb W 1 - limb V 1)<carN V D 1)=false:=decide_eq_false ht
     clear ht
     go_wp2
     go_quiet (fail)
     go_wp2
     go_quiet (fail)
     go_wp2
     exact ⟨⟨2,_,by decide,rfl,is_u64 ((car_is HC.out.2 (car_01 V D 2)).2 (fun h=>h.elim (Int.not_lt.2 HS.out) (Int.not_lt.2 HT.out))),round_world5 w m n W V D 1 (wideO n V) (wideO m W) 112 _ _ (by decide) HC.out.1⟩,by simp [intOf]⟩
  ·have HC:=Lib.hid (minus_way (limb W 2) (limb V 2) (carN V D 2) (limb D 2) (carN V D 3) (limb_bd W 2).1 (limb_bd W 2).2 (limb_bd V 2).1 (limb_bd V 2).2 (car_01 V D 2) (car_01 V D 3) (limb_bd D 2).1 (limb_bd D 2).2 (by have e:=car_step V D 2;rw [HD.out] at e;exact e))
   unfold mixO wideO nilO
   simp only [mixL]
   by_cases hs:limb W 2<limb V 2
   ·have HS:=Lib.hid hs
    go_wp2
    go_quiet (fail)
    go_wp2
    go_quiet (fail)
    go_wp2
    exact ⟨⟨3,_,by decide,rfl,is_u64 ((car_is HC.out.2 (car_01 V D 3)).1 (.inl HS.out)),round_world5 w m n W V D 2 (wideO n V) (wideO m W) 112 _ _ (by decide) HC.out.1⟩,by simp [intOf]⟩
   ·have HS:=Lib.hid hs
    have hsb:decide (limb W 2<limb V 2)=false:=decide_eq_false hs
    clear hs
    by_cases ht:IntKind.u64.wrap (limb W 2 - limb V 2)<carN V D 2
    ·have HT:=Lib.hid ht
     have htb:decide (IntKind.u64.wrap (limb W 2 - limb V 2)<carN V D 2)=true:=decide_eq_true ht
     clear ht
     go_wp2
     go_quiet (fail)
     go_wp2
     go_quiet (fail)
     go_wp2
     exact ⟨⟨3,_,by decide,rfl,is_u64 ((car_is HC.out.2 (car_01 V D 3)).1 (.inr HT.out)),round_world5 w m n W V D 2 (wideO n V) (wideO m W) 112 _ _ (by decide) HC.out.1⟩,by simp [intOf]⟩
    ·have HT:=Lib.hid ht
     have htb:decide (IntKind.u64.wrap (limb W 2 - limb V 2)<carN V D 2)=false:=decide_eq_false ht
     clear ht
     go_wp2
     go_quiet (fail)
     go_wp2
     go_quiet (fail)
     go_wp2
     exact ⟨⟨3,_,by decide,rfl,is_u64 ((car_is HC.out.2 (car_01 V D 3)).2 (fun h=>h.elim (Int.not_lt.2 HS.out) (Int.not_lt.2 HT.out))),round_world5 w m n W V D 2 (wideO n V) (wideO m W) 112 _ _ (by decide) HC.out.1⟩,by simp [intOf]⟩
  ·have HC:=Lib.hid (minus_way (limb W 3) (limb V 3) (carN V D 3) (limb D 3) (carN V D 4) (limb_bd W 3).1 (limb_bd W 3).2 (limb_bd V 3).1 (limb_bd V 3).2 (car_01 V D 3) (car_01 V D 4) (limb_bd D 3).1 (limb_bd D 3).2 (by have e:=car_step V D 3;rw [HD.out] at e;exact e))
   unfold mixO wideO nilO
   simp only [mixL]
   by_cases hs:limb W 3<limb V 3
   ·have HS:=Lib.hid hs
    go_wp2
    go_quiet (fail)
    go_wp2
    go_quiet (fail)
    go_wp2
    exact ⟨⟨4,_,by decide,rfl,is_u64 ((car_is HC.out.2 (car_01 V D 4)).1 (.inl HS.out)),round_world5 w m n W V D 3 (wideO n V) (wideO m W) 112 _ _ (by decide) HC.out.1⟩,by simp [intOf]⟩
   ·have HS:=Lib.hid hs
    have hsb:decide (limb W 3<limb V 3)=false:=decide_eq_false hs
    clear hs
    by_cases ht:IntKind.u64.wrap (limb W 3 - limb V 3)<carN V D 3
    ·have HT:=Lib.hid ht
     have htb:decide (IntKind.u64.wrap (limb W 3 - limb V 3)<carN V D 3)=true:=decide_eq_true ht
     clear ht
     go_wp2
     go_quiet (fail)
     go_wp2
     go_quiet (fail)
     go_wp2
     exact ⟨⟨4,_,by decide,rfl,is_u64 ((car_is HC.out.2 (car_01 V D 4)).1 (.inr HT.out)),round_world5 w m n W V D 3 (wideO n V) (wideO m W) 112 _ _ (by decide) HC.out.1⟩,by simp [intOf]⟩
    ·have HT:=Lib.hid ht
     have htb:decide (IntKind.u64.wrap (limb W 3 - limb V 3)<carN V D 3)=false:=decide_eq_false ht
     clear ht
     go_wp2
     go_quiet (fail)
     go_wp2
     go_quiet (fail)
     go_wp2
     exact ⟨⟨4,_,by decide,rfl,is_u64 ((car_is HC.out.2 (car_01 V D 4)).2 (fun h=>h.elim (Int.not_lt.2 HS.out) (Int.not_lt.2 HT.out))),round_world5 w m n W V D 3 (wideO n V) (wideO m W) 112 _ _ (by decide) HC.out.1⟩,by simp [intOf]⟩
  ·have HC:=Lib.hid (minus_way (limb W 4) (limb V 4) (carN V D 4) (limb D 4) (carN V D 5) (limb_bd W 4).1 (limb_bd W 4).2 (limb_bd V 4).1 (limb_bd V 4).2 (car_01 V D 4) (car_01 V D 5) (limb_bd D 4).1 (limb_bd D 4).2 (by have e:=car_step V D 4;rw [HD.out] at e;exact e))
   unfold mixO wideO nilO
   simp only [mixL]
   by_cases hs:limb W 4<limb V 4
   ·have HS:=Lib.hid hs
    go_wp2
    go_quiet (fail)
    go_wp2
    go_quiet (fail)
    go_wp2
    exact ⟨⟨5,_,by decide,rfl,is_u64 ((car_is HC.out.2 (car_01 V D 5)).1 (.inl HS.out)),round_world5 w m n W V D 4 (wideO n V) (wideO m W) 112 _ _ (by decide) HC.out.1⟩,by simp [intOf]⟩
   ·have HS:=Lib.hid hs
    have hsb:decide (limb W 4<limb V 4)=false:=decide_eq_false hs
    clear hs
    by_cases ht:IntKind.u64.wrap (limb W 4 - limb V 4)<carN V D 4
    ·have HT:=Lib.hid ht
     have htb:decide (IntKind.u64.wrap (limb W 4 - limb V 4)<carN V D 4)=true:=decide_eq_true ht
     clear ht
     go_wp2
     go_quiet (fail)
     go_wp2
     go_quiet (fail)
     go_wp2
     exact ⟨⟨5,_,by decide,rfl,is_u64 ((car_is HC.out.2 (car_01 V D 5)).1 (.inr HT.out)),round_world5 w m n W V D 4 (wideO n V) (wideO m W) 112 _ _ (by decide) HC.out.1⟩,by simp [intOf]⟩
    ·have HT:=Lib.hid ht
     have htb:decide (IntKind.u64.wrap (limb W 4 - limb V 4)<carN V D 4)=false:=decide_eq_false ht
     clear ht
     go_wp2
     go_quiet (fail)
     go_wp2
     go_quiet (fail)
     go_wp2
     exact ⟨⟨5,_,by decide,rfl,is_u64 ((car_is HC.out.2 (car_01 V D 5)).2 (fun h=>h.elim (Int.not_lt.2 HS.out) (Int.not_lt.2 HT.out))),round_world5 w m n W V D 4 (wideO n V) (wideO m W) 112 _ _ (by decide) HC.out.1⟩,by simp [intOf]⟩
  ·have HC:=Lib.hid (minus_way (limb W 5) (limb V 5) (carN V D 5) (limb D 5) (carN V D 6) (limb_bd W 5).1 (limb_bd W 5).2 (limb_bd V 5).1 (limb_bd V 5).2 (car_01 V D 5) (car_01 V D 6) (limb_bd D 5).1 (limb_bd D 5).2 (by have e:=car_step V D 5;rw [HD.out] at e;exact e))
   unfold mixO wideO nilO
   simp only [mixL]
   by_cases hs:limb W 5<limb V 5
   ·have HS:=Lib.hid hs
    go_wp2
    go_quiet (fail)
    go_wp2
    go_quiet (fail)
    go_wp2
    exact ⟨⟨6,_,by decide,rfl,is_u64 ((car_is HC.out.2 (car_01 V D 6)).1 (.inl HS.out)),round_world5 w m n W V D 5 (wideO n V) (wideO m W) 112 _ _ (by decide) HC.out.1⟩,by simp [intOf]⟩
   ·have HS:=Lib.hid hs
    have hsb:decide (limb W 5<limb V 5)=false:=decide_eq_false hs
    clear hs
    by_cases ht:IntKind.u64.wrap (limb W 5 - limb V 5)<carN V D 5
    ·have HT:=Lib.hid ht
     have htb:decide (IntKind.u64.wrap (limb W 5 - limb V 5)<carN V D 5)=true:=decide_eq_true ht
     clear ht
     go_wp2
     go_quiet (fail)
     go_wp2
     go_quiet (fail)
     go_wp2
     exact ⟨⟨6,_,by decide,rfl,is_u64 ((car_is HC.out.2 (car_01 V D 6)).1 (.inr HT.out)),round_world5 w m n W V D 5 (wideO n V) (wideO m W) 112 _ _ (by decide) HC.out.1⟩,by simp [intOf]⟩
    ·have HT:=Lib.hid ht
     have htb:decide (IntKind.u64.wrap (limb W 5 - limb V 5)<carN V D 5)=false:=decide_eq_false ht
     clear ht
     go_wp2
     go_quiet (fail)
     go_wp2
     go_quiet (fail)
     go_wp2
     exact ⟨⟨6,_,by decide,rfl,is_u64 ((car_is HC.out.2 (car_01 V D 6)).2 (fun h=>h.elim (Int.not_lt.2 HS.out) (Int.not_lt.2 HT.out))),round_world5 w m n W V D 5 (wideO n V) (wideO m W) 112 _ _ (by decide) HC.out.1⟩,by simp [intOf]⟩
  ·have HC:=Lib.hid (minus_way (limb W 6) (limb V 6) (carN V D 6) (limb D 6) (carN V D 7) (limb_bd W 6).1 (limb_bd W 6).2 (limb_bd V 6).1 (limb_bd V 6).2 (car_01 V D 6) (car_01 V D 7) (limb_bd D 6).1 (limb_bd D 6).2 (by have e:=car_step V D 6;rw [HD.out] at e;exact e))
   unfold mixO wideO nilO
   simp only [mixL]
   by_cases hs:limb W 6<limb V 6
   ·have HS:=Lib.hid hs
    go_wp2
    go_quiet (fail)
    go_wp2
    go_quiet (fail)
    go_wp2
    exact ⟨⟨7,_,by decide,rfl,is_u64 ((car_is HC.out.2 (car_01 V D 7)).1 (.inl HS.out)),round_world5 w m n W V D 6 (wideO n V) (wideO m W) 112 _ _ (by decide) HC.out.1⟩,by simp [intOf]⟩
   ·have HS:=Lib.hid hs
    have hsb:decide (limb W 6<limb V 6)=false:=decide_eq_false hs
    clear hs
    by_cases ht:IntKind.u64.wrap (limb W 6 - limb V 6)<carN V D 6
    ·have HT:=Lib.hid ht
     have htb:decide (IntKind.u64.wrap (limb W 6 - limb V 6)<carN V D 6)=true:=decide_eq_true ht
     clear ht
     go_wp2
     go_quiet (fail)
     go_wp2
     go_quiet (fail)
     go_wp2
     exact ⟨⟨7,_,by decide,rfl,is_u64 ((car_is HC.out.2 (car_01 V D 7)).1 (.inr HT.out)),round_world5 w m n W V D 6 (wideO n V) (wideO m W) 112 _ _ (by decide) HC.out.1⟩,by simp [intOf]⟩
    ·have HT:=Lib.hid ht
     have htb:decide (IntKind.u64.wrap (limb W 6 - limb V 6)<carN V D 6)=false:=decide_eq_false ht
     clear ht
     go_wp2
     go_quiet (fail)
     go_wp2
     go_quiet (fail)
     go_wp2
     exact ⟨⟨7,_,by decide,rfl,is_u64 ((car_is HC.out.2 (car_01 V D 7)).2 (fun h=>h.elim (Int.not_lt.2 HS.out) (Int.not_lt.2 HT.out))),round_world5 w m n W V D 6 (wideO n V) (wideO m W) 112 _ _ (by decide) HC.out.1⟩,by simp [intOf]⟩
  ·have HC:=Lib.hid (minus_way (limb W 7) (limb V 7) (carN V D 7) (limb D 7) (carN V D 8) (limb_bd W 7).1 (limb_bd W 7).2 (limb_bd V 7).1 (limb_bd V 7).2 (car_01 V D 7) (car_01 V D 8) (limb_bd D 7).1 (limb_bd D 7).2 (by have e:=car_step V D 7;rw [HD.out] at e;exact e))
   unfold mixO wideO nilO
   simp only [mixL]
   by_cases hs:limb W 7<limb V 7
   ·have HS:=Lib.hid hs
    go_wp2
    go_quiet (fail)
    go_wp2
    go_quiet (fail)
    go_wp2
    exact ⟨⟨8,_,by decide,rfl,is_u64 ((car_is HC.out.2 (car_01 V D 8)).1 (.inl HS.out)),round_world5 w m n W V D 7 (wideO n V) (wideO m W) 112 _ _ (by decide) HC.out.1⟩,by simp [intOf]⟩
   ·have HS:=Lib.hid hs
    have hsb:decide (limb W 7<limb V 7)=false:=decide_eq_false hs
    clear hs
    by_cases ht:IntKind.u64.wrap (limb W 7 - limb V 7)<carN V D 7
    ·have HT:=Lib.hid ht
     have htb:decide (IntKind.u64.wrap (limb W 7 - limb V 7)<carN V D 7)=true:=decide_eq_true ht
     clear ht
     go_wp2
     go_quiet (fail)
     go_wp2
     go_quiet (fail)
     go_wp2
     exact ⟨⟨8,_,by decide,rfl,is_u64 ((car_is HC.out.2 (car_01 V D 8)).1 (.inr HT.out)),round_world5 w m n W V D 7 (wideO n V) (wideO m W) 112 _ _ (by decide) HC.out.1⟩,by simp [intOf]⟩
    ·have HT:=Lib.hid ht
     have htb:decide (IntKind.u64.wrap (limb W 7 - limb V 7)<carN V D 7)=false:=decide_eq_false ht
     clear ht
     go_wp2
     go_quiet (fail)
     go_wp2
     go_quiet (fail)
     go_wp2
     exact ⟨⟨8,_,by decide,rfl,is_u64 ((car_is HC.out.2 (car_01 V D 8)).2 (fun h=>h.elim (Int.not_lt.2 HS.out) (Int.not_lt.2 HT.out))),round_world5 w m n W V D 7 (wideO n V) (wideO m W) 112 _ _ (by decide) HC.out.1⟩,by simp [intOf]⟩
  ·have HC:=Lib.hid (minus_way (limb W 8) (limb V 8) (carN V D 8) (limb D 8) (carN V D 9) (limb_bd W 8).1 (limb_bd W 8).2 (limb_bd V 8).1 (limb_bd V 8).2 (car_01 V D 8) (car_01 V D 9) (limb_bd D 8).1 (limb_bd D 8).2 (by have e:=car_step V D 8;rw [HD.out] at e;exact e))
   unfold mixO wideO nilO
   simp only [mixL]
   by_cases hs:limb W 8<limb V 8
   ·have HS:=Lib.hid hs
    go_wp2
    go_quiet (fail)
    go_wp2
    go_quiet (fail)
    go_wp2
    exact ⟨⟨9,_,by decide,rfl,is_u64 ((car_is HC.out.2 (car_01 V D 9)).1 (.inl HS.out)),round_world5 w m n W V D 8 (wideO n V) (wideO m W) 112 _ _ (by decide) HC.out.1⟩,by simp [intOf]⟩
   ·have HS:=Lib.hid hs
    have hsb:decide (limb W 8<limb V 8)=false:=decide_eq_false hs
    clear hs
    by_cases ht:IntKind.u64.wrap (limb W 8 - limb V 8)<carN V D 8
    ·have HT:=Lib.hid ht
     have htb:decide (IntKind.u64.wrap (limb W 8 - limb V 8)<carN V D 8)=true:=decide_eq_true ht
     clear ht
     go_wp2
     go_quiet (fail)
     go_wp2
     go_quiet (fail)
     go_wp2
     exact ⟨⟨9,_,by decide,rfl,is_u64 ((car_is HC.out.2 (car_01 V D 9)).1 (.inr HT.out)),round_world5 w m n W V D 8 (wideO n V) (wideO m W) 112 _ _ (by decide) HC.out.1⟩,by simp [intOf]⟩
    ·have HT:=Lib.hid ht
     have htb:decide (IntKind.u64.wrap (limb W 8 - limb V 8)<carN V D 8)=false:=decide_eq_false ht
     clear ht
     go_wp2
     go_quiet (fail)
     go_wp2
     go_quiet (fail)
     go_wp2
     exact ⟨⟨9,_,by decide,rfl,is_u64 ((car_is HC.out.2 (car_01 V D 9)).2 (fun h=>h.elim (Int.not_lt.2 HS.out) (Int.not_lt.2 HT.out))),round_world5 w m n W V D 8 (wideO n V) (wideO m W) 112 _ _ (by decide) HC.out.1⟩,by simp [intOf]⟩
  ·have HC:=Lib.hid (minus_way (limb W 9) (limb V 9) (carN V D 9) (limb D 9) (carN V D 10) (limb_bd W 9).1 (limb_bd W 9).2 (limb_bd V 9).1 (limb_bd V 9).2 (car_01 V D 9) (car_01 V D 10) (limb_bd D 9).1 (limb_bd D 9).2 (by have e:=car_step V D 9;rw [HD.out] at e;exact e))
   unfold mixO wideO nilO
   simp only [mixL]
   by_cases hs:limb W 9<limb V 9
   ·have HS:=Lib.hid hs
    go_wp2
    go_quiet (fail)
    go_wp2
    go_quiet (fail)
    go_wp2
    exact ⟨⟨10,_,by decide,rfl,is_u64 ((car_is HC.out.2 (car_01 V D 10)).1 (.inl HS.out)),round_world5 w m n W V D 9 (wideO n V) (wideO m W) 112 _ _ (by decide) HC.out.1⟩,by simp [intOf]⟩
   ·have HS:=Lib.hid hs
    have hsb:decide (limb W 9<limb V 9)=false:=decide_eq_false hs
    clear hs
    by_cases ht:IntKind.u64.wrap (limb W 9 - limb V 9)<carN V D 9
    ·have HT:=Lib.hid ht
     have htb:decide (IntKind.u64.wrap (limb W 9 - limb V 9)<carN V D 9)=true:=decide_eq_true ht
     clear ht
     go_wp2
     go_quiet (fail)
     go_wp2
     go_quiet (fail)
     go_wp2
     exact ⟨⟨10,_,by decide,rfl,is_u64 ((car_is HC.out.2 (car_01 V D 10)).1 (.inr HT.out)),round_world5 w m n W V D 9 (wideO n V) (wideO m W) 112 _ _ (by decide) HC.out.1⟩,by simp [intOf]⟩
    ·have HT:=Lib.hid ht
     have htb:decide (IntKind.u64.wrap (limb W 9 - limb V 9)<carN V D 9)=false:=decide_eq_false ht
     clear ht
     go_wp2
     go_quiet (fail)
     go_wp2
     go_quiet (fail)
     go_wp2
     exact ⟨⟨10,_,by decide,rfl,is_u64 ((car_is HC.out.2 (car_01 V D 10)).2 (fun h=>h.elim (Int.not_lt.2 HS.out) (Int.not_lt.2 HT.out))),round_world5 w m n W V D 9 (wideO n V) (wideO m W) 112 _ _ (by decide) HC.out.1⟩,by simp [intOf]⟩
  ·unfold mixO wideO nilO
   simp only [mixL]
   go_wp2
   (try simp only [Exit.inBlock,Exit.then])
   refine bodyPost_ret (v:=wideV m D) ?_ rfl ⟨rfl,?_⟩
   ·rw [results_one rfl]
    unfold wideV
    go_simp
   ·repeat refine Grown.setCell ?_ (by simp <;> omega) _
    exact grown_more (Grown.alloc (Grown.alloc (Grown.alloc (Grown.alloc (Grown.alloc (Grown.refl _) _ _) _ _) _ _) _ _) _ _) _

set_option maxRecDepth 100000 in
set_option maxHeartbeats 8000000 in
theorem minus_down (n m:Bool) (V W D:Nat) (w:World) (hD:W+D=V) (hlt:¬V<W) (hV:V<2^(64*10)) (hW:W<2^(64*10)):
  Calls Tryz.prog 177 #[wideV n V,wideV m W] w fun e w'=>e=.returned (wideV n D)∧Grown w w':=by
 have HD:=Lib.hid hD
 have HV:=Lib.hid hV
 have HW:=Lib.hid hW
 have hsd:=set_drewN
 clear hD hV hW
 unfold wideV
 go_enter Tryz.func177,Tryz.ntmps177
 go_wp2_with (go_at_call 181;refine (below_is n m V W _ HV.out HW.out).mono ?_;rintro e w' ⟨rfl,g,rfl⟩)
 clear hsd
 go_loopw [5,6,7,8,9] (fun c i s d b wr=>MinusRel n m V W D (wideO n V) (wideO m W) w c i wr) (fun _ i _ _ _ _=>(10 - intOf i).toNat)
 case atStart=>exact ⟨0,g,by decide,rfl,by rw [car_zero],rfl⟩
 case round=>
  obtain ⟨k,d,hk,rfl,rfl,rfl⟩:=hrel
  clear hlt
  have hk':k=0∨k=1∨k=2∨k=3∨k=4∨k=5∨k=6∨k=7∨k=8∨k=9∨k=10:=by omega
  clear hk
  rcases hk' with rfl | rfl | rfl | rfl | rfl | rfl | rfl | rfl | rfl | rfl | rfl
  ·have HC:=Lib.hid (minus_way (limb V 0) (limb W 0) (carN W D 0) (limb D 0) (carN W D 1) (limb_bd V 0).1 (limb_bd V 0).2 (limb_bd W 0).1 (limb_bd W 0).2 (car_01 W D 0) (car_01 W D 1) (limb_bd D 0).1 (limb_bd D 0).2 (by have e:=car_step W D 0;rw [HD.out] at e;exact e))
   unfold mixO wideO nilO
   simp only [mixL]
   by_cases hs:limb V 0<limb W 0
   ·have HS:=Lib.hid hs
    go_wp2
    go_quiet (fail)
    go_wp2
    go_quiet (fail)
    go_wp2
    exact ⟨⟨1,_,by decide,rfl,is_u64 ((car_is HC.out.2 (car_01 W D 1)).1 (.inl HS.out)),round_world5 w n m V W D 0 (wideO n V) (wideO m W) 112 _ _ (by decide) HC.out.1⟩,by simp [intOf]⟩
   ·have HS:=Lib.hid hs
    have hsb:decide (limb V 0<limb W 0)=false:=decide_eq_false hs
    clear hs
    by_cases ht:IntKind.u64.wrap (limb V 0 - limb W 0)<carN W D 0
    ·have HT:=Lib.hid ht
     have htb:decide (IntKind.u64.wrap (limb V 0 - limb W 0)<carN W D 0)=true:=decide_eq_true ht
     clear ht
     go_wp2
     go_quiet (fail)
     go_wp2
     go_quiet (fail)
     go_wp2
     exact ⟨⟨1,_,by decide,rfl,is_u64 ((car_is HC.out.2 (car_01 W D 1)).1 (.inr HT.out)),round_world5 w n m V W D 0 (wideO n V) (wideO m W) 112 _ _ (by decide) HC.out.1⟩,by simp [intOf]⟩
    ·have HT:=Lib.hid ht
     have htb:decide (IntKind.u64.wrap (limb V 0 - limb W 0)<carN W D 0)=false:=decide_eq_false ht
     clear ht
     go_wp2
     go_quiet (fail)
     go_wp2
     go_quiet (fail)
     go_wp2
     exact ⟨⟨1,_,by decide,rfl,is_u64 ((car_is HC.out.2 (car_01 W D 1)).2 (fun h=>h.elim (Int.not_lt.2 HS.out) (Int.not_lt.2 HT.out))),round_world5 w n m V W D 0 (wideO n V) (wideO m W) 112 _ _ (by decide) HC.out.1⟩,by simp [intOf]⟩
  ·have HC:=Lib.hid (minus_way (limb V 1) (limb W 1) (carN W D 1) (limb D 1) (carN W D 2) (limb_bd V 1).1 (limb_bd V 1).2 (limb_bd W 1).1 (limb_bd W 1).2 (car_01 W D 1) (car_01 W D 2) (limb_bd D 1).1 (limb_bd D 1).2 (by have e:=car_step W D 1;rw [HD.out] at e;exact e))
   unfold mixO wideO nilO
   simp only [mixL]
   by_cases hs:limb V 1<limb W 1
   ·have HS:=Lib.hid hs
    go_wp2
    go_quiet (fail)
    go_wp2
    go_quiet (fail)
    go_wp2
    exact ⟨⟨2,_,by decide,rfl,is_u64 ((car_is HC.out.2 (car_01 W D 2)).1 (.inl HS.out)),round_world5 w n m V W D 1 (wideO n V) (wideO m W) 112 _ _ (by decide) HC.out.1⟩,by simp [intOf]⟩
   ·have HS:=Lib.hid hs
    have hsb:decide (limb V 1<limb W 1)=false:=decide_eq_false hs
    clear hs
    by_cases ht:IntKind.u64.wrap (limb V 1 - limb W 1)<carN W D 1
    ·have HT:=Lib.hid ht
     have htb:decide (IntKind.u64.wrap (limb V 1 - limb W 1)<carN W D 1)=true:=decide_eq_true ht
     clear ht
     go_wp2
     go_quiet (fail)
     go_wp2
     go_quiet (fail)
     go_wp2
     exact ⟨⟨2,_,by decide,rfl,is_u64 ((car_is HC.out.2 (car_01 W D 2)).1 (.inr HT.out)),round_world5 w n m V W D 1 (wideO n V) (wideO m W) 112 _ _ (by decide) HC.out.1⟩,by simp [intOf]⟩
    ·have HT:=Lib.hid ht
     have htb:decide (IntKind.u64.wrap (limb V 1 - limb W 1)<carN W D 1)=false:=decide_eq_false ht
     clear ht
     go_wp2
     go_quiet (fail)
     go_wp2
     go_quiet (fail)
     go_wp2
     exact ⟨⟨2,_,by decide,rfl,is_u64 ((car_is HC.out.2 (car_01 W D 2)).2 (fun h=>h.elim (Int.not_lt.2 HS.out) (Int.not_lt.2 HT.out))),round_world5 w n m V W D 1 (wideO n V) (wideO m W) 112 _ _ (by decide) HC.out.1⟩,by simp [intOf]⟩
  ·have HC:=Lib.hid (minus_way (limb V 2) (limb W 2) (carN W D 2) (limb D 2) (carN W D 3) (limb_bd V 2).1 (limb_bd V 2).2 (limb_bd W 2).1 (limb_bd W 2).2 (car_01 W D 2) (car_01 W D 3) (limb_bd D 2).1 (limb_bd D 2).2 (by have e:=car_step W D 2;rw [HD.out] at e;exact e))
   unfold mixO wideO nilO
   simp only [mixL]
   by_cases hs:limb V 2<limb W 2
   ·have HS:=Lib.hid hs
    go_wp2
    go_quiet (fail)
    go_wp2
    go_quiet (fail)
    go_wp2
    exact ⟨⟨3,_,by decide,rfl,is_u64 ((car_is HC.out.2 (car_01 W D 3)).1 (.inl HS.out)),round_world5 w n m V W D 2 (wideO n V) (wideO m W) 112 _ _ (by decide) HC.out.1⟩,by simp [intOf]⟩
   ·have HS:=Lib.hid hs
    have hsb:decide (limb V 2<limb W 2)=false:=decide_eq_false hs
    clear hs
    by_cases ht:IntKind.u64.wrap (limb V 2 - limb W 2)<carN W D 2
    ·have HT:=Lib.hid ht
     have htb:decide (IntKind.u64.wrap (limb V 2 - limb W 2)<carN W D 2)=true:=decide_eq_true ht
     clear ht
     go_wp2
     go_quiet (fail)
     go_wp2
     go_quiet (fail)
     go_wp2
     exact ⟨⟨3,_,by decide,rfl,is_u64 ((car_is HC.out.2 (car_01 W D 3)).1 (.inr HT.out)),round_world5 w n m V W D 2 (wideO n V) (wideO m W) 112 _ _ (by decide) HC.out.1⟩,by simp [intOf]⟩
    ·have HT:=Lib.hid ht
     have htb:decide (IntKind.u64.wrap (limb V 2 - limb W 2)<carN W D 2)=false:=decide_eq_false ht
     clear ht
     go_wp2
     go_quiet (fail)
     go_wp2
     go_quiet (fail)
     go_wp2
     exact ⟨⟨3,_,by decide,rfl,is_u64 ((car_is HC.out.2 (car_01 W D 3)).2 (fun h=>h.elim (Int.not_lt.2 HS.out) (Int.not_lt.2 HT.out))),round_world5 w n m V W D 2 (wideO n V) (wideO m W) 112 _ _ (by decide) HC.out.1⟩,by simp [intOf]⟩
  ·have HC:=Lib.hid (minus_way (limb V 3) (limb W 3) (carN W D 3) (limb D 3) (carN W D 4) (limb_bd V 3).1 (limb_bd V 3).2 (limb_bd W 3).1 (limb_bd W 3).2 (car_01 W D 3) (car_01 W D 4) (limb_bd D 3).1 (limb_bd D 3).2 (by have e:=car_step W D 3;rw [HD.out] at e;exact e))
   unfold mixO wideO nilO
   simp only [mixL]
   by_cases hs:limb V 3<limb W 3
   ·have HS:=Lib.hid hs
    go_wp2
    go_quiet (fail)
    go_wp2
    go_quiet (fail)
    go_wp2
    exact ⟨⟨4,_,by decide,rfl,is_u64 ((car_is HC.out.2 (car_01 W D 4)).1 (.inl HS.out)),round_world5 w n m V W D 3 (wideO n V) (wideO m W) 112 _ _ (by decide) HC.out.1⟩,by simp [intOf]⟩
   ·have HS:=Lib.hid hs
    have hsb:decide (limb V 3<limb W 3)=false:=decide_eq_false hs
    clear hs
    by_cases ht:IntKind.u64.wrap (limb V 3 - limb W 3)<carN W D 3
    ·have HT:=Lib.hid ht
     have htb:decide (IntKind.u64.wrap (limb V 3 - limb W 3)<carN W D 3)=true:=decide_eq_true ht
     clear ht
     go_wp2
     go_quiet (fail)
     go_wp2
     go_quiet (fail)
     go_wp2
     exact ⟨⟨4,_,by decide,rfl,is_u64 ((car_is HC.out.2 (car_01 W D 4)).1 (.inr HT.out)),round_world5 w n m V W D 3 (wideO n V) (wideO m W) 112 _ _ (by decide) HC.out.1⟩,by simp [intOf]⟩
    ·have HT:=Lib.hid ht
     have htb:decide (IntKind.u64.wrap (limb V 3 - limb W 3)<carN W D 3)=false:=decide_eq_false ht
     clear ht
     go_wp2
     go_quiet (fail)
     go_wp2
     go_quiet (fail)
     go_wp2
     exact ⟨⟨4,_,by decide,rfl,is_u64 ((car_is HC.out.2 (car_01 W D 4)).2 (fun h=>h.elim (Int.not_lt.2 HS.out) (Int.not_lt.2 HT.out))),round_world5 w n m V W D 3 (wideO n V) (wideO m W) 112 _ _ (by decide) HC.out.1⟩,by simp [intOf]⟩
  ·have HC:=Lib.hid (minus_way (limb V 4) (limb W 4) (carN W D 4) (limb D 4) (carN W D 5) (limb_bd V 4).1 (limb_bd V 4).2 (limb_bd W 4).1 (limb_bd W 4).2 (car_01 W D 4) (car_01 W D 5) (limb_bd D 4).1 (limb_bd D 4).2 (by have e:=car_step W D 4;rw [HD.out] at e;exact e))
   unfold mixO wideO nilO
   simp only [mixL]
   by_cases hs:limb V 4<limb W 4
   ·have HS:=Lib.hid hs
    go_wp2
    go_quiet (fail)
    go_wp2
    go_quiet (fail)
    go_wp2
    exact ⟨⟨5,_,by decide,rfl,is_u64 ((car_is HC.out.2 (car_01 W D 5)).1 (.inl HS.out)),round_world5 w n m V W D 4 (wideO n V) (wideO m W) 112 _ _ (by decide) HC.out.1⟩,by simp [intOf]⟩
   ·have HS:=Lib.hid hs
    have hsb:decide (limb V 4<limb W 4)=false:=decide_eq_false hs
    clear hs
    by_cases ht:IntKind.u64.wrap (limb V 4 - limb W 4)<carN W D 4
    ·have HT:=Lib.hid ht
     have htb:decide (IntKind.u64.wrap (limb V 4 - limb W 4)<carN W D 4)=true:=decide_eq_true ht
     clear ht
     go_wp2
     go_quiet (fail)
     go_wp2
     go_quiet (fail)
     go_wp2
     exact ⟨⟨5,_,by decide,rfl,is_u64 ((car_is HC.out.2 (car_01 W D 5)).1 (.inr HT.out)),round_world5 w n m V W D 4 (wideO n V) (wideO m W) 112 _ _ (by decide) HC.out.1⟩,by simp [intOf]⟩
    ·have HT:=Lib.hid ht
     have htb:decide (IntKind.u64.wrap (limb V 4 - limb W 4)<carN W D 4)=false:=decide_eq_false ht
     clear ht
     go_wp2
     go_quiet (fail)
     go_wp2
     go_quiet (fail)
     go_wp2
     exact ⟨⟨5,_,by decide,rfl,is_u64 ((car_is HC.out.2 (car_01 W D 5)).2 (fun h=>h.elim (Int.not_lt.2 HS.out) (Int.not_lt.2 HT.out))),round_world5 w n m V W D 4 (wideO n V) (wideO m W) 112 _ _ (by decide) HC.out.1⟩,by simp [intOf]⟩
  ·have HC:=Lib.hid (minus_way (limb V 5) (limb W 5) (carN W D 5) (limb D 5) (carN W D 6) (limb_bd V 5).1 (limb_bd V 5).2 (limb_bd W 5).1 (limb_bd W 5).2 (car_01 W D 5) (car_01 W D 6) (limb_bd D 5).1 (limb_bd D 5).2 (by have e:=car_step W D 5;rw [HD.out] at e;exact e))
   unfold mixO wideO nilO
   simp only [mixL]
   by_cases hs:limb V 5<limb W 5
   ·have HS:=Lib.hid hs
    go_wp2
    go_quiet (fail)
    go_wp2
    go_quiet (fail)
    go_wp2
    exact ⟨⟨6,_,by decide,rfl,is_u64 ((car_is HC.out.2 (car_01 W D 6)).1 (.inl HS.out)),round_world5 w n m V W D 5 (wideO n V) (wideO m W) 112 _ _ (by decide) HC.out.1⟩,by simp [intOf]⟩
   ·have HS:=Lib.hid hs
    have hsb:decide (limb V 5<limb W 5)=false:=decide_eq_false hs
    clear hs
    by_cases ht:IntKind.u64.wrap (limb V 5 - limb W 5)<carN W D 5
    ·have HT:=Lib.hid ht
     have htb:decide (IntKind.u64.wrap (limb V 5 - limb W 5)<carN W D 5)=true:=decide_eq_true ht
     clear ht
     go_wp2
     go_quiet (fail)
     go_wp2
     go_quiet (fail)
     go_wp2
     exact ⟨⟨6,_,by decide,rfl,is_u64 ((car_is HC.out.2 (car_01 W D 6)).1 (.inr HT.out)),round_world5 w n m V W D 5 (wideO n V) (wideO m W) 112 _ _ (by decide) HC.out.1⟩,by simp [intOf]⟩
    ·have HT:=Lib.hid ht
     have htb:decide (IntKind.u64.wrap (limb V 5 - limb W 5)<carN W D 5)=false:=decide_eq_false ht
     clear ht
     go_wp2
     go_quiet (fail)
     go_wp2
     go_quiet (fail)
     go_wp2
     exact ⟨⟨6,_,by decide,rfl,is_u64 ((car_is HC.out.2 (car_01 W D 6)).2 (fun h=>h.elim (Int.not_lt.2 HS.out) (Int.not_lt.2 HT.out))),round_world5 w n m V W D 5 (wideO n V) (wideO m W) 112 _ _ (by decide) HC.out.1⟩,by simp [intOf]⟩
  ·have HC:=Lib.hid (minus_way (limb V 6) (limb W 6) (carN W D 6) (limb D 6) (carN W D 7) (limb_bd V 6).1 (limb_bd V 6).2 (limb_bd W 6).1 (limb_bd W 6).2 (car_01 W D 6) (car_01 W D 7) (limb_bd D 6).1 (limb_bd D 6).2 (by have e:=car_step W D 6;rw [HD.out] at e;exact e))
   unfold mixO wideO nilO
   simp only [mixL]
   by_cases hs:limb V 6<limb W 6
   ·have HS:=Lib.hid hs
    go_wp2
    go_quiet (fail)
    go_wp2
    go_quiet (fail)
    go_wp2
    exact ⟨⟨7,_,by decide,rfl,is_u64 ((car_is HC.out.2 (car_01 W D 7)).1 (.inl HS.out)),round_world5 w n m V W D 6 (wideO n V) (wideO m W) 112 _ _ (by decide) HC.out.1⟩,by simp [intOf]⟩
   ·have HS:=Lib.hid hs
    have hsb:decide (limb V 6<limb W 6)=false:=decide_eq_false hs
    clear hs
    by_cases ht:IntKind.u64.wrap (limb V 6 - limb W 6)<carN W D 6
    ·have HT:=Lib.hid ht
     have htb:decide (IntKind.u64.wrap (limb V 6 - limb W 6)<carN W D 6)=true:=decide_eq_true ht
     clear ht
     go_wp2
     go_quiet (fail)
     go_wp2
     go_quiet (fail)
     go_wp2
     exact ⟨⟨7,_,by decide,rfl,is_u64 ((car_is HC.out.2 (car_01 W D 7)).1 (.inr HT.out)),round_world5 w n m V W D 6 (wideO n V) (wideO m W) 112 _ _ (by decide) HC.out.1⟩,by simp [intOf]⟩
    ·have HT:=Lib.hid ht
     have htb:decide (IntKind.u64.wrap (limb V 6 - limb W 6)<carN W D 6)=false:=decide_eq_false ht
     clear ht
     go_wp2
     go_quiet (fail)
     go_wp2
     go_quiet (fail)
     go_wp2
     exact ⟨⟨7,_,by decide,rfl,is_u64 ((car_is HC.out.2 (car_01 W D 7)).2 (fun h=>h.elim (Int.not_lt.2 HS.out) (Int.not_lt.2 HT.out))),round_world5 w n m V W D 6 (wideO n V) (wideO m W) 112 _ _ (by decide) HC.out.1⟩,by simp [intOf]⟩
  ·have HC:=Lib.hid (minus_way (limb V 7) (limb W 7) (carN W D 7) (limb D 7) (carN W D 8) (limb_bd V 7).1 (limb_bd V 7).2 (limb_bd W 7).1 (limb_bd W 7).2 (car_01 W D 7) (car_01 W D 8) (limb_bd D 7).1 (limb_bd D 7).2 (by have e:=car_step W D 7;rw [HD.out] at e;exact e))
   unfold mixO wideO nilO
   simp only [mixL]
   by_cases hs:limb V 7<limb W 7
   ·have HS:=Lib.hid hs
    go_wp2
    go_quiet (fail)
    go_wp2
    go_quiet (fail)
    go_wp2
    exact ⟨⟨8,_,by decide,rfl,is_u64 ((car_is HC.out.2 (car_01 W D 8)).1 (.inl HS.out)),round_world5 w n m V W D 7 (wideO n V) (wideO m W) 112 _ _ (by decide) HC.out.1⟩,by simp [intOf]⟩
   ·have HS:=Lib.hid hs
    have hsb:decide (limb V 7<limb W 7)=false:=decide_eq_false hs
    clear hs
    by_cases ht:IntKind.u64.wrap (limb V 7 - limb W 7)<carN W D 7
    ·have HT:=Lib.hid ht
     have htb:decide (IntKind.u64.wrap (limb V 7 - limb W 7)<carN W D 7)=true:=decide_eq_true ht
     clear ht
     go_wp2
     go_quiet (fail)
     go_wp2
     go_quiet (fail)
     go_wp2
     exact ⟨⟨8,_,by decide,rfl,is_u64 ((car_is HC.out.2 (car_01 W D 8)).1 (.inr HT.out)),round_world5 w n m V W D 7 (wideO n V) (wideO m W) 112 _ _ (by decide) HC.out.1⟩,by simp [intOf]⟩
    ·have HT:=Lib.hid ht
     have htb:decide (IntKind.u64.wrap (limb V 7 - limb W 7)<carN W D 7)=false:=decide_eq_false ht
     clear ht
     go_wp2
     go_quiet (fail)
     go_wp2
     go_quiet (fail)
     go_wp2
     exact ⟨⟨8,_,by decide,rfl,is_u64 ((car_is HC.out.2 (car_01 W D 8)).2 (fun h=>h.elim (Int.not_lt.2 HS.out) (Int.not_lt.2 HT.out))),round_world5 w n m V W D 7 (wideO n V) (wideO m W) 112 _ _ (by decide) HC.out.1⟩,by simp [intOf]⟩
  ·have HC:=Lib.hid (minus_way (limb V 8) (limb W 8) (carN W D 8) (limb D 8) (carN W D 9) (limb_bd V 8).1 (limb_bd V 8).2 (limb_bd W 8).1 (limb_bd W 8).2 (car_01 W D 8) (car_01 W D 9) (limb_bd D 8).1 (limb_bd D 8).2 (by have e:=car_step W D 8;rw [HD.out] at e;exact e))
   unfold mixO wideO nilO
   simp only [mixL]
   by_cases hs:limb V 8<limb W 8
   ·have HS:=Lib.hid hs
    go_wp2
    go_quiet (fail)
    go_wp2
    go_quiet (fail)
    go_wp2
    exact ⟨⟨9,_,by decide,rfl,is_u64 ((car_is HC.out.2 (car_01 W D 9)).1 (.inl HS.out)),round_world5 w n m V W D 8 (wideO n V) (wideO m W) 112 _ _ (by decide) HC.out.1⟩,by simp [intOf]⟩
   ·have HS:=Lib.hid hs
    have hsb:decide (limb V 8<limb W 8)=false:=decide_eq_false hs
    clear hs
    by_cases ht:IntKind.u64.wrap (limb V 8 - limb W 8)<carN W D 8
    ·have HT:=Lib.hid ht
     have htb:decide (IntKind.u64.wrap (limb V 8 - limb W 8)<carN W D 8)=true:=decide_eq_true ht
     clear ht
     go_wp2
     go_quiet (fail)
     go_wp2
     go_quiet (fail)
     go_wp2
     exact ⟨⟨9,_,by decide,rfl,is_u64 ((car_is HC.out.2 (car_01 W D 9)).1 (.inr HT.out)),round_world5 w n m V W D 8 (wideO n V) (wideO m W) 112 _ _ (by decide) HC.out.1⟩,by simp [intOf]⟩
    ·have HT:=Lib.hid ht
     have htb:decide (IntKind.u64.wrap (limb V 8 - limb W 8)<carN W D 8)=false:=decide_eq_false ht
     clear ht
     go_wp2
     go_quiet (fail)
     go_wp2
     go_quiet (fail)
     go_wp2
     exact ⟨⟨9,_,by decide,rfl,is_u64 ((car_is HC.out.2 (car_01 W D 9)).2 (fun h=>h.elim (Int.not_lt.2 HS.out) (Int.not_lt.2 HT.out))),round_world5 w n m V W D 8 (wideO n V) (wideO m W) 112 _ _ (by decide) HC.out.1⟩,by simp [intOf]⟩
  ·have HC:=Lib.hid (minus_way (limb V 9) (limb W 9) (carN W D 9) (limb D 9) (carN W D 10) (limb_bd V 9).1 (limb_bd V 9).2 (limb_bd W 9).1 (limb_bd W 9).2 (car_01 W D 9) (car_01 W D 10) (limb_bd D 9).1 (limb_bd D 9).2 (by have e:=car_step W D 9;rw [HD.out] at e;exact e))
   unfold mixO wideO nilO
   simp only [mixL]
   by_cases hs:limb V 9<limb W 9
   ·have HS:=Lib.hid hs
    go_wp2
    go_quiet (fail)
    go_wp2
    go_quiet (fail)
    go_wp2
    exact ⟨⟨10,_,by decide,rfl,is_u64 ((car_is HC.out.2 (car_01 W D 10)).1 (.inl HS.out)),round_world5 w n m V W D 9 (wideO n V) (wideO m W) 112 _ _ (by decide) HC.out.1⟩,by simp [intOf]⟩
   ·have HS:=Lib.hid hs
    have hsb:decide (limb V 9<limb W 9)=false:=decide_eq_false hs
    clear hs
    by_cases ht:IntKind.u64.wrap (limb V 9 - limb W 9)<carN W D 9
    ·have HT:=Lib.hid ht
     have htb:decide (IntKind.u64.wrap (limb V 9 - limb W 9)<carN W D 9)=true:=decide_eq_true ht
     clear ht
     go_wp2
     go_quiet (fail)
     go_wp2
     go_quiet (fail)
     go_wp2
     exact ⟨⟨10,_,by decide,rfl,is_u64 ((car_is HC.out.2 (car_01 W D 10)).1 (.inr HT.out)),round_world5 w n m V W D 9 (wideO n V) (wideO m W) 112 _ _ (by decide) HC.out.1⟩,by simp [intOf]⟩
    ·have HT:=Lib.hid ht
     have htb:decide (IntKind.u64.wrap (limb V 9 - limb W 9)<carN W D 9)=false:=decide_eq_false ht
     clear ht
     go_wp2
     go_quiet (fail)
     go_wp2
     go_quiet (fail)
     go_wp2
     exact ⟨⟨10,_,by decide,rfl,is_u64 ((car_is HC.out.2 (car_01 W D 10)).2 (fun h=>h.elim (Int.not_lt.2 HS.out) (Int.not_lt.2 HT.out))),round_world5 w n m V W D 9 (wideO n V) (wideO m W) 112 _ _ (by decide) HC.out.1⟩,by simp [intOf]⟩
  ·unfold mixO wideO nilO
   simp only [mixL]
   go_wp2
   (try simp only [Exit.inBlock,Exit.then])
   refine bodyPost_ret (v:=wideV n D) ?_ rfl ⟨rfl,?_⟩
   ·rw [results_one rfl]
    unfold wideV
    go_simp
   ·repeat refine Grown.setCell ?_ (by simp <;> omega) _
    exact grown_more (Grown.alloc (Grown.alloc (Grown.alloc (Grown.alloc (Grown.alloc (Grown.refl _) _ _) _ _) _ _) _ _) _ _) _

theorem ten_cases {i:Nat} (h:i<10):i=0∨i=1∨i=2∨i=3∨i=4∨i=5∨i=6∨i=7∨i=8∨i=9:=by omega

theorem wide_cells (w:World) (n:Bool) (V:Nat) (t u:TypeId) (E:Array Value) (i:Nat) (h:i<10):
  ((w.alloc (.cells (wideO n V) t)).alloc (.cells E u)).cell? ⟨w.heap.size,1+i,none⟩=some (.int .u64 (limb V i)):=by
 rcases ten_cases h with rfl | rfl | rfl | rfl | rfl | rfl | rfl | rfl | rfl | rfl <;> (unfold wideO;go_simp)

def MoreRel (V j:Nat) (b0:Bool) (W:World) (m i:Value) (wr:World):Prop:=
 ∃ (q d:Nat) (mq:Bool),q≤j∧i=.int .i64 q∧m=.bool mq∧mq=(b0 || lowB V q)∧wr=W.drewN d

theorem more_next {V q:Nat} {b0 mq:Bool} (h:mq=(b0 || lowB V q)):(mq || (limb V q != 0))=(b0 || lowB V (q+1)):=by
 rw [h,low_next,Bool.or_assoc]

set_option maxRecDepth 100000 in
set_option maxHeartbeats 4000000 in
theorem rounded_any (f mode:Int) (n:Bool) (V:Nat) (w:World) (hV:FitN V 10) (h0:V≠0):
  Calls Tryz.prog 166 #[.int .i64 f,.int .i64 mode,wideV n V] w fun e w'=>e=PackE f mode n (upN V)∧Grown w w':=by
 have H0:=Lib.hid h0
 clear h0
 unfold wideV
 go_enter Tryz.func166,Tryz.ntmps166
 go_wp2
 have hcell:=Lib.hid (wide_cells w n V 112 75 #[.bool false,.bool false,.bool false,.bool false,.bool false])
 have hnum:((w.alloc (.cells (wideO n V) 112)).alloc (.cells #[.bool false,.bool false,.bool false,.bool false,.bool false] 75)).cell? ⟨w.heap.size,0,none⟩=some (.bool n):=by
  unfold wideO;go_simp
 unfold wideO at hcell hnum
 have HE:=Lib.hid (exc_new (w.alloc (.cells (wideO n V) 112)) 75)
 rw [show (w.alloc (.cells (wideO n V) 112)).heap.size=w.heap.size+1 by simp] at HE
 unfold wideO at HE
 generalize hW:((w.alloc _).alloc _)=W at hcell hnum HE ⊢
 have HG:=Lib.hid (show Grown w W by rw [←hW];exact Grown.alloc (Grown.alloc (Grown.refl _) _ _) _ _)
 clear hW
 go_loopw [8] (fun i wr=>∃ k d:Nat,k≤9∧i=.int .i64 k∧wr=W.drewN d∧FitN V (k+1)) (fun i _=>(intOf i).toNat)
 case atStart=>exact ⟨9,0,by decide,rfl,rfl,hV⟩
 case round=>
  obtain ⟨k,d,hk,rfl,rfl,hV⟩:=hrel
  have hc:=hcell.out k (by omega)
  have HN:=Lib.hid hnum
  clear hnum
  have k0:(0:Int)≤(k:Int):=by omega
  have k1:(k:Int)<10:=by omega
  have k2:(k:Int).toNat=k:=by omega
  by_cases h:limb V k=0
  ·have hz:=Lib.hid (fit_less V k hV h)
   by_cases k0':k=0
   ·subst k0'
    exact absurd (fit_zero V hz.out) H0.out
   ·obtain ⟨j,rfl⟩:∃ j,k=j+1:=⟨k - 1,by omega⟩
    go_wp2
    go_roundw
    case rel=>exact ⟨j,_,by omega,by go_num,rfl,hz.out⟩
    case measure=>simp [intOf]
  ·have hb:(limb V k==0)=false:=by simpa using h
   have HH:=Lib.hid h
   obtain ⟨hl0,hl1⟩:=top_len V k h
   clear h
   obtain ⟨L,hL⟩:∃ L,lenI (limb V k)=L:=⟨_,rfl⟩
   rw [hL] at hl0 hl1
   have HL:=Lib.hid hL
   clear hL
   obtain ⟨hx0,hx1⟩:=limb_bd V k
   have hx2:0<limb V k:=by have:=HH.out;omega
   by_cases k0':k=0
   ·subst k0'
    have HP:=Lib.hid (top_last f mode n V hV)
    have hn:=HN.out
    clear hb
    go_wp2_with (first
     | (go_at_call 131;refine (rlen_any _ _ (by omega) (by omega)).mono ?_;rintro e w' ⟨he,rfl⟩;rw [HL.out] at he;subst he)
     | (go_at_call 92;refine (rpack_any _ _ _ _ _ _ _ (by omega) (by omega) (by omega) (by omega)).mono ?_;rintro e W3 ⟨he,hW3⟩;rw [HP.out,←packE_is] at he;subst he;have HW3:=Lib.hid hW3;clear hW3;have HG3:=Lib.hid (grown_trans HG.out (grown_trans (grown_drewN W _) HW3.out));obtain ⟨xb,x0,x1,x2,x3,x4,z0,z1,z2,z3,z4⟩:=HE.out.grown (grown_trans (grown_drewN W _) HW3.out)))
    (try simp only [Exit.inBlock,Exit.then])
    refine bodyPost_ret (v:=.tuple #[.int .u32 (rdV f mode n (upN V)),.agg #[.bool false,.bool false,.bool (rdO f mode n (upN V)),.bool (rdU f (upN V)),.bool (rdX f mode n (upN V))]]) ?_ rfl ⟨packE_is _ _ _ _,by
     repeat refine Grown.setCell ?_ (by simp <;> omega) _
     exact HG3.out⟩
    rw [results_tmp_cell rfl]
    go_simp
   ·obtain ⟨j,rfl⟩:∃ j,k=j+1:=⟨k - 1,by omega⟩
    have hc':=hcell.out j (by omega)
    obtain ⟨hy0,hy1⟩:=limb_bd V j
    have HV:=Lib.hid hV
    clear hV hb
    by_cases hL64:L=64
    ·subst hL64
     obtain ⟨b0,hb0⟩:∃ b0,(limb V j != 0)=b0:=⟨_,rfl⟩
     have HB:=Lib.hid hb0
     go_wp2_with (go_at_call 131;refine (rlen_any _ _ (by omega) (by omega)).mono ?_;rintro e w' ⟨he,rfl⟩;rw [HL.out] at he;subst he)
     have hw1:IntKind.i64.wrap (((j+1:Nat):Int) - 1)=(j:Int):=by rw [IntKind.wrap_i64];omega
     have hw2:IntKind.i64.wrap ((j:Int)+1 - 1)=(j:Int):=by rw [IntKind.wrap_i64];omega
     go_quiet (fail)
     clear hw1 hw2
     go_wp2
     go_loopw [12,15] (fun m i wr=>MoreRel V j b0 W m i wr) (fun _ i _=>(((j:Nat):Int) - intOf i).toNat)
     case atStart=>exact ⟨0,_,b0,by omega,rfl,rfl,by rw [low_zero,Bool.or_false],rfl⟩
     case round=>
      obtain ⟨q,d,mq,hq,rfl,rfl,hmq,rfl⟩:=hrel
      have HM:=Lib.hid hmq
      clear hmq
      have hcq:=hcell.out q (by omega)
      have q0:(0:Int)≤(q:Int):=by omega
      have q1:(q:Int)<10:=by omega
      have q2:(q:Int).toNat=q:=by omega
      by_cases hqj:q<j
      ·have hqj':(q:Int)<(j:Int):=by omega
       have HX:=Lib.hid (more_next HM.out)
       cases mq
       all_goals
        go_wp2
        go_roundw
        case rel=>exact ⟨q+1,_,_,by omega,by go_num,rfl,by simpa using HX.out,rfl⟩
        case measure=>simp [intOf];omega
      ·have hqj':¬(q:Int)<(j:Int):=by omega
       obtain rfl:q=j:=by omega
       have hn:=HN.out
       have HP:=Lib.hid (top_full f mode n V q (by omega) HV.out HH.out HL.out (64*((q:Int)+1) - 298) rfl mq (by rw [HM.out,HB.out]))
       go_wp2_with (go_at_call 92;refine (rpack_any _ _ _ _ _ _ _ (by omega) (by omega) (by omega) (by omega)).mono ?_;rintro e W3 ⟨he,hW3⟩;rw [HP.out,←packE_is] at he;subst he;have HW3:=Lib.hid hW3;clear hW3;have HG3:=Lib.hid (grown_trans HG.out (grown_trans (grown_drewN W _) HW3.out));obtain ⟨xb,x0,x1,x2,x3,x4,z0,z1,z2,z3,z4⟩:=HE.out.grown (grown_trans (grown_drewN W _) HW3.out))
       (try simp only [Exit.inBlock,Exit.then])
       refine bodyPost_ret (v:=.tuple #[.int .u32 (rdV f mode n (upN V)),.agg #[.bool false,.bool false,.bool (rdO f mode n (upN V)),.bool (rdU f (upN V)),.bool (rdX f mode n (upN V))]]) ?_ rfl ⟨packE_is _ _ _ _,by
        repeat refine Grown.setCell ?_ (by simp <;> omega) _
        exact HG3.out⟩
       rw [results_tmp_cell rfl]
       go_simp
    ·have hl2:L<64:=by omega
     have hb64:(L==64)=false:=by simpa using hL64
     clear hL64
     obtain ⟨S,hS⟩:∃ S,bits BinOp.or IntKind.u64 (IntKind.u64.wrap (limb V (j+1)*2^(64 - L).toNat)) (limb V j / 2^L.toNat)=S:=⟨_,rfl⟩
     have HS:=Lib.hid hS
     obtain ⟨hS0,hS1⟩:0≤S∧S≤18446744073709551615:=by rw [←hS];exact bounds_u64 (wf_bits _ _ _ _)
     obtain ⟨b0,hb0⟩:∃ b0,(IntKind.u64.wrap (limb V j*2^(64 - L).toNat) != 0)=b0:=⟨_,rfl⟩
     have HB:=Lib.hid hb0
     go_wp2_with (go_at_call 131;refine (rlen_any _ _ (by omega) (by omega)).mono ?_;rintro e w' ⟨he,rfl⟩;rw [HL.out] at he;subst he)
     have hw1:IntKind.i64.wrap (((j+1:Nat):Int) - 1)=(j:Int):=by rw [IntKind.wrap_i64];omega
     have hw2:IntKind.i64.wrap ((j:Int)+1 - 1)=(j:Int):=by rw [IntKind.wrap_i64];omega
     go_quiet (fail)
     clear hw1 hw2
     go_wp2
     go_loopw [12,15] (fun m i wr=>MoreRel V j b0 W m i wr) (fun _ i _=>(((j:Nat):Int) - intOf i).toNat)
     case atStart=>exact ⟨0,_,b0,by omega,rfl,rfl,by rw [low_zero,Bool.or_false],rfl⟩
     case round=>
      obtain ⟨q,d,mq,hq,rfl,rfl,hmq,rfl⟩:=hrel
      have HM:=Lib.hid hmq
      clear hmq
      have hcq:=hcell.out q (by omega)
      have q0:(0:Int)≤(q:Int):=by omega
      have q1:(q:Int)<10:=by omega
      have q2:(q:Int).toNat=q:=by omega
      by_cases hqj:q<j
      ·have hqj':(q:Int)<(j:Int):=by omega
       have HX:=Lib.hid (more_next HM.out)
       cases mq
       all_goals
        go_wp2
        go_roundw
        case rel=>exact ⟨q+1,_,_,by omega,by go_num,rfl,by simpa using HX.out,rfl⟩
        case measure=>simp [intOf];omega
      ·have hqj':¬(q:Int)<(j:Int):=by omega
       obtain rfl:q=j:=by omega
       have hn:=HN.out
       have HP:=Lib.hid (top_part f mode n V q L (by omega) HV.out HH.out HL.out (64*((q:Int)+1) - 298 - (64 - L)) rfl S HS.out.symm mq (by rw [HM.out,HB.out]))
       go_wp2_with (go_at_call 92;refine (rpack_any _ _ _ _ _ _ _ (by omega) (by omega) (by omega) (by omega)).mono ?_;rintro e W3 ⟨he,hW3⟩;rw [HP.out,←packE_is] at he;subst he;have HW3:=Lib.hid hW3;clear hW3;have HG3:=Lib.hid (grown_trans HG.out (grown_trans (grown_drewN W _) HW3.out));obtain ⟨xb,x0,x1,x2,x3,x4,z0,z1,z2,z3,z4⟩:=HE.out.grown (grown_trans (grown_drewN W _) HW3.out))
       (try simp only [Exit.inBlock,Exit.then])
       refine bodyPost_ret (v:=.tuple #[.int .u32 (rdV f mode n (upN V)),.agg #[.bool false,.bool false,.bool (rdO f mode n (upN V)),.bool (rdU f (upN V)),.bool (rdX f mode n (upN V))]]) ?_ rfl ⟨packE_is _ _ _ _,by
        repeat refine Grown.setCell ?_ (by simp <;> omega) _
        exact HG3.out⟩
       rw [results_tmp_cell rfl]
       go_simp

/-! Contracts of the reference's wide numbers: sums of any signs,rounded. -/
def sgT (n:Bool) (V:Nat) (m:Bool) (W:Nat):Bool:=if n=m then n else if V<W then m else n

def amT (n:Bool) (V:Nat) (m:Bool) (W:Nat):Nat:=if n=m then V+W else if V<W then W - V else V - W

theorem pow_twice (k:Nat):2^(64*k)+2^(64*k)≤2^(64*(k+1)):=by
 have:2^(64*k+1)≤2^(64*(k+1)):=Nat.pow_le_pow_right (by decide) (by omega)
 rw [Nat.pow_succ] at this;omega

theorem amt_fit_k (n:Bool) (V:Nat) (m:Bool) (W k:Nat) (hV:FitN V k) (hW:FitN W k):FitN (amT n V m W) (k+1):=by
 have a:=hV.out
 have b:=hW.out
 have c:=pow_twice k
 refine ⟨?_⟩
 unfold amT
 generalize 2^(64*k)=P at*
 generalize 2^(64*(k+1))=Q at*
 (repeat' split) <;> omega

theorem amt_fit (n:Bool) (V:Nat) (m:Bool) (W:Nat) (hV:FitN V 9) (hW:FitN W 9):FitN (amT n V m W) 10:=amt_fit_k n V m W 9 hV hW

theorem fit_more (V k:Nat) (h:FitN V k):FitN V (k+1):=
 ⟨Nat.lt_of_lt_of_le h.out (Nat.pow_le_pow_right (by decide) (by omega))⟩

theorem fit_ten (V:Nat) (h:FitN V 9):FitN V 10:=fit_more V 9 h

theorem fit_up (V:Nat) (h:FitN V 9):V<2^(64*10):=(fit_ten V h).out

set_option maxRecDepth 100000 in
set_option maxHeartbeats 4000000 in
theorem plus_unlike (n m:Bool) (V W:Nat) (w:World) (hnm:(n != m)=true) (s:Bool) (T:Nat)
  (hm:∀ w1,Calls Tryz.prog 177 #[wideV n V,wideV m W] w1 fun e w'=>e=.returned (wideV s T)∧Grown w1 w'):
  Calls Tryz.prog 164 #[wideV n V,wideV m W] w fun e w'=>e=.returned (wideV s T)∧Grown w w':=by
 have HM:=Lib.hid hm
 clear hm
 have hnm2:(n==m)=false:=by cases n <;> cases m <;> simp_all
 have HN:=Lib.hid (nil_new ((w.alloc (.cells (wideO n V) 112)).alloc (.cells (wideO m W) 112)) 112)
 have HG:=Lib.hid (Grown.alloc (Grown.alloc (Grown.alloc (Grown.refl w) (wideO n V) 112) (wideO m W) 112) nilO 112)
 rw [show ((w.alloc (.cells (wideO n V) 112)).alloc (.cells (wideO m W) 112)).heap.size=w.heap.size+1+1 by simp] at HN
 unfold wideO at HN HG
 unfold nilO at HG
 unfold wideV at HM ⊢
 go_enter Tryz.func164,Tryz.ntmps164
 go_wp2_with (go_at_call 177;refine (HM.out _).mono ?_;rintro e W3 ⟨rfl,hW3⟩;have HW3:=Lib.hid hW3;clear hW3;obtain ⟨xb,x0,x1,x2,x3,x4,x5,x6,x7,x8,x9,x10,z0,z1,z2,z3,z4,z5,z6,z7,z8,z9,z10⟩:=HN.out.grown HW3.out;have HG3:=Lib.hid (grown_trans HG.out HW3.out))
 (try simp only [Exit.inBlock,Exit.then])
 refine bodyPost_ret (v:=wideV s T) ?_ rfl ⟨rfl,?_⟩
 ·rw [results_one rfl]
  unfold wideV
  go_simp
 ·repeat refine Grown.setCell ?_ (by simp <;> omega) _
  exact HG3.out

theorem plus_any (n m:Bool) (V W:Nat) (w:World) (hV:FitN V 9) (hW:FitN W 9):
  Calls Tryz.prog 164 #[wideV n V,wideV m W] w fun e w'=>e=.returned (wideV (sgT n V m W) (amT n V m W))∧Grown w w':=by
 by_cases h:n=m
 ·subst h
  unfold sgT amT
  rw [if_pos rfl,if_pos rfl]
  exact plus_like n V W w
 ·have hb:(n != m)=true:=by simpa using h
  have a:=fit_up V hV
  have b:=fit_up W hW
  by_cases c:V<W
  ·unfold sgT amT
   rw [if_neg h,if_neg h,if_pos c,if_pos c]
   exact plus_unlike n m V W w hb _ _ (fun w1=>minus_up n m V W (W - V) w1 (by omega) c a b)
  ·unfold sgT amT
   rw [if_neg h,if_neg h,if_neg c,if_neg c]
   exact plus_unlike n m V W w hb _ _ (fun w1=>minus_down n m V W (V - W) w1 (by omega) c a b)

/-! The contract of the reference's rounded total. -/
def excE (v:Int) (inv:Bool):Ending:=.returned (.tuple #[.int .u32 v,.agg #[.bool inv,.bool false,.bool false,.bool false,.bool false]])

theorem excE_is (v:Int) (inv:Bool):.returned (.tuple #[.int .u32 v,.agg #[.bool inv,.bool false,.bool false,.bool false,.bool false]])=excE v inv:=rfl

def totE (f mode:Int) (n:Bool) (V:Nat) (m:Bool) (W:Nat):Ending:=
 if amT n V m W=0 then excE (zerI f (mode==3)) false else PackE f mode (sgT n V m W) (upN (amT n V m W))

set_option maxRecDepth 100000 in
set_option maxHeartbeats 4000000 in
theorem total_any (f mode:Int) (n m:Bool) (V W:Nat) (w:World) (hV:FitN V 9) (hW:FitN W 9):
  Calls Tryz.prog 113 #[.int .i64 f,.int .i64 mode,wideV n V,wideV m W] w fun e w'=>e=totE f mode n V m W∧Grown w w':=by
 have HP:=Lib.hid (fun w1=>plus_any n m V W w1 hV hW)
 have HF:=amt_fit n V m W hV hW
 clear hV hW
 obtain ⟨S,hS⟩:∃ S,sgT n V m W=S:=⟨_,rfl⟩
 obtain ⟨T,hT⟩:∃ T,amT n V m W=T:=⟨_,rfl⟩
 rw [hS,hT] at HP
 rw [hT] at HF
 have HTot:=Lib.hid (show totE f mode n V m W=if T=0 then excE (zerI f (mode==3)) false else PackE f mode S (upN T) by unfold totE;rw [hS,hT])
 clear hS hT
 have HN:=fun w1=>nought_is S T w1 HF.out
 have HN':=Lib.hid HN
 clear HN
 have HE:=Lib.hid (exc_new ((w.alloc (.cells (wideO n V) 112)).alloc (.cells (wideO m W) 112)) 75)
 have HG:=Lib.hid (Grown.alloc (Grown.alloc (Grown.alloc (Grown.refl w) (wideO n V) 112) (wideO m W) 112) #[.bool false,.bool false,.bool false,.bool false,.bool false] 75)
 rw [show ((w.alloc (.cells (wideO n V) 112)).alloc (.cells (wideO m W) 112)).heap.size=w.heap.size+1+1 by simp] at HE
 by_cases hz:T=0
 ·subst hz
  have HQ:=Lib.hid (HTot.out.trans (if_pos rfl))
  unfold wideO at HE HG HN'
  unfold wideV at HP HN' ⊢
  go_enter Tryz.func113,Tryz.ntmps113
  go_wp2_with (first
   | (go_at_call 164;refine (HP.out _).mono ?_;rintro e W3 ⟨rfl,hW3⟩;have HW3:=Lib.hid hW3;clear hW3;obtain ⟨xb,x0,x1,x2,x3,x4,z0,z1,z2,z3,z4⟩:=HE.out.grown HW3.out;have HG3:=Lib.hid (grown_trans HG.out HW3.out))
   | (go_at_call 165;refine (HN'.out _).mono ?_;rintro e W4 ⟨rfl,hW4⟩;have HG4:=Lib.hid (show Grown W3 W4 by rw [←hW4];exact Grown.alloc (Grown.alloc (Grown.refl W3) _ _) _ _);clear hW4;clear xb x0 x1 x2 x3 x4 z0 z1 z2 z3 z4;obtain ⟨xb,x0,x1,x2,x3,x4,z0,z1,z2,z3,z4⟩:=(HE.out.grown HW3.out).grown HG4.out)
   | (go_at_call 49;refine (rzero_any _ _ _).mono ?_;rintro e w' ⟨rfl,rfl⟩))
  (try simp only [Exit.inBlock,Exit.then])
  refine bodyPost_ret ?_ rfl ⟨(excE_is _ _).trans HQ.out.symm,?_⟩
  ·rw [results_tmp_cell rfl]
   go_simp
  ·repeat refine Grown.setCell ?_ (by simp <;> omega) _
   exact grown_trans HG3.out HG4.out
 ·have HQ:=Lib.hid (HTot.out.trans (if_neg hz))
  have HZ:=Lib.hid hz
  have HR:=Lib.hid (fun w1=>rounded_any f mode S T w1 HF hz)
  have hz':decide (T=0)=false:=decide_eq_false hz
  clear hz
  unfold wideO at HE HG HN'
  unfold wideV at HP HN' HR ⊢
  go_enter Tryz.func113,Tryz.ntmps113
  go_wp2_with (first
   | (go_at_call 164;refine (HP.out _).mono ?_;rintro e W3 ⟨rfl,hW3⟩;have HW3:=Lib.hid hW3;clear hW3;obtain ⟨xb,x0,x1,x2,x3,x4,z0,z1,z2,z3,z4⟩:=HE.out.grown HW3.out;have HG3:=Lib.hid (grown_trans HG.out HW3.out))
   | (go_at_call 165;refine (HN'.out _).mono ?_;rintro e w' ⟨rfl,rfl⟩)
   | (go_at_call 166;refine (HR.out _).mono ?_;rintro e W5 ⟨he,hW5⟩;rw [←packE_is] at he;subst he;have HW5:=Lib.hid hW5;clear hW5;have HG5:=Lib.hid (grown_trans (Grown.alloc (Grown.alloc (Grown.refl W3) _ _) _ _) HW5.out);clear xb x0 x1 x2 x3 x4 z0 z1 z2 z3 z4;obtain ⟨xb,x0,x1,x2,x3,x4,z0,z1,z2,z3,z4⟩:=(HE.out.grown HW3.out).grown HG5.out))
  (try simp only [Exit.inBlock,Exit.then])
  refine bodyPost_ret ?_ rfl ⟨(packE_is _ _ _ _).trans HQ.out.symm,?_⟩
  ·rw [results_tmp_cell rfl]
   go_simp
  ·repeat refine Grown.setCell ?_ (by simp <;> omega) _
   exact grown_trans HG3.out HG5.out
end Go.Proofs.YteifobleigfbaaaGreat
