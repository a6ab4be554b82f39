/- The contract of the draws' tensors: of any shape, numbers that are mild or not. -/
import Derived.Test.YteifobleigfbaaaGreatWorld
import Derived.Test.YteifobleigfbaaaGreatLimbs
import Derived.Test.YteifobleigfbaaaGreatRFmt
import Derived.Lib.Hide
import Derived.Handy
import Derived.BigRegion
import Derived.Deep.QuietTactic
import Derived.BigQuiet
import Derived.Deep.RegionLaw
namespace Go.Proofs.YteifobleigfbaaaGreat
open Go Go.RowKit
set_option linter.unusedVariables false
set_option linter.unusedSimpArgs false

def SeatRow (F:Int) (mild:Bool) (xs:List Value):Prop:=
 ∀ j,j<xs.length→∃ x:Int,xs[j]?=some (.int .u32 x)∧0≤x∧x≤4294967295∧(mild=true→∃ k,0≤k∧k≤4294967295∧x=milI F k)

theorem SeatRow.more {F:Int} {mild:Bool} {xs:List Value} (h:SeatRow F mild xs) {x:Int} (x0:0≤x) (x1:x≤4294967295) (hm:mild=true→∃ k,0≤k∧k≤4294967295∧x=milI F k):SeatRow F mild (xs++[.int .u32 x]):=by
 intro j hj
 rw [List.length_append,List.length_singleton] at hj
 by_cases c:j<xs.length
 ·obtain ⟨y,e,r⟩:=h j c
  exact ⟨y,by rw [List.getElem?_append_left c];exact e,r⟩
 ·have:j=xs.length:=by omega
  subst this
  exact ⟨x,by simp,x0,x1,hm⟩

structure SeatAt (w:World) (R C F:Int) (mild:Bool) (I:Nat) (v:Value) (xs:List Value) (wr:World):Prop where
 g:Grown w wr
 res:TenAt w.heap.size (.int .i64 0) (.int .i64 0) (.int .i64 0) (.slice none 0 0) wr
 t:TenAt (w.heap.size+1) (.int .i64 R) (.int .i64 C) (.int .i64 F) v wr
 own:wr.ownsRow (w.heap.size+2) 29 1 v I xs
 row:SeatRow F mild xs

theorem SeatAt.grown {w:World} {R C F:Int} {mild:Bool} {I:Nat} {v:Value} {xs:List Value} {wr W:World} (h:SeatAt w R C F mild I v xs wr) (k:Grown wr W):SeatAt w R C F mild I v xs W:=
 ⟨grown_trans h.g k,h.res.grown k,h.t.grown k,owns_grown h.own k,h.row⟩

theorem SeatAt.next {w:World} {R C F:Int} {mild:Bool} {I:Nat} {v:Value} {xs:List Value} {W7 W8:World} {X:Int} {gg cc:Nat} (h:SeatAt w R C F mild I v xs W7) (x0:0≤X) (x1:X≤4294967295)
  (hm:mild=true→∃ k,0≤k∧k≤4294967295∧X=milI F k) (own:W8.ownsRow (w.heap.size+2) 29 1 (.slice (some ⟨gg,0,none⟩) (I+1) cc) (I+1) (xs++[.int .u32 X])) (hs:W7.heap.size≤W8.heap.size)
  (hcell:∀ a:Addr,a.block<W7.heap.size→some a.block≠v.ownBlock→W8.cell? a=W7.cell? a) (hfr:∀ a,W8.frozen? a=W7.frozen? a) (hgr:∀ w0,Grown w0 W7→w0.heap.size≤w.heap.size+2→Grown w0 W8):
  TenAt (w.heap.size+1) (.int .i64 R) (.int .i64 C) (.int .i64 F) v W8∧SeatAt w R C F mild (I+1) (.slice (some ⟨gg,0,none⟩) (I+1) cc) (xs++[.int .u32 X]) (W8.setCell ⟨w.heap.size+1,3,none⟩ (.slice (some ⟨gg,0,none⟩) (I+1) cc)):=by
 have ne:∀ b,b<w.heap.size+2→some b≠v.ownBlock:=fun b hb e=>by have:=(h.own.lt b e.symm).1;omega
 have t8:=h.t.far hs (fun off=>hcell _ h.t.lies (ne _ (by show w.heap.size+1<w.heap.size+2;omega))) hfr
 have r8:=h.res.far hs (fun off=>hcell _ h.res.lies (ne _ (by show w.heap.size<w.heap.size+2;omega))) hfr
 refine ⟨t8,?_,r8.set (by simp) _,t8.put _,owns_set own (by show w.heap.size+1<_;omega) _,h.row.more x0 x1 hm⟩
 exact Grown.setCell (hgr w h.g (by omega)) (by show w.heap.size≤w.heap.size+1;omega) _

def SeatRel (w:World) (R C F:Int) (M:Nat) (mild:Bool) (i:Value) (wr:World):Prop:=
 ∃ (I:Nat) (v:Value) (xs:List Value),I≤M∧i=.int .i64 I∧SeatAt w R C F mild I v xs wr

def SeatE (R C F:Int) (M:Nat) (mild:Bool) (w:World) (e:Ending) (w':World):Prop:=
 ∃ (ad:Option Addr) (c:Nat) (G:Nat→Int),e=.returned (.agg #[.int .i64 R,.int .i64 C,.int .i64 F,.slice ad M c])∧Reads ad M G w'∧Fresh ad w∧Grown w w'∧(mild=true→∀ i,i<M→∃ k,0≤k∧k≤4294967295∧G i=milI F k)∧Sound ad M c

def rowG (xs:List Value) (i:Nat):Int:=match xs[i]? with
 | some (.int _ x)=>x
 | _=>0

theorem SeatAt.told {w:World} {R C F:Int} {mild:Bool} {M:Nat} {v:Value} {xs:List Value} {wr:World} (h:SeatAt w R C F mild M v xs wr):∃ (ad:Option Addr) (c:Nat),v=.slice ad M c∧Reads ad M (rowG xs) wr∧(∀ x,ad=some x→w.heap.size+2≤x.block)∧(mild=true→∀ i,i<M→∃ k,0≤k∧k≤4294967295∧rowG xs i=milI F k)∧Sound ad M c:=by
 have hl:xs.length=M:=by have:=h.own.1;omega
 have hrow:∀ i,i<M→∃ x:Int,xs[i]?=some (.int .u32 x)∧rowG xs i=x∧0≤x∧x≤4294967295∧(mild=true→∃ k,0≤k∧k≤4294967295∧x=milI F k):=fun i hi=>by
  obtain ⟨x,e,r⟩:=h.row i (by omega)
  exact ⟨x,e,by unfold rowG;rw [e],r⟩
 have hmild:mild=true→∀ i,i<M→∃ k,0≤k∧k≤4294967295∧rowG xs i=milI F k:=fun hm i hi=>by
  obtain ⟨x,_,e,_,_,r⟩:=hrow i hi
  obtain ⟨k,k0,k1,hk⟩:=r hm
  exact ⟨k,k0,k1,by rw [e,hk]⟩
 have hbd:∀ i,i<M→0≤rowG xs i∧rowG xs i≤4294967295:=fun i hi=>by
  obtain ⟨x,_,e,x0,x1,_⟩:=hrow i hi
  rw [e];exact ⟨x0,x1⟩
 rcases h.own.2 with ⟨rfl,rfl⟩ | ⟨g,cap,cur,rfl,hb,hg,hnc,_⟩
 ·exact ⟨none,0,rfl,Reads.nil _ _ _,(fun x hx=>by cases hx),hmild,sound_nil⟩
 ·refine ⟨some ⟨g,0,none⟩,cap,rfl,⟨hbd,.inr ⟨g,0,rfl,(Array.getElem?_eq_some_iff.1 hg).1,fun i hi=>?_⟩⟩,fun x hx=>by cases hx;exact hb,hmild,hnc,fun h=>by cases h⟩
  obtain ⟨x,e,e2,_⟩:=hrow i hi
  have:=h.own.cells (g:=g) rfl i _ e
  rw [e2,Nat.zero_add]
  have ha:(⟨g,0,none⟩:Addr).add i=⟨g,i,none⟩:=by unfold Addr.add;split <;> simp_all
  rw [ha] at this
  exact this

set_option maxRecDepth 100000 in
set_option maxHeartbeats 8000000 in
theorem seatt_any (R C F:Int) (M:Nat) (ad:Option Addr) (n c:Nat) (g:Nat→Int) (mild:Bool) (w:World) (hn:n≤1000) (h:Reads ad n g w) (r0:0≤R) (r1:R≤64) (c0:0≤C) (c1:C≤64) (hM:R*C=(M:Int)):
  Calls Tryz.prog 9 #[.int .i64 R,.int .i64 C,.int .i64 F,.slice ad n c,.bool mild] w (SeatE R C F M mild w):=by
 have hM1:(M:Int)≤4096:=by
  have:=Int.mul_le_mul r1 c1 c0 (by omega:(0:Int)≤64)
  omega
 have hw:IntKind.i64.wrap (M:Int)=M:=by rw [IntKind.wrap_i64];omega
 have hw2:wrap64 (M:Int)=M:=by rw [wrap64_is];exact hw
 have H:=Lib.hid h
 clear h
 go_enter Tryz.func9,Tryz.ntmps9
 go_wp2
 go_loopw [12] (fun i wr=>SeatRel w R C F M mild i wr) (fun i _=>M - (intOf i).toNat)
 case atStart=>
  exact ⟨0,_,[],Nat.zero_le _,rfl,Grown.alloc (Grown.alloc (Grown.refl _) _ _) _ _,(ten_new _ _ _ _ _ _).grown (Grown.alloc (Grown.refl _) _ _),by have:=ten_new (w.alloc (.cells #[.int .i64 0,.int .i64 0,.int .i64 0,.slice none 0 0] 24)) (.int .i64 R) (.int .i64 C) (.int .i64 F) (.slice none 0 0) 24;simpa using this,World.ownsRow_nil _ _ _ _,fun j hj=>absurd hj (Nat.not_lt_zero _)⟩
 case round=>
  rename World=>wr
  obtain ⟨I,v,xs,hI,rfl,hS⟩:=hrel
  have HS:=Lib.hid hS
  clear hS
  by_cases hlt:I<M
  ·by_cases hz:n=0
   ·subst hz
    obtain ⟨k0,hk0⟩:∃ k0:Int,(I:Int)*2654435761%4294967296=k0:=⟨_,rfl⟩
    have b0:0≤k0:=by omega
    have b1:k0≤4294967295:=by omega
    cases mild
    case true=>
     go_wp2
     obtain ⟨X,hX⟩:∃ X,milI F k0=X:=⟨_,rfl⟩
     have HX:=Lib.hid hX
     have hXb:=mil_bd F k0 b0
     rw [hX] at hXb
     obtain ⟨X0,X1⟩:=hXb
     clear hX
     have y3:wr.cell? ⟨w.heap.size+1,3,none⟩=some v:=HS.out.t.c3
     go_region_law (first
      | (go_simp;go_at_call 18;refine (mild_is F k0 _ b0 b1).mono ?_;rintro e W1 ⟨he,dm,hd⟩;rw [HX.out] at he;subst he;have hW1:Grown wr W1:=grown_trans gr (grown_dn hd);clear hd;replace y3:=grown_cell hW1 y3 HS.out.t.lies;replace HS:=Lib.hid (HS.out.grown hW1);have yA:(W1.alloc (.cells #[.int .u32 X] 29)).cell? ⟨w.heap.size+1,3,none⟩=some v:=grown_cell (Grown.alloc (Grown.refl W1) _ _) y3 HS.out.t.lies;clear hW1)
      | (refine step_append_one rfl _ _ 22 rfl 29 _ _ _ rfl rfl rfl rfl rfl rfl (w.heap.size+2) v I xs rfl (HS.out.own.alloc _) W1.heap.size (.int .u32 X) rfl (by go_simp) rfl (by show I+1≤9223372036854775807;omega) (by show (I+1)*4≤140737488355328;omega) (by have:=HS.out.t.lies;simp;omega) ?_;intro gg cc W8 own8 hb8 hs8 hblk hcell hfr hgr;obtain ⟨t8,hn8⟩:=(HS.out.grown (Grown.alloc (Grown.refl W1) #[.int .u32 X] 29)).next X0 X1 (fun _=>⟨k0,b0,b1,HX.out.symm⟩) own8 hs8 hcell hfr hgr;have HN:=Lib.hid hn8;have y8:=t8.c3;have z8:=t8.z3;clear own8 hb8 hs8 hblk hcell hfr hgr t8 hn8))
     all_goals
      go_wp2
      exact ⟨⟨I+1,_,_,by omega,by go_num,HN.out⟩,by simp [intOf];omega⟩
    case false=>
     go_wp2
     obtain ⟨X,hX⟩:∃ X,numI F k0=X:=⟨_,rfl⟩
     have HX:=Lib.hid hX
     have hXb:=numI_bd F k0 b0 b1
     rw [hX] at hXb
     obtain ⟨X0,X1⟩:=hXb
     clear hX
     have y3:wr.cell? ⟨w.heap.size+1,3,none⟩=some v:=HS.out.t.c3
     go_region_law (first
      | (go_simp;go_at_call 25;refine (num_is F k0 _ b0 b1).mono ?_;rintro e W1 ⟨he,hW1⟩;rw [HX.out] at he;subst he;replace hW1:Grown wr W1:=grown_trans gr hW1;replace y3:=grown_cell hW1 y3 HS.out.t.lies;replace HS:=Lib.hid (HS.out.grown hW1);have yA:(W1.alloc (.cells #[.int .u32 X] 29)).cell? ⟨w.heap.size+1,3,none⟩=some v:=grown_cell (Grown.alloc (Grown.refl W1) _ _) y3 HS.out.t.lies;clear hW1)
      | (refine step_append_one rfl _ _ 22 rfl 29 _ _ _ rfl rfl rfl rfl rfl rfl (w.heap.size+2) v I xs rfl (HS.out.own.alloc _) W1.heap.size (.int .u32 X) rfl (by go_simp) rfl (by show I+1≤9223372036854775807;omega) (by show (I+1)*4≤140737488355328;omega) (by have:=HS.out.t.lies;simp;omega) ?_;intro gg cc W8 own8 hb8 hs8 hblk hcell hfr hgr;obtain ⟨t8,hn8⟩:=(HS.out.grown (Grown.alloc (Grown.refl W1) #[.int .u32 X] 29)).next X0 X1 (fun e=>absurd e (by decide)) own8 hs8 hcell hfr hgr;have HN:=Lib.hid hn8;have y8:=t8.c3;have z8:=t8.z3;clear own8 hb8 hs8 hblk hcell hfr hgr t8 hn8))
     all_goals
      go_wp2
      exact ⟨⟨I+1,_,_,by omega,by go_num,HN.out⟩,by simp [intOf];omega⟩
   ·obtain ⟨b,off,rfl,hl,hc⟩:∃ b off,ad=some ⟨b,off,none⟩∧b<w.heap.size∧∀ i,i<n→w.cell? ⟨b,off+i,none⟩=some (.int .u32 (g i)):=by
     rcases H.out.2 with h | h
     ·exact absurd h hz
     ·exact h
    obtain ⟨J,hJe⟩:∃ J,I%n=J:=⟨_,rfl⟩
    have hJ:J<n:=by rw [←hJe];exact Nat.mod_lt _ (by omega)
    have hrem:Int.tmod (I:Int) (n:Int)=(J:Int):=by rw [←hJe];exact (Int.ofNat_tmod I n).symm
    obtain ⟨Qn,hQe⟩:∃ Qn,I / n=Qn:=⟨_,rfl⟩
    have hQ:Qn≤4096:=by rw [←hQe];exact Nat.le_trans (Nat.div_le_self _ _) (by omega)
    have hquo:Int.tdiv (I:Int) (n:Int)=(Qn:Int):=by rw [←hQe];exact (Int.ofNat_tdiv I n).symm
    have hnz:¬(n:Int)=0:=by omega
    have y:=grown_cell HS.out.g (hc J hJ) hl
    obtain ⟨x0,x1⟩:=H.out.1 J hJ
    obtain ⟨x,hx⟩:∃ x,g J=x:=⟨_,rfl⟩
    rw [hx] at y x0 x1
    clear hc hx hJe hQe
    obtain ⟨k0,hk0⟩:∃ k0:Int,(x+(Qn:Int)*40503)%4294967296=k0:=⟨_,rfl⟩
    have b0:0≤k0:=by omega
    have b1:k0≤4294967295:=by omega
    cases mild
    case true=>
     go_wp2
     go_quiet (fail)
     go_wp2
     obtain ⟨X,hX⟩:∃ X,milI F k0=X:=⟨_,rfl⟩
     have HX:=Lib.hid hX
     have hXb:=mil_bd F k0 b0
     rw [hX] at hXb
     obtain ⟨X0,X1⟩:=hXb
     clear hX
     have y3:wr.cell? ⟨w.heap.size+1,3,none⟩=some v:=HS.out.t.c3
     go_region_law (first
      | (go_simp;go_at_call 18;refine (mild_is F k0 _ b0 b1).mono ?_;rintro e W1 ⟨he,dm,hd⟩;rw [HX.out] at he;subst he;have hW1:Grown wr W1:=grown_trans gr (grown_dn hd);clear hd;replace y3:=grown_cell hW1 y3 HS.out.t.lies;replace HS:=Lib.hid (HS.out.grown hW1);have yA:(W1.alloc (.cells #[.int .u32 X] 29)).cell? ⟨w.heap.size+1,3,none⟩=some v:=grown_cell (Grown.alloc (Grown.refl W1) _ _) y3 HS.out.t.lies;clear hW1)
      | (refine step_append_one rfl _ _ 22 rfl 29 _ _ _ rfl rfl rfl rfl rfl rfl (w.heap.size+2) v I xs rfl (HS.out.own.alloc _) W1.heap.size (.int .u32 X) rfl (by go_simp) rfl (by show I+1≤9223372036854775807;omega) (by show (I+1)*4≤140737488355328;omega) (by have:=HS.out.t.lies;simp;omega) ?_;intro gg cc W8 own8 hb8 hs8 hblk hcell hfr hgr;obtain ⟨t8,hn8⟩:=(HS.out.grown (Grown.alloc (Grown.refl W1) #[.int .u32 X] 29)).next X0 X1 (fun _=>⟨k0,b0,b1,HX.out.symm⟩) own8 hs8 hcell hfr hgr;have HN:=Lib.hid hn8;have y8:=t8.c3;have z8:=t8.z3;clear own8 hb8 hs8 hblk hcell hfr hgr t8 hn8))
     all_goals
      go_wp2
      exact ⟨⟨I+1,_,_,by omega,by go_num,HN.out⟩,by simp [intOf];omega⟩
    case false=>
     go_wp2
     go_quiet (fail)
     go_wp2
     obtain ⟨X,hX⟩:∃ X,numI F k0=X:=⟨_,rfl⟩
     have HX:=Lib.hid hX
     have hXb:=numI_bd F k0 b0 b1
     rw [hX] at hXb
     obtain ⟨X0,X1⟩:=hXb
     clear hX
     have y3:wr.cell? ⟨w.heap.size+1,3,none⟩=some v:=HS.out.t.c3
     go_region_law (first
      | (go_simp;go_at_call 25;refine (num_is F k0 _ b0 b1).mono ?_;rintro e W1 ⟨he,hW1⟩;rw [HX.out] at he;subst he;replace hW1:Grown wr W1:=grown_trans gr hW1;replace y3:=grown_cell hW1 y3 HS.out.t.lies;replace HS:=Lib.hid (HS.out.grown hW1);have yA:(W1.alloc (.cells #[.int .u32 X] 29)).cell? ⟨w.heap.size+1,3,none⟩=some v:=grown_cell (Grown.alloc (Grown.refl W1) _ _) y3 HS.out.t.lies;clear hW1)
      | (refine step_append_one rfl _ _ 22 rfl 29 _ _ _ rfl rfl rfl rfl rfl rfl (w.heap.size+2) v I xs rfl (HS.out.own.alloc _) W1.heap.size (.int .u32 X) rfl (by go_simp) rfl (by show I+1≤9223372036854775807;omega) (by show (I+1)*4≤140737488355328;omega) (by have:=HS.out.t.lies;simp;omega) ?_;intro gg cc W8 own8 hb8 hs8 hblk hcell hfr hgr;obtain ⟨t8,hn8⟩:=(HS.out.grown (Grown.alloc (Grown.refl W1) #[.int .u32 X] 29)).next X0 X1 (fun e=>absurd e (by decide)) own8 hs8 hcell hfr hgr;have HN:=Lib.hid hn8;have y8:=t8.c3;have z8:=t8.z3;clear own8 hb8 hs8 hblk hcell hfr hgr t8 hn8))
     all_goals
      go_wp2
      exact ⟨⟨I+1,_,_,by omega,by go_num,HN.out⟩,by simp [intOf];omega⟩
  ·obtain rfl:I=M:=by omega
   obtain ⟨ad',c',rfl,hr,hf,hmd,hsd⟩:=HS.out.told
   have HSD:=Lib.hid hsd
   have HR:=Lib.hid hr
   have HF:=Lib.hid hf
   have HD:=Lib.hid hmd
   clear hr hf hmd hsd
   obtain ⟨p0,p1,p2,p3,p4,_,_,_,_⟩:=HS.out.t
   obtain ⟨q0,q1,q2,q3,q4,q5,q6,q7,q8⟩:=HS.out.res
   have HG:=Lib.hid HS.out.g
   go_wp2
   (try simp only [Exit.inBlock,Exit.then])
   refine bodyPost_ret (v:=.agg #[.int .i64 R,.int .i64 C,.int .i64 F,.slice ad' I c']) ?_ rfl ⟨ad',c',rowG xs,rfl,?_,(fun x hx=>by have:=HF.out x hx;omega),?_,HD.out,HSD.out⟩
   ·rw [results_one rfl]
    go_simp
   ·have hoff:∀ x,ad'=some x→x.block≠w.heap.size:=fun x hx=>by have:=HF.out x hx;omega
    exact (((HR.out.set (a:=⟨w.heap.size,0,none⟩) hoff _).set (a:=⟨w.heap.size,1,none⟩) hoff _).set (a:=⟨w.heap.size,2,none⟩) hoff _).set (a:=⟨w.heap.size,3,none⟩) hoff _
   ·exact gr
end Go.Proofs.YteifobleigfbaaaGreat
