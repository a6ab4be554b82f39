/- The walk of ActMasks. -/
import Derived.Test.YtpjpmmiepfoiaaaGreatAcKnown
import Derived.Test.YtpjpmmiepfoiaaaGreatAcMath
import Derived.Test.YtpjpmmiepfoiaaaGreatRMask
import Derived.Deep.RegionHeld3
namespace Go.Proofs.YtpjpmmiepfoiaaaGreat
open Go Go.RowKit
set_option linter.unusedVariables false
set_option linter.unusedSimpArgs false

def IntsAt (b n:Nat) (W:World):Prop:=b<W.heap.size∧∀ j,j<n→∃ x:Int,W.cell? ⟨b,j,none⟩=some (.int .i64 x)

theorem IntsAt.grown {b n:Nat} {W W':World} (h:IntsAt b n W) (g:Grown W W'):IntsAt b n W':=
 ⟨Nat.lt_of_lt_of_le h.1 g.2.2,fun j hj=>by obtain ⟨x,hx⟩:=h.2 j hj;exact ⟨x,grown_cell g hx h.1⟩⟩

def Stay.ints (b n:Nat):Stay:=⟨IntsAt b n,fun h k=>h.grown k⟩

theorem Lot.ints {fs:List Stay} {W:World} (h:Lot fs W) (i:Nat) {b n:Nat} (e:fs[i]?=some (Stay.ints b n)):IntsAt b n W:=h.at i e

theorem ints_new {W:World} {a b c d e f:Int} {t:TypeId}:IntsAt W.heap.size 6 (W.alloc (.cells #[.int .i64 a,.int .i64 b,.int .i64 c,.int .i64 d,.int .i64 e,.int .i64 f] t)):=by
 refine ⟨by simp,fun j hj=>?_⟩
 rw [World.cell?_alloc_at (hn:=rfl)]
 rcases (show j=0∨j=1∨j=2∨j=3∨j=4∨j=5 by omega) with rfl | rfl | rfl | rfl | rfl | rfl <;> exact ⟨_,rfl⟩

def Stay.holds (b n:Nat):Stay:=⟨Holds .u32 n 0 4294967295 b,fun h k=>h.grown k⟩

theorem Lot.holds {fs:List Stay} {W:World} (h:Lot fs W) (i:Nat) {b n:Nat} (e:fs[i]?=some (Stay.holds b n)):Holds .u32 n 0 4294967295 b W:=h.at i e

theorem holds_three {W:World} {a b c:Int} {t:TypeId} (ha:0≤a∧a≤4294967295) (hb:0≤b∧b≤4294967295) (hc:0≤c∧c≤4294967295):Holds .u32 3 0 4294967295 W.heap.size (W.alloc (.cells #[.int .u32 a,.int .u32 b,.int .u32 c] t)):=
 Holds.new rfl (by
  intro v hv
  simp only [List.mem_cons,List.not_mem_nil,or_false] at hv
  rcases hv with rfl | rfl | rfl
  ·exact ⟨_,rfl,ha⟩
  ·exact ⟨_,rfl,hb⟩
  ·exact ⟨_,rfl,hc⟩)

set_option maxRecDepth 100000 in
set_option maxHeartbeats 8000000 in
theorem amasks_walk (w:World) (rows cols r c drop seed stream:Int) (hrows:-9223372036854775808≤rows∧rows≤9223372036854775807) (hcols:-9223372036854775808≤cols∧cols≤9223372036854775807) (hr:0≤r∧r≤255) (hc:0≤c∧c≤255) (hd:0≤drop∧drop≤4294967295) (hs:0≤seed∧seed≤18446744073709551615) (ht:0≤stream∧stream≤4294967295):
  Calls Tryz.prog 4 #[.int .i64 rows,.int .i64 cols,.int .u8 r,.int .u8 c,.int .u32 drop,.int .u64 seed,.int .u32 stream] w fun e w'=>e=.returned (.bool true)∧Grown w w':=by
 obtain ⟨d0,d1⟩:=hd
 obtain ⟨s0,s1⟩:=hs
 obtain ⟨t0,t1⟩:=ht
 obtain ⟨D,hD⟩:∃ D,drop / 2=D:=⟨_,rfl⟩
 have hD0:0≤D:=by omega
 have hD1:D≤4294967295:=by omega
 go_enter Tryz.func4,Tryz.ntmps4
 go_wp2_with fail
 refine (known15_any _).mono ?_
 rintro e W1 ⟨rfl,hW1⟩
 have HG:=Lib.hid hW1
 clear hW1
 go_wp2_with fail
 generalize hW2:W1.alloc _=W2
 have HL:Hid (Lot [.ints W1.heap.size 6,.gr w] W2):=by
  rw [←hW2]
  exact Lib.hid ((((Lot.nil W1).add (f:=.gr w) HG.out).grown (Grown.alloc (Grown.refl W1) _ _)).add (f:=.ints W1.heap.size 6) ints_new)
 clear hW2
 generalize W1.heap.size=PB at HL ⊢
 clear HG
 go_loopw [37] (fun i wr=>∃ I:Nat,I≤3∧i=.int .i64 I∧Hid (Lot [.ints PB 6,.gr w] wr)) (fun i _=>(3 - intOf i).toNat)
 case atStart=>exact ⟨0,by omega,rfl,HL⟩
 case round=>
  rename World=>wr1
  clear HL
  obtain ⟨I,hI,rfl,HL⟩:=hrel
  by_cases hI3:(I:Int)<3
  ·obtain ⟨R,z0⟩:=(HL.out.ints 0 rfl).2 (I*2) (by omega)
   obtain ⟨C,z1⟩:=(HL.out.ints 0 rfl).2 (I*2+1) (by omega)
   have zl:=(HL.out.ints 0 rfl).1
   go_wp2_with fail
   clear z0 z1 zl
   have HK:=Lib.hid (((((((Lot.nil wr1).add (f:=.gr w) (HL.out.gr 1 rfl)).add (f:=.ints PB 6) (HL.out.ints 0 rfl)).grown (Grown.alloc (Grown.refl wr1) #[.int .i64 R,.int .i64 C] 43)).add (f:=.cell wr1.heap.size 1 (.int .i64 C)) (cell_new rfl)).add (f:=.cell wr1.heap.size 0 (.int .i64 R)) (cell_new rfl)).grown (Grown.alloc (Grown.refl _) #[.int .u32 drop,.int .u32 D,.int .u32 0] 25))
   replace HK:=Lib.hid (HK.out.add (f:=.holds (wr1.heap.size+1) 3) (by have:=holds_three (W:=wr1.alloc (.cells #[.int .i64 R,.int .i64 C] 43)) (t:=25) ⟨d0,d1⟩ ⟨hD0,hD1⟩ (show (0:Int)≤0∧(0:Int)≤4294967295 by decide);simp only [World.size_alloc] at this;exact this))
   clear HL
   generalize (wr1.alloc _).alloc _=W3 at HK ⊢
   generalize wr1.heap.size=q at HK ⊢
   go_loopw [46] (fun i wr=>∃ J:Nat,J≤3∧i=.int .i64 J∧Hid (Lot [.holds (q+1) 3,.cell q 0 (.int .i64 R),.cell q 1 (.int .i64 C),.ints PB 6,.gr w] wr)) (fun i _=>(3 - intOf i).toNat)
   case atStart=>exact ⟨0,by omega,rfl,HK⟩
   case round=>
    rename World=>wr2
    clear HK
    obtain ⟨J,hJ,rfl,HK⟩:=hrel
    by_cases hJ3:(J:Int)<3
    ·obtain ⟨d,z2,e0,e1⟩:=(HK.out.holds 0 rfl).2 J (by omega)
     have zl:=(HK.out.holds 0 rfl).1
     have y0:=HK.out.cell 1 rfl
     have y1:=HK.out.cell 2 rfl
     have l0:=HK.out.lies 1 rfl
     obtain ⟨T,hT⟩:∃ T,masT R C d seed stream=T:=⟨_,rfl⟩
     have HT:=Lib.hid hT
     have HN:=Lib.hid (Lot.nil wr2.drew)
     clear hT
     go_wp2_with fail
     go_region_held3 (fun w'=>w'.cell? ⟨q,0,none⟩=some (.int .i64 R)∧w'.cell? ⟨q,1,none⟩=some (.int .i64 C)) (go_keep) (first
      | (go_at_call 22;(with_reducible refine (amasks_any R C d seed stream _ e0 e1 s0 s1 t0 t1).mono ?_);rw [HT.out];rintro e V1 ⟨ad,ac,rfl,hR,hn,hW⟩;have Hn:=Lib.hid hn;replace HK:=Lib.hid (HK.out.grown (grown_trans gr hW));replace HN:=Lib.hid ((HN.out.grown hW).add (f:=.rd ad T.n T.g) hR);clear hR hn hW y0 y1 l0;have y0:=HK.out.cell 1 rfl;have y1:=HK.out.cell 2 rfl;have l0:=HK.out.lies 1 rfl)
      | (go_at_call 23;(with_reducible refine (rmasks_any R C d seed stream _ e0 e1 s0 s1 t0 t1).mono ?_);rw [HT.out];rintro e V2 ⟨bd,bc,rfl,hR,-,hW⟩;replace HK:=Lib.hid (HK.out.grown hW);replace HN:=Lib.hid ((HN.out.grown hW).add (f:=.rd bd T.n T.g) hR);clear hR hW y0 y1 l0;have y0:=HK.out.cell 1 rfl;have y1:=HK.out.cell 2 rfl;have l0:=HK.out.lies 1 rfl)
      | (go_at_call 21;(with_reducible refine (htensor_any T.R T.C T.F ad bd T.n ac bc T.g _ (by have:=Hn.out;omega) (HN.out.rd 1 rfl) (HN.out.rd 0 rfl)).mono ?_);rintro e V3 ⟨rfl,hW⟩;replace HK:=Lib.hid (HK.out.grown hW);clear hW y0 y1 l0;have y0:=HK.out.cell 1 rfl;have y1:=HK.out.cell 2 rfl;have l0:=HK.out.lies 1 rfl))
     go_wp2
     go_roundw
     case rel=>exact ⟨J+1,by omega,by go_num,Lib.hid (HK.out.grown gr)⟩
     case measure=>simp [intOf];omega
    ·obtain rfl:J=3:=by omega
     go_wp2
     go_roundw
     case rel=>exact ⟨I+1,by omega,by go_num,Lib.hid (fun f hf=>HK.out f (List.mem_cons_of_mem _ (List.mem_cons_of_mem _ (List.mem_cons_of_mem _ hf))))⟩
     case measure=>simp [intOf];omega
  ·obtain rfl:I=3:=by omega
   have HG:=Lib.hid (HL.out.gr 1 rfl)
   go_wp2
   go_ret
   exact ⟨rfl,HG.out⟩

theorem amasks_all (a0:Int) (a1:Int) (a2:Int) (a3:Int) (a4:Int) (a5:Int) (a6:Int) (w0:(Lit.int .i64 a0).wf=true) (w1:(Lit.int .i64 a1).wf=true) (w2:(Lit.int .u8 a2).wf=true) (w3:(Lit.int .u8 a3).wf=true) (w4:(Lit.int .u32 a4).wf=true) (w5:(Lit.int .u64 a5).wf=true) (w6:(Lit.int .u32 a6).wf=true) (w:World):
  Calls Tryz.prog 4 #[.int .i64 a0,.int .i64 a1,.int .u8 a2,.int .u8 a3,.int .u32 a4,.int .u64 a5,.int .u32 a6] w fun e w'=>e=.returned (.bool true)∧Grown w w':=
 amasks_walk w a0 a1 a2 a3 a4 a5 a6 (bounds_i64 w0) (bounds_i64 w1) (bounds_u8 w2) (bounds_u8 w3) (bounds_u32 w4) (bounds_u64 w5) (bounds_u32 w6)
end Go.Proofs.YtpjpmmiepfoiaaaGreat
