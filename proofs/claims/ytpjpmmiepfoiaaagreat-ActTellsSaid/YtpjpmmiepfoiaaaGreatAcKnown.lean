/- What the laws of package act ask ahead of all. -/
import Derived.Test.YtpjpmmiepfoiaaaGreatActB
import Derived.Test.YtpjpmmiepfoiaaaGreatFrame
namespace Go.Proofs.YtpjpmmiepfoiaaaGreat
open Go Go.RowKit
set_option linter.unusedVariables false
set_option linter.unusedSimpArgs false

def k15A:PT:=⟨1,2,0,2,fun i=>[48128,15360].getD i 0⟩

theorem k15_vals:forX 1 k15A=0∧(forT 1 k15A).R=1∧(forT 1 k15A).C=2∧(forT 1 k15A).F=0∧(forT 1 k15A).n=2∧(forT 1 k15A).g 0=0∧(forT 1 k15A).g 1=15360
  ∧ forX 9 ⟨1,2,0,2,(forT 1 k15A).g⟩=22∧sloA 0 5=1065353216:=by
 refine ⟨?_,?_,?_,?_,?_,?_,?_,?_,?_⟩ <;> kernel_rfl

set_option maxRecDepth 100000 in
set_option maxHeartbeats 4000000 in
theorem known15_any (w:World):Calls Tryz.prog 8 #[] w fun e w'=>e=.returned (.bool true)∧Grown w w':=by
 obtain ⟨v1,v2,v3,v4,v5,v6,v7,v8,v9⟩:=k15_vals
 have V1:=Lib.hid v1
 have V2:=Lib.hid v2
 have V3:=Lib.hid v3
 have V4:=Lib.hid v4
 have V5:=Lib.hid v5
 have V6:=Lib.hid v6
 have V7:=Lib.hid v7
 have V8:=Lib.hid v8
 have V9:=Lib.hid v9
 clear v1 v2 v3 v4 v5 v6 v7 v8 v9
 go_enter Tryz.func8,Tryz.ntmps8
 go_wp2_with fail
 refine (aforward_any 1 1 2 0 _ 2 2 (fun i=>[48128,15360].getD i 0) _ (by decide) (reads_lit w [48128,15360] 25 2 _ rfl (by decide) rfl)).mono ?_
 show ∀ e w',TenO (forT 1 k15A) (forX 1 k15A) _ e w'→_
 rintro e W1 ⟨xd,xc,he,hO,hB,hn,hW⟩
 rw [V1.out,V2.out,V3.out,V4.out,V5.out] at he
 subst he
 rw [V5.out] at hO hB
 have HR:=Lib.hid (hO.reads hB)
 have HG:=Lib.hid (show Grown w W1 from grown_trans gr hW)
 clear hO hB hn hW
 generalize (forT 1 k15A).g=g1 at V6 V7 V8 HR
 have HT:=Lib.hid (ten_new W1 (.int .i64 1) (.int .i64 2) (.int .i64 0) (.slice xd 2 xc) 24)
 replace HR:=Lib.hid (HR.out.grown (show Grown W1 (W1.alloc (.cells #[.int .i64 1,.int .i64 2,.int .i64 0,.slice xd 2 xc] 24)) from gr))
 replace HG:=Lib.hid (show Grown w (W1.alloc (.cells #[.int .i64 1,.int .i64 2,.int .i64 0,.slice xd 2 xc] 24)) from gr)
 go_wp2_with fail
 generalize W1.alloc _=U1 at HT HR HG ⊢
 generalize W1.heap.size=o1 at HT ⊢
 refine (aforward_any 9 1 2 0 xd 2 xc g1 _ (by decide) HR.out).mono ?_
 rw [V8.out]
 generalize forT 9 ⟨1,2,0,2,g1⟩=tB
 rintro e W2 ⟨yd,yc,rfl,-,-,-,hW⟩
 replace HT:=Lib.hid (HT.out.grown hW)
 replace HR:=Lib.hid (HR.out.grown hW)
 replace HG:=Lib.hid (grown_trans HG.out hW)
 clear hW
 replace HT:=Lib.hid (HT.out.grown (show Grown W2 (W2.alloc (.cells #[.int .i64 tB.R,.int .i64 tB.C,.int .i64 tB.F,.slice yd tB.n yc] 24)) from gr))
 replace HR:=Lib.hid (HR.out.grown (show Grown W2 (W2.alloc (.cells #[.int .i64 tB.R,.int .i64 tB.C,.int .i64 tB.F,.slice yd tB.n yc] 24)) from gr))
 replace HG:=Lib.hid (show Grown w (W2.alloc (.cells #[.int .i64 tB.R,.int .i64 tB.C,.int .i64 tB.F,.slice yd tB.n yc] 24)) from gr)
 obtain ⟨b,off,rfl,hl,hc⟩:∃ b off,xd=some ⟨b,off,none⟩∧b<(W2.alloc (.cells #[.int .i64 tB.R,.int .i64 tB.C,.int .i64 tB.F,.slice yd tB.n yc] 24)).heap.size∧∀ i,i<2→(W2.alloc (.cells #[.int .i64 tB.R,.int .i64 tB.C,.int .i64 tB.F,.slice yd tB.n yc] 24)).cell? ⟨b,off+i,none⟩=some (.int .u32 (g1 i)):=by
  rcases HR.out.2 with h | h
  ·exact absurd h (by decide)
  ·exact h
 have y0:=hc 0 (by decide)
 have y1:=hc 1 (by decide)
 rw [V6.out,Nat.add_zero] at y0
 rw [V7.out] at y1
 obtain ⟨p0,p1,p2,p3,p4,-,-,-,-⟩:=HT.out
 clear hc HR HT
 go_wp2_with fail
 refine (aslope_any 0 5 _ (by decide) (by decide)).mono ?_
 rw [V9.out]
 rintro e W3 ⟨rfl,hW⟩
 replace HG:=Lib.hid (show Grown w W3 from grown_trans gr hW)
 clear hW p0 p1 p2 p3 p4 y0 y1 hl
 go_wp2
 go_ret
 exact ⟨rfl,HG.out⟩
end Go.Proofs.YtpjpmmiepfoiaaaGreat
