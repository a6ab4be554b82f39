/- The walk of ActRelus. -/
import Derived.Test.YtpjpmmiepfoiaaaGreatAcKnown
import Derived.Test.YtpjpmmiepfoiaaaGreatAcMath
import Derived.Test.YtpjpmmiepfoiaaaGreatRFun
namespace Go.Proofs.YtpjpmmiepfoiaaaGreat
open Go Go.RowKit
set_option linter.unusedVariables false
set_option linter.unusedSimpArgs false

set_option maxRecDepth 100000 in
set_option maxHeartbeats 4000000 in
theorem arelus_walk (w:World) (x:Int) (h:0≤x∧x≤4294967295):
  Calls Tryz.prog 5 #[.int .u32 x] w fun e w'=>e=.returned (.bool true)∧Grown w w':=by
 obtain ⟨x0,x1⟩:=h
 obtain ⟨C,hC⟩:∃ C,clsI 2 x=C:=⟨_,rfl⟩
 obtain ⟨V,hV⟩:∃ V,valA 1 x=V:=⟨_,rfl⟩
 obtain ⟨S,hS⟩:∃ S,sloA 1 x=S:=⟨_,rfl⟩
 have r3:=relus_three x x0 x1
 rw [hC,hV,hS] at r3
 have HC:=Lib.hid (show Ending.returned (.int .i64 (clsI 2 x))=.returned (.int .i64 C) by rw [hC])
 have HV:=Lib.hid (show Ending.returned (.int .u32 (valA 1 x))=.returned (.int .u32 V) by rw [hV])
 have HS:=Lib.hid (show Ending.returned (.int .u32 (sloA 1 x))=.returned (.int .u32 S) by rw [hS])
 clear hC hV hS
 rcases r3 with ⟨c1,rfl,rfl⟩ | ⟨c1,c2,rfl,rfl⟩ | ⟨c1,c2,c3,hv,rfl,c4⟩
 ·go_enter Tryz.func5,Tryz.ntmps5
  go_wp2_with fail
  refine (known15_any _).mono ?_
  rintro e W1 ⟨rfl,hW1⟩
  go_wp2_with fail
  refine (rclass_any 2 x _ x0 x1).mono ?_
  rintro e W2 ⟨he,dm,hd⟩
  rw [HC.out] at he
  subst he
  have HG:=Lib.hid (grown_trans hW1 (grown_dn hd))
  clear hW1 hd
  go_wp2_with fail
  refine (avalue_any 1 x _ x0 x1).mono ?_
  rintro e W3 ⟨he,hW⟩
  rw [HV.out] at he
  subst he
  replace HG:=Lib.hid (grown_trans HG.out hW)
  clear hW
  go_wp2_with fail
  refine (aslope_any 1 x _ x0 x1).mono ?_
  rintro e W4 ⟨he,hW⟩
  rw [HS.out] at he
  subst he
  replace HG:=Lib.hid (grown_trans HG.out hW)
  clear hW
  go_wp2
  go_ret
  exact ⟨rfl,HG.out⟩
 ·have c5:¬4≤C:=by omega
  have q1:(x / 2147483648==1)=true∨((x / 2147483648==1)=false∧(C==0)=true):=by
   by_cases c:2147483648≤x
   ·left;rw [beq_iff_eq];omega
   ·right
    refine ⟨by simp only [beq_eq_false_iff_ne,ne_eq];omega,?_⟩
    rcases c2 with h | h
    ·omega
    ·rw [h];rfl
  clear c2
  rcases q1 with q1 | ⟨q1,q2⟩
  all_goals
   go_enter Tryz.func5,Tryz.ntmps5
   go_wp2_with fail
   refine (known15_any _).mono ?_
   rintro e W1 ⟨rfl,hW1⟩
   go_wp2_with fail
   refine (rclass_any 2 x _ x0 x1).mono ?_
   rintro e W2 ⟨he,dm,hd⟩
   rw [HC.out] at he
   subst he
   have HG:=Lib.hid (grown_trans hW1 (grown_dn hd))
   clear hW1 hd
   go_wp2_with fail
   refine (avalue_any 1 x _ x0 x1).mono ?_
   rintro e W3 ⟨he,hW⟩
   rw [HV.out] at he
   subst he
   replace HG:=Lib.hid (grown_trans HG.out hW)
   clear hW
   go_wp2_with fail
   refine (aslope_any 1 x _ x0 x1).mono ?_
   rintro e W4 ⟨he,hW⟩
   rw [HS.out] at he
   subst he
   replace HG:=Lib.hid (grown_trans HG.out hW)
   clear hW
   go_wp2
   go_ret
   exact ⟨rfl,HG.out⟩
 ·rw [hv] at HV
  clear hv
  have c5:¬4≤C:=by omega
  have q1:(x / 2147483648==1)=false:=by simp only [beq_eq_false_iff_ne,ne_eq];omega
  have q2:(C==0)=false:=by simpa using c2
  have HL:=Lib.hid (show Ending.returned (.bool (lesB 2 0 x))=.returned (.bool true) by rw [c4])
  clear c2 c4
  go_enter Tryz.func5,Tryz.ntmps5
  go_wp2_with fail
  refine (known15_any _).mono ?_
  rintro e W1 ⟨rfl,hW1⟩
  go_wp2_with fail
  refine (rclass_any 2 x _ x0 x1).mono ?_
  rintro e W2 ⟨he,dm,hd⟩
  rw [HC.out] at he
  subst he
  have HG:=Lib.hid (grown_trans hW1 (grown_dn hd))
  clear hW1 hd
  go_wp2_with fail
  refine (avalue_any 1 x _ x0 x1).mono ?_
  rintro e W3 ⟨he,hW⟩
  rw [HV.out] at he
  subst he
  replace HG:=Lib.hid (grown_trans HG.out hW)
  clear hW
  go_wp2_with fail
  refine (aslope_any 1 x _ x0 x1).mono ?_
  rintro e W4 ⟨he,hW⟩
  rw [HS.out] at he
  subst he
  replace HG:=Lib.hid (grown_trans HG.out hW)
  clear hW
  go_wp2_with fail
  refine (nabo_any x 0 _ x0 x1 (by decide) (by decide)).mono ?_
  rintro e W5 ⟨he,hW⟩
  rw [HL.out] at he
  subst he
  replace HG:=Lib.hid (grown_trans HG.out hW)
  clear hW
  go_wp2
  go_ret
  exact ⟨rfl,HG.out⟩

theorem arelus_all (a0:Int) (w0:(Lit.int .u32 a0).wf=true) (w:World):Calls Tryz.prog 5 #[.int .u32 a0] w fun e w'=>e=.returned (.bool true)∧Grown w w':=
 arelus_walk w a0 (bounds_u32 w0)
end Go.Proofs.YtpjpmmiepfoiaaaGreat
