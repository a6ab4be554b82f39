/- The contracts of annealref13's activations, their ways back, masks. (Written by gen56.py.) -/
import Derived.Test.YtpjpmmiepfoiaaaGreatActM
import Derived.Test.YtpjpmmiepfoiaaaGreatRKern
import Derived.Test.YtpjpmmiepfoiaaaGreatRFun
namespace Go.Proofs.YtpjpmmiepfoiaaaGreat
open Go Go.RowKit
set_option linter.unusedVariables false
set_option linter.unusedSimpArgs false

theorem ract_any (k:Int) (w:World):Calls Tryz.prog 44 #[.int .i64 k] w fun e w'=>e=.returned (.bool (actB k))∧w=w':=by
 unfold actB
 by_cases h0:0≤k
 ·by_cases h3:k≤3
  ·rw [decide_eq_true ⟨h0,h3⟩]
   go_enter Tryz.func44,Tryz.ntmps44
   go_wp2
   go_ret
   exact ⟨rfl,rfl⟩
  ·rw [decide_eq_false (fun h=>h3 h.2)]
   go_enter Tryz.func44,Tryz.ntmps44
   go_wp2
   go_ret
   exact ⟨rfl,rfl⟩
 ·rw [decide_eq_false (fun h=>h0 h.1)]
  go_enter Tryz.func44,Tryz.ntmps44
  go_wp2
  go_ret
  exact ⟨rfl,rfl⟩

set_option maxHeartbeats 1000000 in
theorem rvalue_any (k x:Int) (w:World) (x0:0≤x) (x1:x≤4294967295):
  Calls Tryz.prog 14 #[.int .i64 k,.int .u32 x] w fun e w'=>e=.returned (.int .u32 (valA k x))∧Grown w w':=by
 have nan2:nanI 2=2143289344:=by decide
 rcases kind_five k with rfl | rfl | rfl | rfl | ⟨c0,c1,c2,c3⟩
 ·go_enter Tryz.func14,Tryz.ntmps14
  go_wp2
  go_ret
  exact ⟨rfl,Grown.refl _⟩
 ·have HV:=Lib.hid (show valA 1 x=if nanB 2 x then 2143289344 else if lesB 2 0 x then x else 0 from rfl)
  cases hn:nanB 2 x
  ·have K1:=Lib.hid (show Ending.returned (.bool (nanB 2 x))=.returned (.bool false) by rw [hn])
   cases hl:lesB 2 0 x
   all_goals
    rw [hn,hl] at HV
    have K2:=Lib.hid (show Ending.returned (.bool (lesB 2 0 x))=.returned (.bool _) from by rw [hl])
    clear hn hl
    go_enter Tryz.func14,Tryz.ntmps14
    go_wp2_with fail
    refine (nnan_any x _ x0 x1).mono ?_
    rintro e W1 ⟨he,hW1⟩
    rw [K1.out] at he
    subst he
    go_wp2_with fail
    refine (nabo_any x 0 _ x0 x1 (by decide) (by decide)).mono ?_
    rintro e W2 ⟨he,hW2⟩
    rw [K2.out] at he
    subst he
    go_wp2
    go_ret
    exact ⟨by rw [HV.out];rfl,grown_trans hW1 hW2⟩
  ·have K1:=Lib.hid (show Ending.returned (.bool (nanB 2 x))=.returned (.bool true) by rw [hn])
   rw [hn] at HV
   clear hn
   go_enter Tryz.func14,Tryz.ntmps14
   go_wp2_with fail
   refine (nnan_any x _ x0 x1).mono ?_
   rintro e W1 ⟨he,hW1⟩
   rw [K1.out] at he
   subst he
   go_wp2_with fail
   refine (rnan_any _ _).mono ?_
   rintro e W2 ⟨rfl,dm,hd⟩
   have HG:=Lib.hid (grown_trans hW1 (grown_dn hd))
   clear hW1 hd
   rw [nan2]
   go_wp2
   go_ret
   exact ⟨by rw [HV.out];rfl,HG.out⟩
 ·have HV:=Lib.hid (show valA 2 x=tanI x from rfl)
  go_enter Tryz.func14,Tryz.ntmps14
  go_wp2_with fail
  refine (ntan_any x _ x0 x1).mono ?_
  rintro e W1 ⟨rfl,-,-,hW1⟩
  have HG:=Lib.hid hW1
  clear hW1
  go_wp2
  go_ret
  exact ⟨by rw [HV.out];first | done | rfl,HG.out⟩
 ·have HV:=Lib.hid (show valA 3 x=gelI x from rfl)
  go_enter Tryz.func14,Tryz.ntmps14
  go_wp2_with fail
  refine (ngel_any x _ x0 x1).mono ?_
  rintro e W1 ⟨rfl,-,-,hW1⟩
  have HG:=Lib.hid hW1
  clear hW1
  go_wp2
  go_ret
  exact ⟨by rw [HV.out];first | done | rfl,HG.out⟩
 ·have HV:=Lib.hid (show valA k x=2143289344 by unfold valA;rw [if_neg c0,if_neg c1,if_neg c2,if_neg c3])
  have e0:(k==0)=false:=by simp [c0]
  have e1:(k==1)=false:=by simp [c1]
  have e2:(k==2)=false:=by simp [c2]
  have e3:(k==3)=false:=by simp [c3]
  go_enter Tryz.func14,Tryz.ntmps14
  go_wp2_with fail
  refine (rnan_any _ _).mono ?_
  rintro e W2 ⟨rfl,dm,hd⟩
  have HG:=Lib.hid (grown_dn hd)
  clear hd
  rw [nan2]
  go_wp2
  go_ret
  exact ⟨by rw [HV.out];first | done | rfl,HG.out⟩

set_option maxHeartbeats 1000000 in
theorem rslope_any (k x:Int) (w:World) (x0:0≤x) (x1:x≤4294967295):
  Calls Tryz.prog 16 #[.int .i64 k,.int .u32 x] w fun e w'=>e=.returned (.int .u32 (sloA k x))∧Grown w w':=by
 have nan2:nanI 2=2143289344:=by decide
 rcases kind_five k with rfl | rfl | rfl | rfl | ⟨c0,c1,c2,c3⟩
 ·go_enter Tryz.func16,Tryz.ntmps16
  go_wp2
  go_ret
  exact ⟨rfl,Grown.refl _⟩
 ·have HV:=Lib.hid (show sloA 1 x=if lesB 2 0 x then 1065353216 else 0 from rfl)
  cases hl:lesB 2 0 x
  all_goals
   rw [hl] at HV
   have K2:=Lib.hid (show Ending.returned (.bool (lesB 2 0 x))=.returned (.bool _) from by rw [hl])
   clear hl
   go_enter Tryz.func16,Tryz.ntmps16
   go_wp2_with fail
   refine (nabo_any x 0 _ x0 x1 (by decide) (by decide)).mono ?_
   rintro e W2 ⟨he,hW2⟩
   rw [K2.out] at he
   subst he
   go_wp2
   go_ret
   exact ⟨by rw [HV.out];rfl,hW2⟩
 ·have HV:=Lib.hid (show sloA 2 x=subV 1065353216 (mulV (tanI x) (tanI x)) from rfl)
  go_enter Tryz.func16,Tryz.ntmps16
  go_wp2_with fail
  refine (ntan_any x _ x0 x1).mono ?_
  rintro e W1 ⟨rfl,t0,t1,hW1⟩
  generalize tanI x=t at HV t0 t1 ⊢
  go_wp2_with fail
  refine (nmul_any t t _ t0 t1 t0 t1).mono ?_
  rintro e W2 ⟨rfl,m0,m1,hW2⟩
  generalize mulV t t=m at HV m0 m1 ⊢
  go_wp2_with fail
  refine (nsub_any 1065353216 m _ (by decide) (by decide) m0 m1).mono ?_
  rintro e W3 ⟨rfl,-,-,hW3⟩
  have HG:=Lib.hid (grown_trans hW1 (grown_trans hW2 hW3))
  clear hW1 hW2 hW3
  go_wp2
  go_ret
  exact ⟨by rw [HV.out];first | done | rfl,HG.out⟩
 ·have HV:=Lib.hid (show sloA 3 x=sloI x from rfl)
  go_enter Tryz.func16,Tryz.ntmps16
  go_wp2_with fail
  refine (nslo_any x _ x0 x1).mono ?_
  rintro e W1 ⟨rfl,-,-,hW1⟩
  have HG:=Lib.hid hW1
  clear hW1
  go_wp2
  go_ret
  exact ⟨by rw [HV.out];first | done | rfl,HG.out⟩
 ·have HV:=Lib.hid (show sloA k x=2143289344 by unfold sloA;rw [if_neg c0,if_neg c1,if_neg c2,if_neg c3])
  have e0:(k==0)=false:=by simp [c0]
  have e1:(k==1)=false:=by simp [c1]
  have e2:(k==2)=false:=by simp [c2]
  have e3:(k==3)=false:=by simp [c3]
  go_enter Tryz.func16,Tryz.ntmps16
  go_wp2_with fail
  refine (rnan_any _ _).mono ?_
  rintro e W2 ⟨rfl,dm,hd⟩
  have HG:=Lib.hid (grown_dn hd)
  clear hd
  rw [nan2]
  go_wp2
  go_ret
  exact ⟨by rw [HV.out];first | done | rfl,HG.out⟩
end Go.Proofs.YtpjpmmiepfoiaaaGreat
