/- Contracts of package sum: the sum of two finite ones. (Written by gen5.py.) Contracts of package sum: Add. The contract of the reference's Add. (Written by gen7.py.) Contracts of the differences: package sum's, the reference's. -/
import Derived.Test.YteifobleigfbaaaGreatDict
import Derived.Test.YteifobleigfbaaaGreatRows
import Derived.Test.YteifobleigfbaaaGreatRd
import Derived.Test.YteifobleigfbaaaGreatNans
import Derived.Test.YteifobleigfbaaaGreatWorld
import Derived.Test.YteifobleigfbaaaGreatRFmt
import Derived.Test.YteifobleigfbaaaGreatWide
namespace Go.Proofs.YteifobleigfbaaaGreat
open Go.RowKit
set_option linter.unusedVariables false
set_option linter.unusedSimpArgs false

theorem exc_agg (f mode:Int) (n:Bool) (V:Nat):PackE f mode n V=.returned (.tuple #[.int .u32 (rdV f mode n V),.agg #[.bool false,.bool false,.bool (rdO f mode n V),.bool (rdU f V),.bool (rdX f mode n V)]]):=rfl

set_option maxHeartbeats 400000 in
theorem isNan_any (c:Int) (w:World):
  Calls Tryz.prog 102 #[.int .i64 c] w fun e w'=>e=.returned (.bool (c==4 || c==5))∧w=w':=by
 by_cases h:c=4
 ·subst h
  go_enter Tryz.func102,Tryz.ntmps102
  go_wp2
  go_ret
  exact ⟨rfl,rfl⟩
 ·have hb:(c==4)=false:=by simpa using h
  clear h
  obtain ⟨b5,h5⟩:∃ b5,(c==5)=b5:=⟨_,rfl⟩
  have H5:=Lib.hid h5
  cases b5
  all_goals
   go_enter Tryz.func102,Tryz.ntmps102
   go_wp2
   go_ret
   exact ⟨ret_bool (by rw [H5.out];simp [hb]),rfl⟩

set_option maxHeartbeats 400000 in
theorem sunpack_any (f v:Int) (w:World) (h0:0≤v) (h1:v≤4294967295):
  Calls Tryz.prog 101 #[.int .i64 f,.int .u32 v] w fun e w'=>e=.returned (.agg #[.bool (fS f v),.int .i64 (unE f v),.int .u64 (unM f v)])∧Grown w w':=by
 go_enter Tryz.func101,Tryz.ntmps101
 exact dx_31

set_option maxRecDepth 100000 in
set_option maxHeartbeats 4000000 in
theorem sfin_down (f mode:Int) (n m:Bool) (e1 e2 M1 M2 P Q U:Int) (B:Bool) (w:World) (hc:e2≤e1) (a0:-298≤e1) (a1:e1≤400) (b0:-298≤e2) (b1:e2≤400) (m0:0≤M1) (m1:M1<16777216) (k0:0≤M2) (k1:M2<16777216)
  (hU:(if 32<e1 - e2 then 32 else e1 - e2)=U) (u0:0≤U) (u1:U≤32) (u2:U≤e1 - e2) (hP:IntKind.u64.wrap (M1*2^U.toNat)=P) (p0:0≤P) (p1:P≤1152921504606846975) (HQ:Hid (shV M2 (e1 - U - e2)=Q)) (HB:Hid (shO M2 (e1 - U - e2)=B)) (q0:0≤Q) (q1:Q<16777216) (room:B=true→Q+1≤P):
  Calls Tryz.prog 105 #[.int .i64 f,.int .i64 mode,.agg #[.bool n,.int .i64 e1,.int .u64 M1],.agg #[.bool m,.int .i64 e2,.int .u64 M2]] w fun e w'=>e=fuE f mode n m P Q (e1 - U) B∧Grown w w':=by
 have HR:=Lib.hid room
 clear room
 have HE:=Lib.hid (exc_new ((w.alloc (.cells #[.bool n,.int .i64 e1,.int .u64 M1] 102)).alloc (.cells #[.bool m,.int .i64 e2,.int .u64 M2] 102)) 75)
 have HG:=Lib.hid (Grown.alloc (Grown.alloc (Grown.alloc (Grown.refl w) #[.bool n,.int .i64 e1,.int .u64 M1] 102) #[.bool m,.int .i64 e2,.int .u64 M2] 102) #[.bool false,.bool false,.bool false,.bool false,.bool false] 75)
 rw [show ((w.alloc (.cells #[.bool n,.int .i64 e1,.int .u64 M1] 102)).alloc (.cells #[.bool m,.int .i64 e2,.int .u64 M2] 102)).heap.size=w.heap.size+1+1 by simp] at HE
 by_cases hs:n=m
 ·subst hs
  have hnn:(n==n)=true:=by simp
  go_enter Tryz.func105,Tryz.ntmps105
  go_wp2_with (first
    | (go_at_call 148;refine (shift_any _ _ _ (by omega) (by omega) (by omega) (by omega)).mono ?_;rintro e w' ⟨he,mm,rfl⟩;rw [HQ.out,HB.out] at he;subst he)
    | (go_at_call 122;refine (zero_any _ _ _).mono ?_;rintro e w' ⟨rfl,rfl⟩)
    | (go_at_call 97;refine (pack_any _ _ _ _ _ _ _ (by omega) (by omega) (by omega) (by omega)).mono ?_;rintro e W3 ⟨he,hW3⟩;rw [exc_agg] at he;subst he;have HW3:=Lib.hid hW3;clear hW3;have HG3:=Lib.hid (grown_trans HG.out (grown_trans (grown_drewN _ _) HW3.out));obtain ⟨xb,x0,x1,x2,x3,x4,z0,z1,z2,z3,z4⟩:=HE.out.grown (grown_trans (grown_drewN _ _) HW3.out)))
  (try simp only [Exit.inBlock,Exit.then])
  refine bodyPost_ret ?_ rfl ⟨(packE_is _ _ _ _).trans (fu_like f mode n P Q (e1 - U) B).symm,?_⟩
  ·rw [results_tmp_cell rfl]
   go_simp
  ·repeat refine Grown.setCell ?_ (by simp <;> omega) _
   exact HG3.out
 ·have HS:=Lib.hid hs
  have hnn:(n==m)=false:=by simpa using hs
  clear hs
  cases B
  ·clear HR
   rcases Int.lt_trichotomy P Q with hpq | hpq | hpq
   ·go_enter Tryz.func105,Tryz.ntmps105
    go_wp2_with (first
      | (go_at_call 148;refine (shift_any _ _ _ (by omega) (by omega) (by omega) (by omega)).mono ?_;rintro e w' ⟨he,mm,rfl⟩;rw [HQ.out,HB.out] at he;subst he)
      | (go_at_call 122;refine (zero_any _ _ _).mono ?_;rintro e w' ⟨rfl,rfl⟩)
      | (go_at_call 97;refine (pack_any _ _ _ _ _ _ _ (by omega) (by omega) (by omega) (by omega)).mono ?_;rintro e W3 ⟨he,hW3⟩;rw [exc_agg] at he;subst he;have HW3:=Lib.hid hW3;clear hW3;have HG3:=Lib.hid (grown_trans HG.out (grown_trans (grown_drewN _ _) HW3.out));obtain ⟨xb,x0,x1,x2,x3,x4,z0,z1,z2,z3,z4⟩:=HE.out.grown (grown_trans (grown_drewN _ _) HW3.out)))
    (try simp only [Exit.inBlock,Exit.then])
    refine bodyPost_ret ?_ rfl ⟨(packE_is _ _ _ _).trans (fu_up f mode n m P Q (e1 - U) HS.out hpq).symm,?_⟩
    ·rw [results_tmp_cell rfl]
     go_simp
    ·repeat refine Grown.setCell ?_ (by simp <;> omega) _
     exact HG3.out
   ·subst hpq
    go_enter Tryz.func105,Tryz.ntmps105
    go_wp2_with (first
      | (go_at_call 148;refine (shift_any _ _ _ (by omega) (by omega) (by omega) (by omega)).mono ?_;rintro e w' ⟨he,mm,rfl⟩;rw [HQ.out,HB.out] at he;subst he)
      | (go_at_call 122;refine (zero_any _ _ _).mono ?_;rintro e w' ⟨rfl,rfl⟩)
      | (go_at_call 97;refine (pack_any _ _ _ _ _ _ _ (by omega) (by omega) (by omega) (by omega)).mono ?_;rintro e W3 ⟨he,hW3⟩;rw [exc_agg] at he;subst he;have HW3:=Lib.hid hW3;clear hW3;have HG3:=Lib.hid (grown_trans HG.out (grown_trans (grown_drewN _ _) HW3.out));obtain ⟨xb,x0,x1,x2,x3,x4,z0,z1,z2,z3,z4⟩:=HE.out.grown (grown_trans (grown_drewN _ _) HW3.out)))
    (try simp only [Exit.inBlock,Exit.then])
    refine bodyPost_ret ?_ rfl ⟨(excE_is _ _).trans (fu_even f mode n m P (e1 - U) HS.out).symm,?_⟩
    ·rw [results_tmp_cell rfl]
     go_simp
    ·repeat refine Grown.setCell ?_ (by simp <;> omega) _
     exact grown_trans HG.out (grown_drewN _ _)
   ·go_enter Tryz.func105,Tryz.ntmps105
    go_wp2_with (first
      | (go_at_call 148;refine (shift_any _ _ _ (by omega) (by omega) (by omega) (by omega)).mono ?_;rintro e w' ⟨he,mm,rfl⟩;rw [HQ.out,HB.out] at he;subst he)
      | (go_at_call 122;refine (zero_any _ _ _).mono ?_;rintro e w' ⟨rfl,rfl⟩)
      | (go_at_call 97;refine (pack_any _ _ _ _ _ _ _ (by omega) (by omega) (by omega) (by omega)).mono ?_;rintro e W3 ⟨he,hW3⟩;rw [exc_agg] at he;subst he;have HW3:=Lib.hid hW3;clear hW3;have HG3:=Lib.hid (grown_trans HG.out (grown_trans (grown_drewN _ _) HW3.out));obtain ⟨xb,x0,x1,x2,x3,x4,z0,z1,z2,z3,z4⟩:=HE.out.grown (grown_trans (grown_drewN _ _) HW3.out)))
    (try simp only [Exit.inBlock,Exit.then])
    refine bodyPost_ret ?_ rfl ⟨(packE_is _ _ _ _).trans (fu_down f mode n m P Q (e1 - U) HS.out hpq).symm,?_⟩
    ·rw [results_tmp_cell rfl]
     go_simp
    ·repeat refine Grown.setCell ?_ (by simp <;> omega) _
     exact HG3.out
  ·have room:=HR.out rfl
   go_enter Tryz.func105,Tryz.ntmps105
   go_wp2_with (first
     | (go_at_call 148;refine (shift_any _ _ _ (by omega) (by omega) (by omega) (by omega)).mono ?_;rintro e w' ⟨he,mm,rfl⟩;rw [HQ.out,HB.out] at he;subst he)
     | (go_at_call 122;refine (zero_any _ _ _).mono ?_;rintro e w' ⟨rfl,rfl⟩)
     | (go_at_call 97;refine (pack_any _ _ _ _ _ _ _ (by omega) (by omega) (by omega) (by omega)).mono ?_;rintro e W3 ⟨he,hW3⟩;rw [exc_agg] at he;subst he;have HW3:=Lib.hid hW3;clear hW3;have HG3:=Lib.hid (grown_trans HG.out (grown_trans (grown_drewN _ _) HW3.out));obtain ⟨xb,x0,x1,x2,x3,x4,z0,z1,z2,z3,z4⟩:=HE.out.grown (grown_trans (grown_drewN _ _) HW3.out)))
   (try simp only [Exit.inBlock,Exit.then])
   refine bodyPost_ret ?_ rfl ⟨(packE_is _ _ _ _).trans (fu_more f mode n m P Q (e1 - U) HS.out).symm,?_⟩
   ·rw [results_tmp_cell rfl]
    go_simp
   ·repeat refine Grown.setCell ?_ (by simp <;> omega) _
    exact HG3.out

set_option maxRecDepth 100000 in
set_option maxHeartbeats 4000000 in
theorem sfin_up (f mode:Int) (n m:Bool) (e1 e2 M1 M2 P Q U:Int) (B:Bool) (w:World) (hc:e1<e2) (a0:-298≤e1) (a1:e1≤400) (b0:-298≤e2) (b1:e2≤400) (m0:0≤M1) (m1:M1<16777216) (k0:0≤M2) (k1:M2<16777216)
  (hU:(if 32<e2 - e1 then 32 else e2 - e1)=U) (u0:0≤U) (u1:U≤32) (u2:U≤e2 - e1) (hP:IntKind.u64.wrap (M2*2^U.toNat)=P) (p0:0≤P) (p1:P≤1152921504606846975) (HQ:Hid (shV M1 (e2 - U - e1)=Q)) (HB:Hid (shO M1 (e2 - U - e1)=B)) (q0:0≤Q) (q1:Q<16777216) (room:B=true→Q+1≤P):
  Calls Tryz.prog 105 #[.int .i64 f,.int .i64 mode,.agg #[.bool n,.int .i64 e1,.int .u64 M1],.agg #[.bool m,.int .i64 e2,.int .u64 M2]] w fun e w'=>e=fuE f mode m n P Q (e2 - U) B∧Grown w w':=by
 have HR:=Lib.hid room
 clear room
 have HE:=Lib.hid (exc_new ((w.alloc (.cells #[.bool m,.int .i64 e2,.int .u64 M2] 102)).alloc (.cells #[.bool n,.int .i64 e1,.int .u64 M1] 102)) 75)
 have HG:=Lib.hid (Grown.alloc (Grown.alloc (Grown.alloc (Grown.refl w) #[.bool m,.int .i64 e2,.int .u64 M2] 102) #[.bool n,.int .i64 e1,.int .u64 M1] 102) #[.bool false,.bool false,.bool false,.bool false,.bool false] 75)
 rw [show ((w.alloc (.cells #[.bool m,.int .i64 e2,.int .u64 M2] 102)).alloc (.cells #[.bool n,.int .i64 e1,.int .u64 M1] 102)).heap.size=w.heap.size+1+1 by simp] at HE
 by_cases hs:m=n
 ·subst hs
  have hnn:(m==m)=true:=by simp
  go_enter Tryz.func105,Tryz.ntmps105
  go_wp2_with (first
    | (go_at_call 148;refine (shift_any _ _ _ (by omega) (by omega) (by omega) (by omega)).mono ?_;rintro e w' ⟨he,mm,rfl⟩;rw [HQ.out,HB.out] at he;subst he)
    | (go_at_call 122;refine (zero_any _ _ _).mono ?_;rintro e w' ⟨rfl,rfl⟩)
    | (go_at_call 97;refine (pack_any _ _ _ _ _ _ _ (by omega) (by omega) (by omega) (by omega)).mono ?_;rintro e W3 ⟨he,hW3⟩;rw [exc_agg] at he;subst he;have HW3:=Lib.hid hW3;clear hW3;have HG3:=Lib.hid (grown_trans HG.out (grown_trans (grown_drewN _ _) HW3.out));obtain ⟨xb,x0,x1,x2,x3,x4,z0,z1,z2,z3,z4⟩:=HE.out.grown (grown_trans (grown_drewN _ _) HW3.out)))
  (try simp only [Exit.inBlock,Exit.then])
  refine bodyPost_ret ?_ rfl ⟨(packE_is _ _ _ _).trans (fu_like f mode m P Q (e2 - U) B).symm,?_⟩
  ·rw [results_tmp_cell rfl]
   go_simp
  ·repeat refine Grown.setCell ?_ (by simp <;> omega) _
   exact HG3.out
 ·have HS:=Lib.hid hs
  have hnn:(m==n)=false:=by simpa using hs
  clear hs
  cases B
  ·clear HR
   rcases Int.lt_trichotomy P Q with hpq | hpq | hpq
   ·go_enter Tryz.func105,Tryz.ntmps105
    go_wp2_with (first
      | (go_at_call 148;refine (shift_any _ _ _ (by omega) (by omega) (by omega) (by omega)).mono ?_;rintro e w' ⟨he,mm,rfl⟩;rw [HQ.out,HB.out] at he;subst he)
      | (go_at_call 122;refine (zero_any _ _ _).mono ?_;rintro e w' ⟨rfl,rfl⟩)
      | (go_at_call 97;refine (pack_any _ _ _ _ _ _ _ (by omega) (by omega) (by omega) (by omega)).mono ?_;rintro e W3 ⟨he,hW3⟩;rw [exc_agg] at he;subst he;have HW3:=Lib.hid hW3;clear hW3;have HG3:=Lib.hid (grown_trans HG.out (grown_trans (grown_drewN _ _) HW3.out));obtain ⟨xb,x0,x1,x2,x3,x4,z0,z1,z2,z3,z4⟩:=HE.out.grown (grown_trans (grown_drewN _ _) HW3.out)))
    (try simp only [Exit.inBlock,Exit.then])
    refine bodyPost_ret ?_ rfl ⟨(packE_is _ _ _ _).trans (fu_up f mode m n P Q (e2 - U) HS.out hpq).symm,?_⟩
    ·rw [results_tmp_cell rfl]
     go_simp
    ·repeat refine Grown.setCell ?_ (by simp <;> omega) _
     exact HG3.out
   ·subst hpq
    go_enter Tryz.func105,Tryz.ntmps105
    go_wp2_with (first
      | (go_at_call 148;refine (shift_any _ _ _ (by omega) (by omega) (by omega) (by omega)).mono ?_;rintro e w' ⟨he,mm,rfl⟩;rw [HQ.out,HB.out] at he;subst he)
      | (go_at_call 122;refine (zero_any _ _ _).mono ?_;rintro e w' ⟨rfl,rfl⟩)
      | (go_at_call 97;refine (pack_any _ _ _ _ _ _ _ (by omega) (by omega) (by omega) (by omega)).mono ?_;rintro e W3 ⟨he,hW3⟩;rw [exc_agg] at he;subst he;have HW3:=Lib.hid hW3;clear hW3;have HG3:=Lib.hid (grown_trans HG.out (grown_trans (grown_drewN _ _) HW3.out));obtain ⟨xb,x0,x1,x2,x3,x4,z0,z1,z2,z3,z4⟩:=HE.out.grown (grown_trans (grown_drewN _ _) HW3.out)))
    (try simp only [Exit.inBlock,Exit.then])
    refine bodyPost_ret ?_ rfl ⟨(excE_is _ _).trans (fu_even f mode m n P (e2 - U) HS.out).symm,?_⟩
    ·rw [results_tmp_cell rfl]
     go_simp
    ·repeat refine Grown.setCell ?_ (by simp <;> omega) _
     exact grown_trans HG.out (grown_drewN _ _)
   ·go_enter Tryz.func105,Tryz.ntmps105
    go_wp2_with (first
      | (go_at_call 148;refine (shift_any _ _ _ (by omega) (by omega) (by omega) (by omega)).mono ?_;rintro e w' ⟨he,mm,rfl⟩;rw [HQ.out,HB.out] at he;subst he)
      | (go_at_call 122;refine (zero_any _ _ _).mono ?_;rintro e w' ⟨rfl,rfl⟩)
      | (go_at_call 97;refine (pack_any _ _ _ _ _ _ _ (by omega) (by omega) (by omega) (by omega)).mono ?_;rintro e W3 ⟨he,hW3⟩;rw [exc_agg] at he;subst he;have HW3:=Lib.hid hW3;clear hW3;have HG3:=Lib.hid (grown_trans HG.out (grown_trans (grown_drewN _ _) HW3.out));obtain ⟨xb,x0,x1,x2,x3,x4,z0,z1,z2,z3,z4⟩:=HE.out.grown (grown_trans (grown_drewN _ _) HW3.out)))
    (try simp only [Exit.inBlock,Exit.then])
    refine bodyPost_ret ?_ rfl ⟨(packE_is _ _ _ _).trans (fu_down f mode m n P Q (e2 - U) HS.out hpq).symm,?_⟩
    ·rw [results_tmp_cell rfl]
     go_simp
    ·repeat refine Grown.setCell ?_ (by simp <;> omega) _
     exact HG3.out
  ·have room:=HR.out rfl
   go_enter Tryz.func105,Tryz.ntmps105
   go_wp2_with (first
     | (go_at_call 148;refine (shift_any _ _ _ (by omega) (by omega) (by omega) (by omega)).mono ?_;rintro e w' ⟨he,mm,rfl⟩;rw [HQ.out,HB.out] at he;subst he)
     | (go_at_call 122;refine (zero_any _ _ _).mono ?_;rintro e w' ⟨rfl,rfl⟩)
     | (go_at_call 97;refine (pack_any _ _ _ _ _ _ _ (by omega) (by omega) (by omega) (by omega)).mono ?_;rintro e W3 ⟨he,hW3⟩;rw [exc_agg] at he;subst he;have HW3:=Lib.hid hW3;clear hW3;have HG3:=Lib.hid (grown_trans HG.out (grown_trans (grown_drewN _ _) HW3.out));obtain ⟨xb,x0,x1,x2,x3,x4,z0,z1,z2,z3,z4⟩:=HE.out.grown (grown_trans (grown_drewN _ _) HW3.out)))
   (try simp only [Exit.inBlock,Exit.then])
   refine bodyPost_ret ?_ rfl ⟨(packE_is _ _ _ _).trans (fu_more f mode m n P Q (e2 - U) HS.out).symm,?_⟩
   ·rw [results_tmp_cell rfl]
    go_simp
   ·repeat refine Grown.setCell ?_ (by simp <;> omega) _
    exact HG3.out

theorem sfinite_any (f mode:Int) (n m:Bool) (e1 e2 M1 M2:Int) (w:World) (a0:-298≤e1) (a1:e1≤400) (b0:-298≤e2) (b1:e2≤400) (m0:0≤M1) (m1:M1<16777216) (k0:0≤M2) (k1:M2<16777216) (h1:e2<e1→((2^fn f:Nat):Int)≤M1) (h2:e1<e2→((2^fn f:Nat):Int)≤M2):
  Calls Tryz.prog 105 #[.int .i64 f,.int .i64 mode,.agg #[.bool n,.int .i64 e1,.int .u64 M1],.agg #[.bool m,.int .i64 e2,.int .u64 M2]] w fun e w'=>e=finE f mode n (amtE e1 M1) m (amtE e2 M2)∧Grown w w':=by
 have h128:(128:Int)≤((2^fn f:Nat):Int):=by
  have:=fn_bd f
  have h:2^7≤2^fn f:=Nat.pow_le_pow_right (by decide) (by omega)
  omega
 by_cases c:e2≤e1
 ·obtain ⟨u0,u1,u2⟩:=up_bd e1 e2 c
  obtain ⟨q0,q1⟩:=sh_bd24 M2 (e1 - upI e1 e2 - e2) k0 k1 (by omega)
  have hp:=pow2_pos (upI e1 e2).toNat
  have hp2:(2:Int)^(upI e1 e2).toNat≤2^32:=pow2_le (by omega)
  have p0:0≤M1*2^(upI e1 e2).toNat:=Int.mul_nonneg m0 (by omega)
  have p1:M1*2^(upI e1 e2).toNat≤16777215*2^32:=Int.mul_le_mul (by omega) hp2 (by omega) (by omega)
  have e:=fu_is f mode n m e1 e2 M1 M2 c b0 a1 m0 m1 k0 k1 h1
  rw [←e]
  exact sfin_down f mode n m e1 e2 M1 M2 _ _ (upI e1 e2) _ w c a0 a1 b0 b1 m0 m1 k0 k1 rfl u0 u1 u2 (u64w _ p0 (by omega)) p0 (by omega) rfl rfl q0 q1 (sh_out_room M1 M2 e1 e2 c (by by_cases g:e1=e2 <;> omega) k0 k1)
 ·have c':e1≤e2:=by omega
  obtain ⟨u0,u1,u2⟩:=up_bd e2 e1 c'
  obtain ⟨q0,q1⟩:=sh_bd24 M1 (e2 - upI e2 e1 - e1) m0 m1 (by omega)
  have hp:=pow2_pos (upI e2 e1).toNat
  have hp2:(2:Int)^(upI e2 e1).toNat≤2^32:=pow2_le (by omega)
  have p0:0≤M2*2^(upI e2 e1).toNat:=Int.mul_nonneg k0 (by omega)
  have p1:M2*2^(upI e2 e1).toNat≤16777215*2^32:=Int.mul_le_mul (by omega) hp2 (by omega) (by omega)
  have e:=fu_is f mode m n e2 e1 M2 M1 c' a0 b1 k0 k1 m0 m1 h2
  rw [←fin_swap,←e]
  exact sfin_up f mode n m e1 e2 M1 M2 _ _ (upI e2 e1) _ w (by omega) a0 a1 b0 b1 m0 m1 k0 k1 rfl u0 u1 u2 (u64w _ p0 (by omega)) p0 (by omega) rfl rfl q0 q1 (sh_out_room M2 M1 e2 e1 c' (by omega) m0 m1)

theorem fin_cls (f a:Int) (h4:(clsI f a==4)=false) (h5:(clsI f a==5)=false) (h3:(clsI f a==3)=false):finI f a=true:=by
 rcases three_ways f a with ⟨x,y,z⟩ | ⟨x,y,z⟩ | ⟨x,y,z,t⟩
 ·have c:=cls_cases f a
  simp at h4 h5 h3
  omega
 ·exact y
 ·exact z

theorem fin_hid (f a b:Int) (h:finI f a=true) (g:finI f b=true) (c:unE f b<unE f a):((2^fn f:Nat):Int)≤unM f a:=by
 have hh:=hid_fn f
 have hF:=fF_bd f a
 rcases three_ways f a with ⟨x,y,z⟩ | ⟨x,y,z,t⟩ | ⟨x,y,z,t,u⟩
 ·rw [h] at y;exact absurd y (by decide)
 ·rcases three_ways f b with ⟨x',y',z'⟩ | ⟨x',y',z',t'⟩ | ⟨x',y',z',t',u'⟩
  ·rw [g] at y';exact absurd y' (by decide)
  ·omega
  ·omega
 ·omega

theorem fin_shape (f mode:Int) (n:Bool) (V:Nat) (m:Bool) (W:Nat):∃ (v:Int) (b1 b2 b3 b4 b5:Bool),finE f mode n V m W=.returned (.tuple #[.int .u32 v,.agg #[.bool b1,.bool b2,.bool b3,.bool b4,.bool b5]]):=by
 unfold finE totE excE PackE
 (repeat' split) <;> exact ⟨_,_,_,_,_,_,rfl⟩

set_option maxRecDepth 100000 in
set_option maxHeartbeats 4000000 in
theorem sadd_any (f mode a b:Int) (w:World) (a0:0≤a) (a1:a≤4294967295) (b0:0≤b) (b1:b≤4294967295):
  Calls Tryz.prog 64 #[.int .i64 f,.int .i64 mode,.int .u32 a,.int .u32 b] w fun e w'=>e=addE f mode a b∧Grown w w':=by
 have HE:=Lib.hid (exc_new w 75)
 have HG:=Lib.hid (Grown.alloc (Grown.refl w) #[.bool false,.bool false,.bool false,.bool false,.bool false] 75)
 obtain ⟨A,hA⟩:∃ A,clsI f a=A:=⟨_,rfl⟩
 obtain ⟨B,hB⟩:∃ B,clsI f b=B:=⟨_,rfl⟩
 have HA:=Lib.hid hA
 have HB:=Lib.hid hB
 have HAdd:=Lib.hid (show addE f mode a b=if (A==4 || A==5 || (B==4 || B==5))=true then excE (nanI f) (A==5 || B==5) else if (A==3&&B==3&&(fS f a != fS f b))=true then excE (nanI f) true
  else if (A==3)=true then excE (infI f (fS f a)) false else if (B==3)=true then excE (infI f (fS f b)) false
  else finE f mode (fS f a) (amtE (unE f a) (unM f a)) (fS f b) (amtE (unE f b) (unM f b)) by unfold addE nanB sigB infB;rw [hA,hB])
 have HF:=Lib.hid (fun (h4:(A==4)=false) (h5:(A==5)=false) (h3:(A==3)=false)=>fin_cls f a (by rw [hA];exact h4) (by rw [hA];exact h5) (by rw [hA];exact h3))
 have HF':=Lib.hid (fun (h4:(B==4)=false) (h5:(B==5)=false) (h3:(B==3)=false)=>fin_cls f b (by rw [hB];exact h4) (by rw [hB];exact h5) (by rw [hB];exact h3))
 clear hA hB
 obtain ⟨eA0,eA1⟩:=unE_bd f a
 obtain ⟨eB0,eB1⟩:=unE_bd f b
 obtain ⟨mA0,mA1⟩:=unM_bd f a
 obtain ⟨mB0,mB1⟩:=unM_bd f b
 have K:=True.intro
 by_cases c4:A=4
 ·subst c4
  have HQ:=Lib.hid (HAdd.out.trans (if_pos (by simp)))
  exact dx_5
 by_cases c5:A=5
 ·subst c5
  have HQ:=Lib.hid (HAdd.out.trans (if_pos (by simp)))
  exact dx_5
 have k4:(A==4)=false:=beq_eq_false_iff_ne.2 c4
 have k5:(A==5)=false:=beq_eq_false_iff_ne.2 c5
 clear c4 c5
 by_cases d4:B=4
 ·subst d4
  have HQ:=Lib.hid (HAdd.out.trans ((if_pos (by simp)).trans (by rw [k5];try rfl)))
  exact dx_5
 by_cases d5:B=5
 ·subst d5
  have HQ:=Lib.hid (HAdd.out.trans ((if_pos (by simp)).trans (by rw [k5];try rfl)))
  exact dx_5
 have l4:(B==4)=false:=beq_eq_false_iff_ne.2 d4
 have l5:(B==5)=false:=beq_eq_false_iff_ne.2 d5
 clear d4 d5
 have HAd2:=Lib.hid (HAdd.out.trans (if_neg (by rw [k4,k5,l4,l5];decide)))
 clear HAdd
 have HAdd:=HAd2
 clear HAd2
 by_cases c3:A=3
 ·subst c3
  by_cases d3:B=3
  ·subst d3
   by_cases hs:(fS f a != fS f b)=true
   ·have hs2:(fS f a==fS f b)=false:=by simpa [bne] using hs
    have HQ:=Lib.hid (HAdd.out.trans (if_pos (by rw [hs];rfl)))
    exact dx_5
   ·have hs':(fS f a != fS f b)=false:=(Bool.not_eq_true _).mp hs
    have hs2:(fS f a==fS f b)=true:=by simpa [bne] using hs'
    clear hs
    have HQ:=Lib.hid (HAdd.out.trans ((if_neg (by rw [hs'];decide)).trans (if_pos rfl)))
    exact dx_5
  ·have l3:(B==3)=false:=beq_eq_false_iff_ne.2 d3
   clear d3
   have HQ:=Lib.hid (HAdd.out.trans ((if_neg (by rw [l3];simp)).trans (if_pos rfl)))
   exact dx_5
 ·have k3:(A==3)=false:=beq_eq_false_iff_ne.2 c3
  clear c3
  by_cases d3:B=3
  ·subst d3
   have HQ:=Lib.hid (HAdd.out.trans ((if_neg (by rw [k3];simp)).trans ((if_neg (by rw [k3];decide)).trans (if_pos rfl))))
   exact dx_5
  ·have l3:(B==3)=false:=beq_eq_false_iff_ne.2 d3
   clear d3
   have HQ:=Lib.hid (HAdd.out.trans ((if_neg (by rw [k3];simp)).trans ((if_neg (by rw [k3];decide)).trans (if_neg (by rw [l3];decide)))))
   have H1:=Lib.hid (fin_hid f a b (HF.out k4 k5 k3) (HF'.out l4 l5 l3))
   have H2:=Lib.hid (fin_hid f b a (HF'.out l4 l5 l3) (HF.out k4 k5 k3))
   clear HF HF' HAdd
   obtain ⟨v,g1,g2,g3,g4,g5,hR⟩:=fin_shape f mode (fS f a) (amtE (unE f a) (unM f a)) (fS f b) (amtE (unE f b) (unM f b))
   have HR:=Lib.hid hR
   clear hR
   clear K
   go_enter Tryz.func64,Tryz.ntmps64
   go_wp2_with (go_at_call 100;refine (class_any _ _ _ (by omega) (by omega)).mono ?_;rintro e w' ⟨he,m,rfl⟩;(first | rw [HA.out] at he | rw [HB.out] at he);subst he)
   refine (sunpack_any f a _ a0 a1).mono ?_
   rintro e W1 ⟨rfl,hW1⟩
   have HW1:=Lib.hid hW1
   clear hW1
   go_wp2_with fail
   refine (sunpack_any f b _ b0 b1).mono ?_
   rintro e W2 ⟨rfl,hW2⟩
   have HX2:=Lib.hid (((HE.out.grown (grown_drewN _ _)).grown HW1.out).grown hW2)
   have HG2:=Lib.hid (grown_trans (grown_trans HG.out (grown_trans (grown_drewN _ _) HW1.out)) hW2)
   clear hW2
   go_wp2_with fail
   have HP:=parts_cells W2 (.bool (fS f a)) (.int .i64 (unE f a)) (.int .u64 (unM f a)) (.bool (fS f b)) (.int .i64 (unE f b)) (.int .u64 (unM f b)) 102
   have HX4:=Lib.hid (HX2.out.under2 #[.bool (fS f a),.int .i64 (unE f a),.int .u64 (unM f a)] #[.bool (fS f b),.int .i64 (unE f b),.int .u64 (unM f b)] 102 102)
   have HG4:=Lib.hid (grown_trans HG2.out (Grown.alloc (Grown.alloc (Grown.refl W2) #[.bool (fS f a),.int .i64 (unE f a),.int .u64 (unM f a)] 102) #[.bool (fS f b),.int .i64 (unE f b),.int .u64 (unM f b)] 102))
   clear HX2 HG2
   generalize ((W2.alloc _).alloc _)=W4 at HP HX4 HG4 ⊢
   obtain ⟨y0,y1,y2,y3,y4,y5⟩:=HP
   obtain ⟨xb,x0,x1,x2,x3,x4,z0,z1,z2,z3,z4⟩:=HX4.out
   go_wp2_with (first
    | (go_at_call 102;refine (isNan_any _ _).mono ?_;rintro e w' ⟨rfl,rfl⟩)
    | (go_at_call 103;refine (nan_any _ _).mono ?_;rintro e w' ⟨rfl,rfl⟩)
    | (go_at_call 104;refine (inf_any _ _ _).mono ?_;rintro e w' ⟨rfl,rfl⟩)
    | (go_at_call 105;refine (sfinite_any f mode _ _ _ _ _ _ _ (by omega) (by omega) (by omega) (by omega) mA0 mA1 mB0 mB1 H1.out H2.out).mono ?_;rintro e W5 ⟨he,hW5⟩;have HW5:=Lib.hid hW5;clear hW5;rw [HR.out] at he;subst he;clear x0 x1 x2 x3 x4 z0 z1 z2 z3 z4 xb;obtain ⟨xb,x0,x1,x2,x3,x4,z0,z1,z2,z3,z4⟩:=HX4.out.grown HW5.out;have HG5:=Lib.hid (grown_trans HG4.out HW5.out)))
   (try simp only [Exit.inBlock,Exit.then])
   refine bodyPost_ret ?_ rfl ⟨HR.out.symm.trans HQ.out.symm,?_⟩
   ·rw [results_tmp_cell rfl]
    go_simp
   ·repeat refine Grown.setCell ?_ (by simp <;> omega) _
    exact HG5.out

theorem spread_unp (f v:Int) (w:World):Calls Tryz.prog 114 #[.bool (fS f v),.int .i64 (unE f v),.int .u64 (unM f v)] w fun e w'=>e=.returned (wideV (fS f v) (amtE (unE f v) (unM f v)))∧Grown w w':=by
 obtain ⟨e0,e1⟩:=unE_bd f v
 have e2:=unE_top f v
 obtain ⟨m0,m1⟩:=unM_bd f v
 rw [←spr_amt (unE f v) (unM f v) (by omega)]
 exact spread_any (fS f v) (unE f v) (unM f v) w ((unE f v+298) / 64).toNat ((unE f v+298)%64).toNat (by omega) (by omega) (by omega) m0 (by omega)

theorem tot_shape (f mode:Int) (n:Bool) (V:Nat) (m:Bool) (W:Nat):∃ (v:Int) (b1 b2 b3 b4 b5:Bool),totE f mode n V m W=.returned (.tuple #[.int .u32 v,.agg #[.bool b1,.bool b2,.bool b3,.bool b4,.bool b5]]):=by
 unfold totE excE PackE
 (repeat' split) <;> exact ⟨_,_,_,_,_,_,rfl⟩

theorem words_cells (W:World) (a b:Value) (C:Array Value) (t u:TypeId):
  ((W.alloc (.cells C t)).alloc (.cells #[a,b] u)).cell? ⟨W.heap.size+1,0,none⟩=some a
  ∧ ((W.alloc (.cells C t)).alloc (.cells #[a,b] u)).cell? ⟨W.heap.size+1,1,none⟩=some b:=by
 refine ⟨?_,?_⟩ <;> go_simp

set_option maxRecDepth 100000 in
set_option maxHeartbeats 2000000 in
theorem radd_any (f mode a b:Int) (w:World) (a0:0≤a) (a1:a≤4294967295) (b0:0≤b) (b1:b≤4294967295):
  Calls Tryz.prog 74 #[.int .i64 f,.int .i64 mode,.int .u32 a,.int .u32 b] w fun e w'=>e=addE f mode a b∧Grown w w':=by
 have HE:=Lib.hid ((exc_new w 75).under1 #[.int .u32 a,.int .u32 b] 29)
 have HG:=Lib.hid (Grown.alloc (Grown.alloc (Grown.refl w) #[.bool false,.bool false,.bool false,.bool false,.bool false] 75) #[.int .u32 a,.int .u32 b] 29)
 have HC:=Lib.hid (words_cells w (.int .u32 a) (.int .u32 b) #[.bool false,.bool false,.bool false,.bool false,.bool false] 75 29)
 obtain ⟨NN,hNN⟩:∃ NN,(nanB f a || nanB f b)=NN:=⟨_,rfl⟩
 obtain ⟨SS,hSS⟩:∃ SS,(sigB f a || sigB f b)=SS:=⟨_,rfl⟩
 obtain ⟨IA,hIA⟩:∃ IA,infB f a=IA:=⟨_,rfl⟩
 obtain ⟨IB,hIB⟩:∃ IB,infB f b=IB:=⟨_,rfl⟩
 obtain ⟨ZA,hZA⟩:∃ ZA,nouB f a=ZA:=⟨_,rfl⟩
 obtain ⟨ZB,hZB⟩:∃ ZB,nouB f b=ZB:=⟨_,rfl⟩
 have HNN:=Lib.hid hNN
 have HSS:=Lib.hid hSS
 have HIA:=Lib.hid hIA
 have HIB:=Lib.hid hIB
 have HZA:=Lib.hid hZA
 have HZB:=Lib.hid hZB
 have HAdd:=Lib.hid (show addE f mode a b=if NN=true then excE (nanI f) SS else if (IA&&IB&&(fS f a != fS f b))=true then excE (nanI f) true
  else if IA=true then excE (infI f (fS f a)) false else if IB=true then excE (infI f (fS f b)) false
  else finE f mode (fS f a) (amtE (unE f a) (unM f a)) (fS f b) (amtE (unE f b) (unM f b)) by unfold addE;rw [hNN,hSS,hIA,hIB])
 clear hNN hSS hIA hIB hZA hZB
 cases NN
 case true=>
  have HQ:=Lib.hid (HAdd.out.trans (if_pos rfl))
  exact dx_7
 case false=>
  have HAd2:=Lib.hid (HAdd.out.trans (if_neg (by decide)))
  clear HAdd
  have HAdd:=HAd2
  clear HAd2
  have ma:=fun h=>mask_inf f a a0 a1 (HIA.out.trans h)
  have mb:=fun h=>mask_inf f b b0 b1 (HIB.out.trans h)
  have MA:=Lib.hid ma
  have MB:=Lib.hid mb
  clear ma mb
  cases IA
  case true=>
   have hm:=MA.out rfl
   cases IB
   case true=>
    by_cases hs:(fS f a != fS f b)=true
    ·have hs2:(fS f a==fS f b)=false:=by simpa [bne] using hs
     have HQ:=Lib.hid (HAdd.out.trans (if_pos (by rw [hs];rfl)))
     exact dx_7
    ·have hs':(fS f a != fS f b)=false:=(Bool.not_eq_true _).mp hs
     have hs2:(fS f a==fS f b)=true:=by simpa [bne] using hs'
     clear hs
     have HQ:=Lib.hid (HAdd.out.trans ((if_neg (by rw [hs'];decide)).trans (if_pos rfl)))
     exact dx_7
   case false=>
    have HQ:=Lib.hid (HAdd.out.trans ((if_neg (by simp)).trans (if_pos rfl)))
    exact dx_7
  case false=>
   cases IB
   case true=>
    have hm:=MB.out rfl
    have HQ:=Lib.hid (HAdd.out.trans ((if_neg (by simp)).trans ((if_neg (by decide)).trans (if_pos rfl))))
    exact dx_7
   case false=>
    have hnn:(nanB f a=false∧nanB f b=false):=by have:=HNN.out;simpa using this
    have ha:=fin_of f a hnn.1 HIA.out
    have hb:=fin_of f b hnn.2 HIB.out
    have HFa:=Lib.hid (nou_is f a ha)
    have HFb:=Lib.hid (nou_is f b hb)
    clear hnn ha hb
    have HAd3:=Lib.hid (HAdd.out.trans ((if_neg (by simp)).trans ((if_neg (by decide)).trans (if_neg (by decide)))))
    clear HAdd MA MB
    have HAdd:=HAd3
    clear HAd3
    by_cases hz:ZA=true∧ZB=true∧(fS f a==fS f b)=true
    ·obtain ⟨rfl,rfl,hs⟩:=hz
     have hm:=mask_nou f a a0 a1 HZA.out
     have HQ:=Lib.hid (show addE f mode a b=excE (zerI f (fS f a)) false by rw [HAdd.out,(HFa.out.1 HZA.out),(HFb.out.1 HZB.out),(beq_iff_eq.1 hs)];exact fin_noughts f mode (fS f b))
     exact dx_7
    ·have HQ:=Lib.hid (show addE f mode a b=totE f mode (fS f a) (amtE (unE f a) (unM f a)) (fS f b) (amtE (unE f b) (unM f b)) by
      rw [HAdd.out];unfold finE
      rw [if_neg (fun g=>hz ⟨(HZA.out.symm.trans (HFa.out.2 g.1)),(HZB.out.symm.trans (HFb.out.2 g.2.1)),beq_iff_eq.2 g.2.2⟩)])
     clear HAdd
     have HZ3:=Lib.hid hz
     clear hz
     cases ZA
     case false=>
      exact dx_12
     case true=>
      cases ZB
      case false=>
       exact dx_12
      case true=>
       have hs2:(fS f a==fS f b)=false:=(Bool.not_eq_true _).mp (fun h=>HZ3.out ⟨rfl,rfl,h⟩)
       have hs3:(fS f a != fS f b)=true:=by simp [bne,hs2]
       exact dx_12

theorem add_shape (f mode a b:Int):∃ (v:Int) (b1 b2 b3 b4 b5:Bool),addE f mode a b=.returned (.tuple #[.int .u32 v,.agg #[.bool b1,.bool b2,.bool b3,.bool b4,.bool b5]]):=by
 unfold addE
 (repeat' split)
 ·exact ⟨_,_,_,_,_,_,rfl⟩
 ·exact ⟨_,_,_,_,_,_,rfl⟩
 ·exact ⟨_,_,_,_,_,_,rfl⟩
 ·exact ⟨_,_,_,_,_,_,rfl⟩
 ·exact fin_shape _ _ _ _ _ _

def subE (f mode a b:Int):Ending:=addE f mode a (xorI f b)

set_option maxHeartbeats 1000000 in
theorem ssub_any (f mode a b:Int) (w:World) (a0:0≤a) (a1:a≤4294967295) (b0:0≤b) (b1:b≤4294967295):
  Calls Tryz.prog 82 #[.int .i64 f,.int .i64 mode,.int .u32 a,.int .u32 b] w fun e w'=>e=subE f mode a b∧Grown w w':=by
 obtain ⟨x1,x2,x3,x4,x5⟩:=xor_parts f b b0 b1
 have HE:=Lib.hid (exc_new w 75)
 have HG:=Lib.hid (Grown.alloc (Grown.refl w) #[.bool false,.bool false,.bool false,.bool false,.bool false] 75)
 have HW:=Lib.hid (fun w1=>sadd_any f mode a (xorI f b) w1 a0 a1 x4 x5)
 clear x1 x2 x3 x4 x5
 obtain ⟨v,g1,g2,g3,g4,g5,hR⟩:=add_shape f mode a (xorI f b)
 have HR:=Lib.hid hR
 clear hR
 have hx:bits .xor .u32 b (zerI f true)=xorI f b:=rfl
 go_enter Tryz.func82,Tryz.ntmps82
 go_wp2_with (first
  | (go_at_call 122;refine (zero_any _ _ _).mono ?_;rintro e w' ⟨rfl,rfl⟩)
  | (go_at_call 64;refine (HW.out _).mono ?_;rintro e W7 ⟨he,hW7⟩;rw [HR.out] at he;subst he;have HW7:=Lib.hid hW7;clear hW7;obtain ⟨xb,x0,x1,x2,x3,x4,z0,z1,z2,z3,z4⟩:=HE.out.grown HW7.out))
 (try simp only [Exit.inBlock,Exit.then])
 refine bodyPost_ret ?_ rfl ⟨HR.out.symm,?_⟩
 ·rw [results_tmp_cell rfl]
  go_simp
 ·repeat refine Grown.setCell ?_ (by simp <;> omega) _
  exact grown_trans HG.out HW7.out

theorem one_cell (W:World) (a:Value) (u:TypeId):(W.alloc (.cells #[a] u)).cell? ⟨W.heap.size,0,none⟩=some a:=by go_simp

set_option maxHeartbeats 1000000 in
theorem rminus_any (f v:Int) (w:World) (h0:0≤v) (h1:v≤4294967295):
  Calls Tryz.prog 93 #[.int .i64 f,.int .u32 v] w fun e w'=>e=.returned (.int .u32 (minI f v))∧Grown w w':=by
 have HC:=Lib.hid (one_cell w (.int .u32 v) 29)
 have HG:=Lib.hid (Grown.alloc (Grown.refl w) #[.int .u32 v] 29)
 obtain ⟨NN,hNN⟩:∃ NN,nanB f v=NN:=⟨_,rfl⟩
 have HNN:=Lib.hid hNN
 have HM:=Lib.hid (show minI f v=if NN=true then bits .and .u32 v (msk f) else bits .and .u32 (bits .xor .u32 v (zerI f true)) (msk f) by unfold minI;rw [hNN];rfl)
 clear hNN
 cases NN
 case true=>
  have HQ:=Lib.hid (HM.out.trans (if_pos rfl))
  clear HM
  go_enter Tryz.func93,Tryz.ntmps93
  go_wp2_with fail
  generalize (w.alloc _)=W4 at HG HC ⊢
  have y0:=HC.out
  refine (nans1_any f v _ _ h0 h1 y0).mono ?_
  rintro e w' ⟨he,m,rfl⟩
  rw [HNN.out] at he
  subst he
  clear y0
  go_wp2_with (first
   | (go_at_call 61;refine (rmask_any _ _).mono ?_;rintro e w' ⟨rfl,rfl⟩))
  go_ret
  exact ⟨ret_int HQ.out.symm,grown_more HG.out _⟩
 case false=>
  have HQ:=Lib.hid (HM.out.trans (if_neg (by decide)))
  clear HM
  go_enter Tryz.func93,Tryz.ntmps93
  go_wp2_with fail
  generalize (w.alloc _)=W4 at HG HC ⊢
  have y0:=HC.out
  refine (nans1_any f v _ _ h0 h1 y0).mono ?_
  rintro e w' ⟨he,m,rfl⟩
  rw [HNN.out] at he
  subst he
  clear y0
  go_wp2_with (first
   | (go_at_call 87;refine (rsign_any _ _ _).mono ?_;rintro e w' ⟨rfl,rfl⟩)
   | (go_at_call 61;refine (rmask_any _ _).mono ?_;rintro e w' ⟨rfl,rfl⟩))
  go_ret
  exact ⟨ret_int HQ.out.symm,grown_more HG.out _⟩

set_option maxHeartbeats 1000000 in
theorem rsub_any (f mode a b:Int) (w:World) (a0:0≤a) (a1:a≤4294967295) (b0:0≤b) (b1:b≤4294967295):
  Calls Tryz.prog 52 #[.int .i64 f,.int .i64 mode,.int .u32 a,.int .u32 b] w fun e w'=>e=subE f mode a b∧Grown w w':=by
 obtain ⟨x4,x5⟩:=min_bd f b b0 b1
 have HS:=Lib.hid (sub_alike f mode a b b0 b1)
 have HE:=Lib.hid (exc_new w 75)
 have HG:=Lib.hid (Grown.alloc (Grown.refl w) #[.bool false,.bool false,.bool false,.bool false,.bool false] 75)
 have HW:=Lib.hid (fun w1=>radd_any f mode a (minI f b) w1 a0 a1 x4 x5)
 clear x4 x5
 obtain ⟨v,g1,g2,g3,g4,g5,hR⟩:=add_shape f mode a (minI f b)
 have HR:=Lib.hid hR
 clear hR
 go_enter Tryz.func52,Tryz.ntmps52
 go_wp2_with (first
  | (go_at_call 93;refine (rminus_any _ _ _ b0 b1).mono ?_;rintro e W6 ⟨rfl,hW6⟩;have HW6:=Lib.hid hW6;clear hW6)
  | (go_at_call 74;refine (HW.out _).mono ?_;rintro e W7 ⟨he,hW7⟩;rw [HR.out] at he;subst he;have HW7:=Lib.hid (grown_trans HW6.out hW7);clear hW7;obtain ⟨xb,x0,x1,x2,x3,x4,z0,z1,z2,z3,z4⟩:=HE.out.grown HW7.out))
 (try simp only [Exit.inBlock,Exit.then])
 refine bodyPost_ret ?_ rfl ⟨HR.out.symm.trans HS.out,?_⟩
 ·rw [results_tmp_cell rfl]
  go_simp
 ·repeat refine Grown.setCell ?_ (by simp <;> omega) _
  exact grown_trans HG.out HW7.out
end Go.Proofs.YteifobleigfbaaaGreat
