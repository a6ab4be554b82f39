/- The contracts of package order: keys, which is greater, the lesser and the greater one. -/
import Derived.Test.YtpjpmmiepfoiaaaGreatRWhoB
import Derived.Test.YtpjpmmiepfoiaaaGreatRd
namespace Go.Proofs.YtpjpmmiepfoiaaaGreat
open Go.RowKit
set_option linter.unusedVariables false
set_option linter.unusedSimpArgs false

theorem sign_and (f v:Int) (h0:0≤v) (h1:v≤4294967295):bits .and .u32 v (zerI f true)=if fS f v=true then sgb f else 0:=by
 have hz:zerI f true=sgb f:=rfl
 rw [hz]
 have key:∀ k:Nat,k≤31→sgb f=2^k→bits .and .u32 v (sgb f)=if fS f v=true then sgb f else 0:=by
  intro k hk hs
  rw [and_bit32 v k h0 h1 hk hs,fS]
  rcases Int.emod_two_eq (v / sgb f) with h | h <;> rw [h] <;> simp
 rcases sgb_pow f with h | h
 ·exact key 15 (by decide) h
 ·exact key 31 (by decide) h

set_option maxHeartbeats 1000000 in
theorem oisNan_any (c:Int) (w:World):
  Calls Tryz.prog 139 #[.int .i64 c] w fun e w'=>e=.returned (.bool (c==4 || c==5))∧w=w':=by
 go_enter Tryz.func139,Tryz.ntmps139
 go_wp2
 all_goals
  go_ret
  exact ⟨ret_bool (by simp_all),rfl⟩

set_option maxHeartbeats 1000000 in
theorem cisNan_any (x:Int) (w:World):
  Calls Tryz.prog 173 #[.int .i64 x] w fun e w'=>e=.returned (.bool false)∧w=w':=by
 go_enter Tryz.func173,Tryz.ntmps173
 go_wp2
 go_ret
 exact ⟨ret_bool (by simp),rfl⟩

set_option maxHeartbeats 1000000 in
theorem ccmp_any (x y:Int) (w:World):
  Calls Tryz.prog 140 #[.int .i64 x,.int .i64 y] w fun e w'=>e=.returned (.int .i64 (if x<y then -1 else if y<x then 1 else 0))∧w=w':=by
 go_enter Tryz.func140,Tryz.ntmps140
 go_wp2_with (go_at_call 173;refine (cisNan_any _ _).mono ?_;rintro e w' ⟨rfl,rfl⟩)
 all_goals
  go_ret
  exact ⟨ret_int (by simp_all <;> omega),rfl⟩

set_option maxHeartbeats 1000000 in
theorem okey_any (f:Int) (v:Int) (w:World) (h0:0≤v) (h1:v≤4294967295):
  Calls Tryz.prog 141 #[.int .i64 f,.int .u32 v] w fun e w'=>e=.returned (.int .i64 (keyI f v))∧Grown w w':=by
 have hn:=no_sign f v h0 h1
 have hg:=sign_and f v h0 h1
 have hs:0<sgb f∧sgb f≤2147483648:=by unfold sgb;(repeat' split) <;> decide
 have hb0:0≤v%sgb f:=Int.emod_nonneg _ (by omega)
 have hb1:v%sgb f<sgb f:=Int.emod_lt_of_pos _ hs.1
 obtain ⟨hs0,hs1⟩:=hs
 have HK:keyI f v=if fS f v=true then -1 - v%sgb f else v%sgb f:=rfl
 obtain ⟨R,hR⟩:∃ R,v%sgb f=R:=⟨_,rfl⟩
 obtain ⟨S,hS⟩:∃ S,sgb f=S:=⟨_,rfl⟩
 obtain ⟨B,hB⟩:∃ B,fS f v=B:=⟨_,rfl⟩
 rw [hR] at hn hb0 hb1 HK
 rw [hS] at hb1 hs0 hs1 hg
 rw [hB] at hg HK
 have HK:=Lib.hid HK
 clear hR hS hB
 cases B
 all_goals
  simp only [Bool.false_eq_true,if_false,if_true] at hg
  go_enter Tryz.func141,Tryz.ntmps141
  go_wp2_with (first
   | (go_at_call 130;refine (zero_any _ _ _).mono ?_;rintro e w' ⟨rfl,rfl⟩)
   | (go_at_call 81;refine (mask_any _ _).mono ?_;rintro e w' ⟨rfl,rfl⟩))
  all_goals
   go_ret
   exact ⟨ret_int (by rw [HK.out];simp [wrap64] <;> omega),Grown.refl _⟩

set_option maxHeartbeats 4000000 in
theorem ocompare_any (f a b:Int) (w:World) (a0:0≤a) (a1:a≤4294967295) (b0:0≤b) (b1:b≤4294967295):
  Calls Tryz.prog 102 #[.int .i64 f,.int .u32 a,.int .u32 b] w fun e w'=>e=.returned (.tuple #[.int .i64 (cmpC f a b),.bool (cmpO f a b)])∧Grown w w':=by
 obtain ⟨NA,hNA⟩:∃ NA,nanB f a=NA:=⟨_,rfl⟩
 obtain ⟨NB,hNB⟩:∃ NB,nanB f b=NB:=⟨_,rfl⟩
 obtain ⟨ZA,hZA⟩:∃ ZA,nouB f a=ZA:=⟨_,rfl⟩
 obtain ⟨ZB,hZB⟩:∃ ZB,nouB f b=ZB:=⟨_,rfl⟩
 obtain ⟨x,hx⟩:∃ x,keyI f a=x:=⟨_,rfl⟩
 obtain ⟨y,hy⟩:∃ y,keyI f b=y:=⟨_,rfl⟩
 have HM:=Lib.hid (show Ending.returned (.tuple #[.int .i64 (cmpC f a b),.bool (cmpO f a b)])=.returned (.tuple #[.int .i64 (if (NA || NB)=true then 0 else if (ZA&&ZB)=true then 0 else if x<y then -1 else if y<x then 1 else 0),.bool (!(NA || NB))]) by
  unfold cmpC cmpO;rw [hNA,hNB,hZA,hZB,hx,hy])
 have HXa:=Lib.hid hx
 have HXb:=Lib.hid hy
 obtain ⟨C,hC⟩:∃ C,clsI f a=C:=⟨_,rfl⟩
 obtain ⟨D,hD⟩:∃ D,clsI f b=D:=⟨_,rfl⟩
 unfold nanB at hNA hNB
 unfold nouB at hZA hZB
 rw [hC] at hNA hZA
 rw [hD] at hNB hZB
 have HC:=Lib.hid hC
 have HD:=Lib.hid hD
 clear hC hD hx hy
 have HG:=Lib.hid (Grown.refl w)
 cases NA
 all_goals
  cases NB
  all_goals
   cases ZA
   all_goals
    cases ZB
    all_goals
     have HNA:=Lib.hid hNA
     have HNB:=Lib.hid hNB
     clear hNA hNB
     go_enter Tryz.func102,Tryz.ntmps102
     go_wp2_with (first
      | (go_at_call 120;refine (class_any _ _ _ (by omega) (by omega)).mono ?_;rintro e w' ⟨he,hW⟩;(first | rw [HC.out] at he | rw [HD.out] at he);subst he;replace HG:=Lib.hid (show Grown w w' from (by obtain ⟨dm,rfl⟩:=hW;exact grown_more HG.out _));clear hW)
      | (go_at_call 139;refine (oisNan_any _ _).mono ?_;rintro e w' ⟨he,rfl⟩;(first | rw [HNA.out] at he | rw [HNB.out] at he);subst he)
      | (go_at_call 141;refine (okey_any _ _ _ (by omega) (by omega)).mono ?_;rintro e w' ⟨he,hW⟩;(first | rw [HXa.out] at he | rw [HXb.out] at he);subst he;replace HG:=Lib.hid (show Grown w w' from grown_trans HG.out hW);clear hW)
      | (go_at_call 140;refine (ccmp_any _ _ _).mono ?_;rintro e w' ⟨he,rfl⟩;subst he))
     all_goals
      go_ret2
      exact ⟨by rw [show _ from HM.out];first | rfl | (simp <;> (try intro) <;> (repeat' split) <;> omega),HG.out⟩

set_option maxHeartbeats 1000000 in
theorem oless_any (f a b:Int) (w:World) (a0:0≤a) (a1:a≤4294967295) (b0:0≤b) (b1:b≤4294967295):
  Calls Tryz.prog 103 #[.int .i64 f,.int .u32 a,.int .u32 b] w fun e w'=>e=.returned (.bool (lesB f a b))∧Grown w w':=by
 obtain ⟨O,hO⟩:∃ O,cmpO f a b=O:=⟨_,rfl⟩
 obtain ⟨K,hK⟩:∃ K,cmpC f a b=K:=⟨_,rfl⟩
 have HM:=Lib.hid (show lesB f a b=(O&&decide (K<0)) by unfold lesB;rw [hO,hK])
 have HO:=Lib.hid hO
 have HK:=Lib.hid hK
 clear hO hK
 cases O
 all_goals
  go_enter Tryz.func103,Tryz.ntmps103
  go_wp2_with (go_at_call 102;refine (ocompare_any _ _ _ _ (by omega) (by omega) (by omega) (by omega)).mono ?_;rintro e W1 ⟨he,hW1⟩;rw [HO.out,HK.out] at he;subst he;have HG:=Lib.hid hW1;clear hW1)
  all_goals
   go_ret
   exact ⟨ret_bool (by rw [HM.out];simp),HG.out⟩
end Go.Proofs.YtpjpmmiepfoiaaaGreat
