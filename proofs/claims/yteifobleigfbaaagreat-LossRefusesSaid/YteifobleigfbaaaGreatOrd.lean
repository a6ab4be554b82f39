/- The contracts of package order: keys, which is greater, the lesser and the greater one. -/
import Derived.Test.YteifobleigfbaaaGreatRWhoB
import Derived.Test.YteifobleigfbaaaGreatRd
namespace Go.Proofs.YteifobleigfbaaaGreat
open Go.RowKit
set_option linter.unusedVariables false
set_option linter.unusedSimpArgs false

def firO (f a b:Int):Int:=
 if nanB f a=false then bits .and .u32 a (msk f) else if nanB f b=false then bits .and .u32 b (msk f) else nanI f

theorem sign_and (f v:Int) (h0:0≤v) (h1:v≤4294967295):bits .and .u32 v (zerI f true)=if fS f v=true then sgb f else 0:=by
 have hz:zerI f true=sgb f:=rfl
 rw [hz]
 have key:∀ k:Nat,k≤31→sgb f=2^k→bits .and .u32 v (sgb f)=if fS f v=true then sgb f else 0:=by
  intro k hk hs
  rw [and_bit32 v k h0 h1 hk hs,fS]
  rcases Int.emod_two_eq (v / sgb f) with h | h <;> rw [h] <;> simp
 rcases sgb_pow f with h | h
 ·exact key 15 (by decide) h
 ·exact key 31 (by decide) h

theorem mask_key (f a b:Int) (a0:0≤a) (a1:a≤4294967295) (b0:0≤b) (b1:b≤4294967295) (h:keyI f a=keyI f b):bits .and .u32 a (msk f)=bits .and .u32 b (msk f):=by
 have key:∀ v:Int,0≤v→v≤4294967295→bits .and .u32 v (msk f)=zerI f (fS f v)+v%sgb f∧0≤v%sgb f:=by
  intro v v0 v1
  rcases fmt_cases f with ⟨rfl,hf⟩ | ⟨rfl,hf⟩ | ⟨⟨c0,c1⟩,hf⟩ <;> obtain ⟨e1,e2,e3,e4,e5,e6,e7,e8,e9⟩:=hf
  ·rw [e8,and32 v 16 (p:=65536) v0 v1 (by decide) (by decide) (by decide)]
   unfold zerI fS;rw [e5];simp only [beq_iff_eq];split <;> omega
  ·rw [e8,and32 v 16 (p:=65536) v0 v1 (by decide) (by decide) (by decide)]
   unfold zerI fS;rw [e5];simp only [beq_iff_eq];split <;> omega
  ·rw [e8,and32 v 32 (p:=4294967296) v0 v1 (by decide) (by decide) (by decide)]
   unfold zerI fS;rw [e5];simp only [beq_iff_eq];split <;> omega
 obtain ⟨x1,x2⟩:=key a a0 a1
 obtain ⟨y1,y2⟩:=key b b0 b1
 rw [x1,y1]
 unfold keyI at h
 cases hA:fS f a <;> cases hB:fS f b <;> rw [hA,hB] at h <;> simp at h <;> omega

theorem fir_max (f a b:Int) (a0:0≤a) (a1:a≤4294967295) (b0:0≤b) (b1:b≤4294967295):(if keyI f b<keyI f a then firO f a b else firO f b a)=maxO f a b:=by
 unfold firO maxO pickI
 by_cases h:keyI f b<keyI f a
 ·have h2:keyI f b≤keyI f a:=by omega
  cases nanB f a <;> cases nanB f b <;> simp [h,h2]
 ·by_cases g:keyI f b≤keyI f a
  ·have hm:=mask_key f a b a0 a1 b0 b1 (by omega)
   cases nanB f a <;> cases nanB f b <;> simp [h,g,hm]
  ·cases nanB f a <;> cases nanB f b <;> simp [h,g]

set_option maxHeartbeats 1000000 in
theorem oisNan_any (c:Int) (w:World):
  Calls Tryz.prog 115 #[.int .i64 c] w fun e w'=>e=.returned (.bool (c==4 || c==5))∧w=w':=by
 go_enter Tryz.func115,Tryz.ntmps115
 go_wp2
 all_goals
  go_ret
  exact ⟨ret_bool (by simp_all),rfl⟩

set_option maxHeartbeats 1000000 in
theorem cisNan_any (x:Int) (w:World):
  Calls Tryz.prog 167 #[.int .i64 x] w fun e w'=>e=.returned (.bool false)∧w=w':=by
 go_enter Tryz.func167,Tryz.ntmps167
 go_wp2
 go_ret
 exact ⟨ret_bool (by simp),rfl⟩

set_option maxHeartbeats 1000000 in
theorem ccmp_any (x y:Int) (w:World):
  Calls Tryz.prog 116 #[.int .i64 x,.int .i64 y] w fun e w'=>e=.returned (.int .i64 (if x<y then -1 else if y<x then 1 else 0))∧w=w':=by
 go_enter Tryz.func116,Tryz.ntmps116
 go_wp2_with (go_at_call 167;refine (cisNan_any _ _).mono ?_;rintro e w' ⟨rfl,rfl⟩)
 all_goals
  go_ret
  exact ⟨ret_int (by simp_all <;> omega),rfl⟩

set_option maxHeartbeats 1000000 in
theorem okey_any (f:Int) (v:Int) (w:World) (h0:0≤v) (h1:v≤4294967295):
  Calls Tryz.prog 117 #[.int .i64 f,.int .u32 v] w fun e w'=>e=.returned (.int .i64 (keyI f v))∧Grown w w':=by
 have hn:=no_sign f v h0 h1
 have hg:=sign_and f v h0 h1
 have hs:0<sgb f∧sgb f≤2147483648:=by unfold sgb;(repeat' split) <;> decide
 have hb0:0≤v%sgb f:=Int.emod_nonneg _ (by omega)
 have hb1:v%sgb f<sgb f:=Int.emod_lt_of_pos _ hs.1
 obtain ⟨hs0,hs1⟩:=hs
 have HK:keyI f v=if fS f v=true then -1 - v%sgb f else v%sgb f:=rfl
 obtain ⟨R,hR⟩:∃ R,v%sgb f=R:=⟨_,rfl⟩
 obtain ⟨S,hS⟩:∃ S,sgb f=S:=⟨_,rfl⟩
 obtain ⟨B,hB⟩:∃ B,fS f v=B:=⟨_,rfl⟩
 rw [hR] at hn hb0 hb1 HK
 rw [hS] at hb1 hs0 hs1 hg
 rw [hB] at hg HK
 have HK:=Lib.hid HK
 clear hR hS hB
 cases B
 all_goals
  simp only [Bool.false_eq_true,if_false,if_true] at hg
  go_enter Tryz.func117,Tryz.ntmps117
  go_wp2_with (first
   | (go_at_call 122;refine (zero_any _ _ _).mono ?_;rintro e w' ⟨rfl,rfl⟩)
   | (go_at_call 79;refine (mask_any _ _).mono ?_;rintro e w' ⟨rfl,rfl⟩))
  all_goals
   go_ret
   exact ⟨ret_int (by rw [HK.out];simp [wrap64] <;> omega),Grown.refl _⟩

set_option maxHeartbeats 1000000 in
theorem obyKey_any (f a b:Int) (w:World) (a0:0≤a) (a1:a≤4294967295) (b0:0≤b) (b1:b≤4294967295):
  Calls Tryz.prog 149 #[.int .i64 f,.int .u32 a,.int .u32 b] w fun e w'=>e=.returned (.tuple #[.int .u32 (if keyI f b<keyI f a then b else a),.int .u32 (if keyI f b<keyI f a then a else b)])∧Grown w w':=by
 obtain ⟨x,hx⟩:∃ x,keyI f a=x:=⟨_,rfl⟩
 obtain ⟨y,hy⟩:∃ y,keyI f b=y:=⟨_,rfl⟩
 rw [hx,hy]
 have HXa:=Lib.hid hx
 have HXb:=Lib.hid hy
 clear hx hy
 have HG:=Lib.hid (Grown.refl w)
 go_enter Tryz.func149,Tryz.ntmps149
 go_wp2_with (go_at_call 117;refine (okey_any _ _ _ (by omega) (by omega)).mono ?_;rintro e W1 ⟨he,hW⟩;(first | rw [HXa.out] at he | rw [HXb.out] at he);subst he;replace HG:=Lib.hid (show Grown w W1 from grown_trans HG.out hW);clear hW)
 all_goals
  go_ret2
  exact ⟨ret_vv (by simp_all) (by simp_all),HG.out⟩

set_option maxHeartbeats 2000000 in
theorem ofirst_any (f a b:Int) (w:World) (a0:0≤a) (a1:a≤4294967295) (b0:0≤b) (b1:b≤4294967295):
  Calls Tryz.prog 150 #[.int .i64 f,.int .u32 a,.int .u32 b] w fun e w'=>e=.returned (.int .u32 (firO f a b))∧Grown w w':=by
 obtain ⟨NA,hNA⟩:∃ NA,nanB f a=NA:=⟨_,rfl⟩
 obtain ⟨NB,hNB⟩:∃ NB,nanB f b=NB:=⟨_,rfl⟩
 have HM:=Lib.hid (show firO f a b=if NA=false then bits .and .u32 a (msk f) else if NB=false then bits .and .u32 b (msk f) else nanI f by unfold firO;rw [hNA,hNB])
 obtain ⟨C,hC⟩:∃ C,clsI f a=C:=⟨_,rfl⟩
 obtain ⟨D,hD⟩:∃ D,clsI f b=D:=⟨_,rfl⟩
 unfold nanB at hNA hNB
 rw [hC] at hNA
 rw [hD] at hNB
 have HC:=Lib.hid hC
 have HD:=Lib.hid hD
 clear hC hD
 cases NA
 all_goals
  cases NB
  all_goals
   have HNA:=Lib.hid hNA
   have HNB:=Lib.hid hNB
   clear hNA hNB
   go_enter Tryz.func150,Tryz.ntmps150
   go_wp2_with (first
    | (go_at_call 100;refine (class_any _ _ _ (by omega) (by omega)).mono ?_;rintro e w' ⟨he,dm,rfl⟩;(first | rw [HC.out] at he | rw [HD.out] at he);subst he)
    | (go_at_call 115;refine (oisNan_any _ _).mono ?_;rintro e w' ⟨he,rfl⟩;(first | rw [HNA.out] at he | rw [HNB.out] at he);subst he)
    | (go_at_call 79;refine (mask_any _ _).mono ?_;rintro e w' ⟨rfl,rfl⟩)
    | (go_at_call 103;refine (nan_any _ _).mono ?_;rintro e w' ⟨rfl,rfl⟩))
   all_goals
    go_ret
    exact ⟨ret_int (by rw [HM.out];simp),by repeat (first | exact Grown.refl _ | with_reducible refine grown_more ?_ _)⟩

set_option maxHeartbeats 1000000 in
theorem omax_any (f a b:Int) (w:World) (a0:0≤a) (a1:a≤4294967295) (b0:0≤b) (b1:b≤4294967295):
  Calls Tryz.prog 106 #[.int .i64 f,.int .u32 a,.int .u32 b] w fun e w'=>e=.returned (.int .u32 (maxO f a b))∧Grown w w':=by
 have HM:=Lib.hid (fir_max f a b a0 a1 b0 b1)
 by_cases h:keyI f b<keyI f a
 all_goals
  have H:=Lib.hid h
  clear h
  have HG:=Lib.hid (Grown.refl w)
  go_enter Tryz.func106,Tryz.ntmps106
  go_wp2_with (first
   | (go_at_call 149;refine (obyKey_any _ _ _ _ (by omega) (by omega) (by omega) (by omega)).mono ?_;rintro e W1 ⟨he,hW⟩;(first | rw [if_pos H.out,if_pos H.out] at he | rw [if_neg H.out,if_neg H.out] at he);subst he;replace HG:=Lib.hid (show Grown w W1 from grown_trans HG.out hW);clear hW)
   | (go_at_call 150;refine (ofirst_any _ _ _ _ (by omega) (by omega) (by omega) (by omega)).mono ?_;rintro e W2 ⟨he,hW⟩;subst he;replace HG:=Lib.hid (show Grown w W2 from grown_trans HG.out hW);clear hW))
  go_ret
  exact ⟨ret_int (by rw [←HM.out];first | rw [if_pos H.out] | rw [if_neg (Int.not_lt.mpr H.out)] | rw [if_neg H.out]),HG.out⟩

set_option maxHeartbeats 4000000 in
theorem ocompare_any (f a b:Int) (w:World) (a0:0≤a) (a1:a≤4294967295) (b0:0≤b) (b1:b≤4294967295):
  Calls Tryz.prog 75 #[.int .i64 f,.int .u32 a,.int .u32 b] w fun e w'=>e=.returned (.tuple #[.int .i64 (cmpC f a b),.bool (cmpO f a b)])∧Grown w w':=by
 obtain ⟨NA,hNA⟩:∃ NA,nanB f a=NA:=⟨_,rfl⟩
 obtain ⟨NB,hNB⟩:∃ NB,nanB f b=NB:=⟨_,rfl⟩
 obtain ⟨ZA,hZA⟩:∃ ZA,nouB f a=ZA:=⟨_,rfl⟩
 obtain ⟨ZB,hZB⟩:∃ ZB,nouB f b=ZB:=⟨_,rfl⟩
 obtain ⟨x,hx⟩:∃ x,keyI f a=x:=⟨_,rfl⟩
 obtain ⟨y,hy⟩:∃ y,keyI f b=y:=⟨_,rfl⟩
 have HM:=Lib.hid (show Ending.returned (.tuple #[.int .i64 (cmpC f a b),.bool (cmpO f a b)])=.returned (.tuple #[.int .i64 (if (NA || NB)=true then 0 else if (ZA&&ZB)=true then 0 else if x<y then -1 else if y<x then 1 else 0),.bool (!(NA || NB))]) by
  unfold cmpC cmpO;rw [hNA,hNB,hZA,hZB,hx,hy])
 have HXa:=Lib.hid hx
 have HXb:=Lib.hid hy
 obtain ⟨C,hC⟩:∃ C,clsI f a=C:=⟨_,rfl⟩
 obtain ⟨D,hD⟩:∃ D,clsI f b=D:=⟨_,rfl⟩
 unfold nanB at hNA hNB
 unfold nouB at hZA hZB
 rw [hC] at hNA hZA
 rw [hD] at hNB hZB
 have HC:=Lib.hid hC
 have HD:=Lib.hid hD
 clear hC hD hx hy
 have HG:=Lib.hid (Grown.refl w)
 cases NA
 all_goals
  cases NB
  all_goals
   cases ZA
   all_goals
    cases ZB
    all_goals
     have HNA:=Lib.hid hNA
     have HNB:=Lib.hid hNB
     clear hNA hNB
     go_enter Tryz.func75,Tryz.ntmps75
     go_wp2_with (first
      | (go_at_call 100;refine (class_any _ _ _ (by omega) (by omega)).mono ?_;rintro e w' ⟨he,hW⟩;(first | rw [HC.out] at he | rw [HD.out] at he);subst he;replace HG:=Lib.hid (show Grown w w' from (by obtain ⟨dm,rfl⟩:=hW;exact grown_more HG.out _));clear hW)
      | (go_at_call 115;refine (oisNan_any _ _).mono ?_;rintro e w' ⟨he,rfl⟩;(first | rw [HNA.out] at he | rw [HNB.out] at he);subst he)
      | (go_at_call 117;refine (okey_any _ _ _ (by omega) (by omega)).mono ?_;rintro e w' ⟨he,hW⟩;(first | rw [HXa.out] at he | rw [HXb.out] at he);subst he;replace HG:=Lib.hid (show Grown w w' from grown_trans HG.out hW);clear hW)
      | (go_at_call 116;refine (ccmp_any _ _ _).mono ?_;rintro e w' ⟨he,rfl⟩;subst he))
     all_goals
      go_ret2
      exact ⟨by rw [show _ from HM.out];first | rfl | (simp <;> (try intro) <;> (repeat' split) <;> omega),HG.out⟩

set_option maxHeartbeats 1000000 in
theorem oless_any (f a b:Int) (w:World) (a0:0≤a) (a1:a≤4294967295) (b0:0≤b) (b1:b≤4294967295):
  Calls Tryz.prog 173 #[.int .i64 f,.int .u32 a,.int .u32 b] w fun e w'=>e=.returned (.bool (lesB f a b))∧Grown w w':=by
 obtain ⟨O,hO⟩:∃ O,cmpO f a b=O:=⟨_,rfl⟩
 obtain ⟨K,hK⟩:∃ K,cmpC f a b=K:=⟨_,rfl⟩
 have HM:=Lib.hid (show lesB f a b=(O&&decide (K<0)) by unfold lesB;rw [hO,hK])
 have HO:=Lib.hid hO
 have HK:=Lib.hid hK
 clear hO hK
 cases O
 all_goals
  go_enter Tryz.func173,Tryz.ntmps173
  go_wp2_with (go_at_call 75;refine (ocompare_any _ _ _ _ (by omega) (by omega) (by omega) (by omega)).mono ?_;rintro e W1 ⟨he,hW1⟩;rw [HO.out,HK.out] at he;subst he;have HG:=Lib.hid hW1;clear hW1)
  all_goals
   go_ret
   exact ⟨ret_bool (by rw [HM.out];simp),HG.out⟩
end Go.Proofs.YteifobleigfbaaaGreat
