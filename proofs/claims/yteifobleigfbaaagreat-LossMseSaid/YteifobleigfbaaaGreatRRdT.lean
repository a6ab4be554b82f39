/- The reference's Pack of what is below all; of nought; of whatever it is given. -/
import Derived.Test.YteifobleigfbaaaGreatRRdL
import Derived.Test.YteifobleigfbaaaGreatRRdH
import Derived.Test.YteifobleigfbaaaGreatRRdF
namespace Go.Proofs.YteifobleigfbaaaGreat
open Go.RowKit
set_option linter.unusedVariables false
set_option linter.unusedSimpArgs false

theorem dv_zero (n:Int):dvK 0 n=0∧dvH 0 n=false∧dvR 0 n=false:=by
 have h:∀ k:Int,shV 0 k=0:=fun k=>by unfold shV;split <;> simp
 have g:∀ k:Int,shO 0 k=false:=fun k=>by unfold shO;split <;> simp
 unfold dvK dvH dvR
 refine ⟨?_,?_,?_⟩
 ·split
  ·rw [Int.zero_mul];rfl
  ·exact h n
 ·split
  ·rfl
  ·rw [h];rfl
 ·split
  ·rfl
  ·exact g _

set_option maxHeartbeats 400000 in
theorem rdivide_zero (n:Int) (w:World) (n0:-100000≤n) (n1:n≤100000):
  Calls Tryz.prog 132 #[.int .u64 0,.int .i64 n] w fun e w'=>e=.returned (.tuple #[.int .u64 0,.bool false,.bool false])∧w=w':=by
 by_cases c:-63≤n
 ·obtain ⟨x,y,z⟩:=dv_zero n
  refine (rdivide_any 0 n w (by decide) (by decide) c n1).mono ?_
  rintro e w' ⟨he,hw⟩
  rw [x,y,z] at he
  exact ⟨he,hw⟩
 ·go_enter Tryz.func132,Tryz.ntmps132
  go_wp2
  go_ret3
  exact ⟨rfl,rfl⟩

set_option maxRecDepth 100000 in
set_option maxHeartbeats 8000000 in
theorem rpack_tiny (f mode : Int) (neg : Bool) (exp K : Int) (V : Nat) (w : World) (h0 : -9223372036854775808 ≤ exp) (h1 : exp ≤ 9223372036854775807)
    (hc : exp < -10000 ∨ 10000 < exp ∨ (-10000 ≤ exp ∧ exp ≤ 10000)) (hK : Hid (K = 0)) (k0 : 0 ≤ K) (H T : Int) (hT : wrap64 (wrap64 (2 ^ min (fe f) 64) - 1) = T) (hH : IntKind.u64.wrap (2 ^ fn f) = H) (hH2 : IntKind.u64.wrap (2 ^ (fn f + 1)) = 2 * H) (t0 : 31 ≤ T) (t1 : T ≤ 255) (m0 : 128 ≤ H) (m1 : H ≤ 8388608) (kH : K + 1 < H) (HA : Hid (AtR f V 0 K false true (-20000))) (HH : Hid (hid f = H)) (HT : Hid (topx f = T)) :
    Calls Tryz.prog 92 #[.int .i64 f, .int .i64 mode, .bool neg, .int .i64 exp, .int .u64 0, .bool true] w fun e w' => e = PackE f mode neg V ∧ Grown w w' := by
  obtain ⟨hn0, hn1⟩ := fn_bd f
  obtain ⟨hu0, hu1⟩ := lst_bd f
  obtain ⟨hb0, hb1⟩ := bia_bd f
  have hk := and_one K k0 (by omega)
  rcases hc with c1 | c2 | ⟨c1, c2⟩
  all_goals
    go_enter Tryz.func92, Tryz.ntmps92
    go_wp2_with (first
        | (go_at_call 49; refine (rzero_any _ _ _).mono ?_; rintro e w' ⟨rfl, rfl⟩)
        | (go_at_call 48; refine (rwidths_any _ _).mono ?_; rintro e w' ⟨rfl, rfl⟩)
        | (go_at_call 95; refine (rbias_any _ _).mono ?_; rintro e w' ⟨rfl, rfl⟩)
        | (go_at_call 131; refine (rlen_any _ _ (by omega) (by omega)).mono ?_; rintro e w' ⟨he, rfl⟩; rw [len_zero] at he; subst he)
        | (go_at_call 132; refine (rdivide_zero _ _ (by omega) (by omega)).mono ?_; rintro e w' ⟨he, rfl⟩; rw [← hK.out] at he; subst he)
        | (go_at_call 133; refine (rup_any _ _ _ _ _ _).mono ?_; rintro e w' ⟨rfl, rfl⟩)
        | (go_at_call 134; refine (rover_any _ _ _ _).mono ?_; rintro e w' ⟨rfl, md, rfl⟩)
        | (go_at_call 87; refine (rsign_any _ _ _).mono ?_; rintro e w' ⟨rfl, rfl⟩))
    all_goals
      refine wp_region_still_tail 8 (by kernel_rfl) (by kernel_rfl) ?_
      simp only [List.take_succ_cons, List.take_zero, List.drop_succ_cons, List.drop_zero]
      change wpStill _ _ (World.drew _) (fun a' => wpList _ _ _ _ a' (World.drew _)) _ _
      repeat (first | still_step | still_call (still_same (rsign_any _ _ _)))
      try refine wpStill_nil ?_
      go_wp2
    all_goals
      (try simp only [Exit.inBlock, Exit.then])
      refine bodyPost_ret (v := .tuple #[.int .u32 (rdV f mode neg V), .agg #[.bool false, .bool false, .bool (rdO f mode neg V), .bool (rdU f V), .bool (rdX f mode neg V)]]) ?_ rfl ⟨packE_is _ _ _ _, by
        repeat refine Grown.setCell ?_ (Nat.le_refl _) _
        first
          | exact grown_more (Grown.alloc (Grown.refl _) _ _) _
          | exact Grown.alloc (Grown.refl _) _ _
          | exact Grown.alloc (Grown.alloc (Grown.refl _) _ _) _ _
          | exact (Grown.alloc (Grown.alloc (Grown.refl _) _ _) _ _).drew⟩
      rw [results_tmp_cell rfl]
      go_simp
    all_goals
      have hA := HA.out
      first
        | (have h := rway_lowS (X := K + 1) true hA (by with_reducible assumption) HH.out HT.out (by simp only [Bool.toNat_true]; omega) (by omega) (by omega) (by omega)
           simp only [Bool.false_or, Bool.true_and] at h
           obtain ⟨v1, v2, v3, v4⟩ := h
           have hd : decide ((-20000 : Int) < 1 - bia f) = true := decide_eq_true (by omega)
           refine ⟨?_, v2, ?_, v4⟩
           · with_reducible exact v1
           · first | with_reducible exact v3.symm | (rw [hd] at v3; with_reducible exact v3))
        | (have h := rway_lowS (X := K) false hA (by with_reducible assumption) HH.out HT.out (by simp only [Bool.toNat_false]; omega) (by omega) (by omega) (by omega)
           simp only [Bool.false_or, Bool.true_and] at h
           obtain ⟨v1, v2, v3, v4⟩ := h
           have hd : decide ((-20000 : Int) < 1 - bia f) = true := decide_eq_true (by omega)
           refine ⟨?_, v2, ?_, v4⟩
           · with_reducible exact v1
           · first | with_reducible exact v3.symm | (rw [hd] at v3; with_reducible exact v3))

set_option maxRecDepth 100000 in
set_option maxHeartbeats 1000000 in
theorem rpack_zero (f mode:Int) (neg:Bool) (exp:Int) (w:World) (h0:-9223372036854775808≤exp) (h1:exp≤9223372036854775807):
  Calls Tryz.prog 92 #[.int .i64 f,.int .i64 mode,.bool neg,.int .i64 exp,.int .u64 0,.bool false] w fun e w'=>e=PackE f mode neg (valN (clampE exp) 0 false)∧Grown w w':=by
 have hv:valN (clampE exp) 0 false=0:=by unfold valN;simp
 obtain ⟨z1,z2,z3,z4⟩:=rd_zero f mode neg
 have hp:Hid (PackE f mode neg (valN (clampE exp) 0 false)=.returned (.tuple #[.int .u32 (zerI f neg),.agg #[.bool false,.bool false,.bool false,.bool false,.bool false]])):=by
  show _=_
  rw [hv,←packE_is,z1,z2,z3,z4]
 clear hv z1 z2 z3 z4
 have hc:exp < -10000∨10000<exp∨(-10000≤exp∧exp≤10000):=by omega
 rcases hc with c1 | c2 | ⟨c1,c2⟩
 all_goals
  go_enter Tryz.func92,Tryz.ntmps92
  go_wp2_with (first
    | (go_at_call 49;refine (rzero_any _ _ _).mono ?_;rintro e w' ⟨rfl,rfl⟩))
  (try simp only [Exit.inBlock,Exit.then])
  refine bodyPost_ret (v:=.tuple #[.int .u32 (zerI f neg),.agg #[.bool false,.bool false,.bool false,.bool false,.bool false]]) ?_ rfl ⟨hp.out.symm,?_⟩
  ·rw [results_tmp_cell rfl]
   go_simp
  ·repeat refine Grown.setCell ?_ (Nat.le_refl _) _
   exact Grown.alloc (Grown.refl _) _ _

theorem fmt_words (f:Int):wrap64 (wrap64 (2^min (fe f) 64) - 1)=topx f∧IntKind.u64.wrap (2^fn f)=hid f∧IntKind.u64.wrap (2^(fn f+1))=2*hid f
  ∧ 31≤topx f∧topx f≤255∧128≤hid f∧hid f≤8388608:=by
 rcases fmt_cases f with ⟨rfl,hf⟩ | ⟨rfl,hf⟩ | ⟨⟨c0,c1⟩,hf⟩ <;> obtain ⟨e1,e2,e3,e4,e5,e6,e7,e8,e9⟩:=hf <;> rw [e1,e2,e3,e4] <;> exact ⟨by simp [wrap64],by simp [IntKind.wrap_u64],by simp [IntKind.wrap_u64],by decide,by decide,by decide,by decide⟩

theorem rpack_any (f mode:Int) (neg:Bool) (exp sig:Int) (more:Bool) (w:World) (h0:-9223372036854775808≤exp) (h1:exp≤9223372036854775807) (s0:0≤sig) (s1:sig≤18446744073709551615):
  Calls Tryz.prog 92 #[.int .i64 f,.int .i64 mode,.bool neg,.int .i64 exp,.int .u64 sig,.bool more] w fun e w'=>e=PackE f mode neg (valN (clampE exp) sig more)∧Grown w w':=by
 have hc:=clamp_bd exp
 have hl0:=len_nonneg sig
 have hl1:=len_le64 sig s0 s1
 have hb:=bia_lst f
 obtain ⟨g1,g2,g3,g4,g5,g6,g7⟩:=fmt_words f
 by_cases cs:0<sig
 ·by_cases c:clampE exp+lenI sig - 1<1 - bia f
  ·have HA:=rpack_val f exp sig (lenI sig) (1 - bia f - fn f) more cs s1 rfl (.inl ⟨c,rfl⟩)
   rw [show 1 - bia f - fn f - lst f=0 by omega] at HA
   have hk:=kept_bd f (valN (clampE exp) sig more)
   have hlow:=low_plc f mode neg (valN (clampE exp) sig more) (HA.2.2.2.2.2 c)
   have hX:(if exp < -10000 then -10000 else exp)=clampE exp:=by
    have:=bia_bd f
    have:0<lenI sig:=by rw [len_log sig cs];omega
    unfold clampE at c ⊢
    split
    ·rfl
    ·rename_i h;rw [if_neg h] at c;split
     ·rename_i h2;rw [if_pos h2] at c;omega
     ·rfl
   have hK0:=HA.2.1
   have hh:=hid_fn f
   exact rpack_low f mode neg exp sig (clampE exp) (lenI sig) _ more _ _ _ w h0 h1 cs s1 hX rfl hc.1 hc.2 hl0 hl1 c ⟨rfl,rfl,rfl⟩ (by omega) (by omega) (hid f) (topx f) g1 g2 g3 g4 g5 g6 g7 (by omega) HA rfl rfl hb
  ·have c':1 - bia f≤clampE exp+lenI sig - 1:=by omega
   have HA:=rpack_val f exp sig (lenI sig) (clampE exp+lenI sig - 1 - fn f) more cs s1 rfl (.inr ⟨c',rfl⟩)
   have hk:=kept_bd f (valN (clampE exp) sig more)
   have hK0:=HA.2.1
   have hh:=hid_fn f
   have hkl:2^fn f≤keptN f (valN (clampE exp) sig more):=by
    by_cases hd:dN f (valN (clampE exp) sig more)=0
    ·have hn:¬valN (clampE exp) sig more<2^(fn f+luN f):=fun h=>c (HA.2.2.2.2.1 h)
     unfold keptN
     rw [hd,Nat.add_zero,Nat.le_div_iff_mul_le (p2 _),←Nat.pow_add]
     omega
    ·exact hk.2 hd
   have hk1:keptN f (valN (clampE exp) sig more)<2*2^fn f:=by have:=hk.1;rw [Nat.pow_succ] at this;omega
   by_cases ce:exp≤10000
   ·have he:clampE exp=exp:=by
     unfold clampE at c' ⊢
     split
     ·rename_i h
      rw [if_pos h] at c'
      have:=bia_bd f
      omega
     ·rw [if_neg (by omega)]
    rw [he] at c' HA hk hK0 hkl hk1 ⊢
    exact rpack_high f mode neg exp sig (lenI sig) _ more _ _ _ w h0 h1 cs s1 rfl ce hl0 hl1 c' ⟨rfl,rfl,rfl⟩ (by omega) (by omega) (hid f) (topx f) g1 g2 g3 g4 g5 g6 g7 (by omega) (by omega) HA rfl rfl hb
   ·have he:clampE exp=10000:=by unfold clampE;rw [if_neg (by omega),if_pos (by omega)]
    rw [he] at c' HA hk hK0 hkl hk1 ⊢
    exact rpack_far f mode neg exp sig (lenI sig) _ more _ _ _ w h0 h1 cs s1 rfl (by omega) hl0 hl1 c' ⟨rfl,rfl,rfl⟩ (by omega) (by omega) (hid f) (topx f) g1 g2 g3 g4 g5 g6 g7 (by omega) (by omega) HA rfl rfl hb
 ·have e1:sig=0:=by omega
  subst e1
  cases more
  ·exact rpack_zero f mode neg exp w h0 h1
  ·have hV:valN (clampE exp) 0 true=1:=by unfold valN;simp
   obtain ⟨a1,a2,a3,a4,a5⟩:=pack_val f exp 0 (-10000) 0 (lst f) true (by decide) (by decide) (.inr rfl) rfl len_zero (.inl ⟨by have:=fn_bd f;have:=lst_bd f;omega,rfl⟩)
   have hs:shV 0 (lst f - -10000 - 2)=0:=by unfold shV;split <;> simp
   have hq:spQ 0 (lst f - -10000) true=1:=by unfold spQ;rw [hs];simp
   rw [hq] at a1 a2
   rw [Int.sub_self] at a3
   have c1:catN f (valN (clampE exp) 0 true)=1:=by omega
   have HA:AtR f (valN (clampE exp) 0 true) 0 0 false true (-20000):=
    ⟨a3,a1,by rw [c1];rfl,by rw [c1];rfl,⟨fun _=>by have:=bia_bd f;omega,fun _=>a4.2 (by have:=fn_bd f;have:=lst_bd f;omega)⟩⟩
   exact rpack_tiny f mode neg exp 0 _ w h0 h1 (by omega) rfl (by decide) (hid f) (topx f) g1 g2 g3 g4 g5 g6 g7 (by omega) HA rfl rfl
end Go.Proofs.YteifobleigfbaaaGreat
