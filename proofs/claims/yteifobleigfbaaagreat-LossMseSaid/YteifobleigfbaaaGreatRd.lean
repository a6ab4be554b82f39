/- Contracts of package format: what each call comes to. Contracts of package bits: what each call comes to. Contracts of package round: what each call comes to. Contracts of package prod: classes asked, a number's parts, a product's, a number raised. -/
import Derived.Test.YteifobleigfbaaaGreatRows
import Derived.Test.YteifobleigfbaaaGreatMath
import Derived.Deep.QuietTactic
import Derived.BigQuiet
import Derived.WalkKit
import Derived.ProofKit
import Derived.Lib.Hide
import Derived.Test.YteifobleigfbaaaGreatWorld
import Derived.Test.YteifobleigfbaaaGreatLimbs
import Derived.KernelRfl
import Derived.StillTailTactics
namespace Go.Proofs.YteifobleigfbaaaGreat
open Go.RowKit
set_option linter.unusedVariables false
set_option linter.unusedSimpArgs false

set_option maxHeartbeats 400000 in
theorem widths_any (f:Int) (w:World):
  Calls Tryz.prog 135 #[.int .i64 f] w fun e w'=>e=.returned (.tuple #[.int .i64 (fe f),.int .i64 (fn f)])∧w=w':=by
 rcases fmt_cases f with ⟨rfl,hf⟩ | ⟨rfl,hf⟩ | ⟨⟨h0,h1⟩,hf⟩ <;> obtain ⟨e1,e2,e3,e4,e5,e6,e7,e8,e9⟩:=hf
 all_goals
  go_enter Tryz.func135,Tryz.ntmps135
  go_wp2
  go_ret2
  exact ⟨by rw [e1,e2];rfl,rfl⟩

set_option maxHeartbeats 400000 in
theorem signBit_any (f:Int) (w:World):
  Calls Tryz.prog 119 #[.int .i64 f] w fun e w'=>e=.returned (.int .u32 (sgb f))∧w=w':=by
 rcases fmt_cases f with ⟨rfl,hf⟩ | ⟨rfl,hf⟩ | ⟨⟨c0,c1⟩,hf⟩ <;> obtain ⟨e1,e2,e3,e4,e5,e6,e7,e8,e9⟩:=hf
 all_goals
  go_enter Tryz.func119,Tryz.ntmps119
  go_wp2_with (go_at_call 135;refine (widths_any _ _).mono ?_;rintro e w' ⟨rfl,rfl⟩)
  go_ret
  exact ⟨by rw [e5];rfl,rfl⟩

set_option maxHeartbeats 1000000 in
theorem hiddenBit_any (f:Int) (w:World):
  Calls Tryz.prog 147 #[.int .i64 f] w fun e w'=>e=.returned (.int .u32 (hid f))∧w=w':=by
 rcases fmt_cases f with ⟨rfl,hf⟩ | ⟨rfl,hf⟩ | ⟨⟨c0,c1⟩,hf⟩ <;> obtain ⟨e1,e2,e3,e4,e5,e6,e7,e8,e9⟩:=hf
 all_goals
  go_enter Tryz.func147,Tryz.ntmps147
  go_wp2_with (first | (go_at_call 135;refine (widths_any _ _).mono ?_;rintro e w' ⟨rfl,rfl⟩))
  go_ret
  exact ⟨by rw [e3];rfl,rfl⟩

set_option maxHeartbeats 1000000 in
theorem topExponent_any (f:Int) (w:World):
  Calls Tryz.prog 144 #[.int .i64 f] w fun e w'=>e=.returned (.int .u32 (topx f))∧w=w':=by
 rcases fmt_cases f with ⟨rfl,hf⟩ | ⟨rfl,hf⟩ | ⟨⟨c0,c1⟩,hf⟩ <;> obtain ⟨e1,e2,e3,e4,e5,e6,e7,e8,e9⟩:=hf
 all_goals
  go_enter Tryz.func144,Tryz.ntmps144
  go_wp2_with (first | (go_at_call 135;refine (widths_any _ _).mono ?_;rintro e w' ⟨rfl,rfl⟩))
  go_ret
  exact ⟨by rw [e4];rfl,rfl⟩

set_option maxHeartbeats 1000000 in
theorem leastExponent_any (f:Int) (w:World):
  Calls Tryz.prog 172 #[.int .i64 f] w fun e w'=>e=.returned (.int .i64 (lst f))∧w=w':=by
 rcases fmt_cases f with ⟨rfl,hf⟩ | ⟨rfl,hf⟩ | ⟨⟨c0,c1⟩,hf⟩ <;> obtain ⟨e1,e2,e3,e4,e5,e6,e7,e8,e9⟩:=hf
 all_goals
  go_enter Tryz.func172,Tryz.ntmps172
  go_wp2_with (first | (go_at_call 135;refine (widths_any _ _).mono ?_;rintro e w' ⟨rfl,rfl⟩))
  go_ret
  exact ⟨by rw [e6];rfl,rfl⟩

set_option maxHeartbeats 1000000 in
theorem quietBit_any (f:Int) (w:World):
  Calls Tryz.prog 146 #[.int .i64 f] w fun e w'=>e=.returned (.int .u32 (qui f))∧w=w':=by
 rcases fmt_cases f with ⟨rfl,hf⟩ | ⟨rfl,hf⟩ | ⟨⟨c0,c1⟩,hf⟩ <;> obtain ⟨e1,e2,e3,e4,e5,e6,e7,e8,e9⟩:=hf
 all_goals
  go_enter Tryz.func146,Tryz.ntmps146
  go_wp2_with (first | (go_at_call 147;refine (hiddenBit_any _ _).mono ?_;rintro e w' ⟨rfl,rfl⟩))
  go_ret
  exact ⟨by rw [e7];rfl,rfl⟩

set_option maxHeartbeats 1000000 in
theorem fields_any (f:Int) (v:Int) (w:World) (h0:0≤v) (h1:v≤4294967295):
  Calls Tryz.prog 143 #[.int .i64 f,.int .u32 v] w fun e w'=>e=.returned (.tuple #[.int .u32 (fX f v),.int .u32 (fF f v)])∧∃ m,w'=w.drewN m:=by
 have q1:=fX_bd f v
 have q2:=fF_bd f v
 rcases fmt_cases f with ⟨rfl,hf⟩ | ⟨rfl,hf⟩ | ⟨⟨c0,c1⟩,hf⟩ <;> obtain ⟨e1,e2,e3,e4,e5,e6,e7,e8,e9⟩:=hf
 all_goals
  go_enter Tryz.func143,Tryz.ntmps143
  go_wp2_with (first | (go_at_call 135;refine (widths_any _ _).mono ?_;rintro e w' ⟨rfl,rfl⟩))
  go_quiet (fail)
  go_wp2
  go_ret2
  exact ⟨ret_vv (by unfold fX;rw [e3,e4];first | exact and32 _ 5 (by omega) (by omega) (by decide) (by decide) (by decide) | exact and32 _ 8 (by omega) (by omega) (by decide) (by decide) (by decide)) (by unfold fF;rw [e3];first | exact and32 _ 10 (by omega) (by omega) (by decide) (by decide) (by decide) | exact and32 _ 7 (by omega) (by omega) (by decide) (by decide) (by decide) | exact and32 _ 23 (by omega) (by omega) (by decide) (by decide) (by decide)),_,rfl⟩

set_option maxHeartbeats 1000000 in
theorem mask_any (f:Int) (w:World):
  Calls Tryz.prog 79 #[.int .i64 f] w fun e w'=>e=.returned (.int .u32 (msk f))∧w=w':=by
 rcases fmt_cases f with ⟨rfl,hf⟩ | ⟨rfl,hf⟩ | ⟨⟨c0,c1⟩,hf⟩ <;> obtain ⟨e1,e2,e3,e4,e5,e6,e7,e8,e9⟩:=hf
 all_goals
  go_enter Tryz.func79,Tryz.ntmps79
  go_wp2_with (first | (go_at_call 119;refine (signBit_any _ _).mono ?_;rintro e w' ⟨rfl,rfl⟩))
  go_ret
  exact ⟨by rw [e8];rfl,rfl⟩

set_option maxHeartbeats 1000000 in
theorem class_any (f:Int) (v:Int) (w:World) (h0:0≤v) (h1:v≤4294967295):
  Calls Tryz.prog 100 #[.int .i64 f,.int .u32 v] w fun e w'=>e=.returned (.int .i64 (clsI f v))∧∃ m,w'=w.drewN m:=by
 have q1:=fX_bd f v
 have q2:=fF_bd f v
 rcases fmt_cases f with ⟨rfl,hf⟩ | ⟨rfl,hf⟩ | ⟨⟨c0,c1⟩,hf⟩ <;> obtain ⟨e1,e2,e3,e4,e5,e6,e7,e8,e9⟩:=hf
 all_goals
  go_enter Tryz.func100,Tryz.ntmps100
  go_wp2_with (first | (go_at_call 143;refine (fields_any _ _ _ h0 h1).mono ?_;rintro e w' ⟨rfl,m,rfl⟩) | (go_at_call 144;refine (topExponent_any _ _).mono ?_;rintro e w' ⟨rfl,rfl⟩) | (go_at_call 146;refine (quietBit_any _ _).mono ?_;rintro e w' ⟨rfl,rfl⟩))
  all_goals
   go_ret
   exact ⟨ret_int (by unfold clsI;rw [e4,e7];simp only [beq_iff_eq,beq_eq_false_iff_ne,ne_eq,decide_eq_true_eq,decide_eq_false_iff_not] at *;(repeat' split) <;> omega),_,rfl⟩

set_option maxHeartbeats 1000000 in
theorem finite_any (f:Int) (v:Int) (w:World) (h0:0≤v) (h1:v≤4294967295):
  Calls Tryz.prog 98 #[.int .i64 f,.int .u32 v] w fun e w'=>e=.returned (.bool (finI f v))∧∃ m,w'=w.drewN m:=by
 have q1:=fX_bd f v
 have q2:=fF_bd f v
 rcases fmt_cases f with ⟨rfl,hf⟩ | ⟨rfl,hf⟩ | ⟨⟨c0,c1⟩,hf⟩ <;> obtain ⟨e1,e2,e3,e4,e5,e6,e7,e8,e9⟩:=hf
 all_goals
  go_enter Tryz.func98,Tryz.ntmps98
  go_wp2_with (first | (go_at_call 143;refine (fields_any _ _ _ h0 h1).mono ?_;rintro e w' ⟨rfl,m,rfl⟩) | (go_at_call 144;refine (topExponent_any _ _).mono ?_;rintro e w' ⟨rfl,rfl⟩))
  all_goals
   go_ret
   exact ⟨ret_bool (by unfold finI;rw [e4]),_,rfl⟩

set_option maxHeartbeats 1000000 in
theorem unpack_any (f:Int) (v:Int) (w:World) (h0:0≤v) (h1:v≤4294967295):
  Calls Tryz.prog 145 #[.int .i64 f,.int .u32 v] w fun e w'=>e=.returned (.tuple #[.bool (fS f v),.int .i64 (unE f v),.int .u64 (unM f v)])∧∃ m,w'=w.drewN m:=by
 have q1:=fX_bd f v
 have q2:=fF_bd f v
 rcases fmt_cases f with ⟨rfl,hf⟩ | ⟨rfl,hf⟩ | ⟨⟨c0,c1⟩,hf⟩ <;> obtain ⟨e1,e2,e3,e4,e5,e6,e7,e8,e9⟩:=hf
 all_goals
  rw [e4] at q1
  rw [e3] at q2
  go_enter Tryz.func145,Tryz.ntmps145
  go_wp2_with (first | (go_at_call 143;refine (fields_any _ _ _ h0 h1).mono ?_;rintro e w' ⟨rfl,m,rfl⟩) | (go_at_call 144;refine (topExponent_any _ _).mono ?_;rintro e w' ⟨rfl,rfl⟩) | (go_at_call 147;refine (hiddenBit_any _ _).mono ?_;rintro e w' ⟨rfl,rfl⟩) | (go_at_call 172;refine (leastExponent_any _ _).mono ?_;rintro e w' ⟨rfl,rfl⟩) | (go_at_call 119;refine (signBit_any _ _).mono ?_;rintro e w' ⟨rfl,rfl⟩))
  all_goals
   go_ret3
   refine ⟨ret_unp ?_ ?_ ?_,_,rfl⟩
   ·first | exact neg_code _ v 15 h0 h1 (by decide) (by decide) e5 | exact neg_code _ v 31 h0 h1 (by decide) (by decide) e5
   ·unfold unE;rw [e4,e6];simp only [beq_iff_eq,beq_eq_false_iff_ne,ne_eq,wrap64] at *;(repeat' split) <;> omega
   ·unfold unM;rw [e4,e3]
    try rw [un_or _ v 10 (by decide) e3 (by decide)]
    try rw [un_or _ v 7 (by decide) e3 (by decide)]
    try rw [un_or _ v 23 (by decide) e3 (by decide)]
    try rw [IntKind.wrap_u64]
    simp only [beq_iff_eq,beq_eq_false_iff_ne,ne_eq] at *;(repeat' split) <;> omega

set_option maxHeartbeats 1000000 in
theorem zero_any (f:Int) (neg:Bool) (w:World):
  Calls Tryz.prog 122 #[.int .i64 f,.bool neg] w fun e w'=>e=.returned (.int .u32 (zerI f neg))∧w=w':=by
 rcases fmt_cases f with ⟨rfl,hf⟩ | ⟨rfl,hf⟩ | ⟨⟨c0,c1⟩,hf⟩ <;> obtain ⟨e1,e2,e3,e4,e5,e6,e7,e8,e9⟩:=hf
 all_goals
  go_enter Tryz.func122,Tryz.ntmps122
  cases neg
  all_goals
   go_wp2_with (first | (go_at_call 119;refine (signBit_any _ _).mono ?_;rintro e w' ⟨rfl,rfl⟩))
   go_ret
   exact ⟨by simp only [zerI,e5];rfl,rfl⟩

set_option maxHeartbeats 1000000 in
theorem inf_any (f:Int) (neg:Bool) (w:World):
  Calls Tryz.prog 104 #[.int .i64 f,.bool neg] w fun e w'=>e=.returned (.int .u32 (infI f neg))∧w=w':=by
 rcases fmt_cases f with ⟨rfl,hf⟩ | ⟨rfl,hf⟩ | ⟨⟨c0,c1⟩,hf⟩ <;> obtain ⟨e1,e2,e3,e4,e5,e6,e7,e8,e9⟩:=hf
 all_goals
  go_enter Tryz.func104,Tryz.ntmps104
  cases neg
  all_goals
   go_wp2_with (first | (go_at_call 122;refine (zero_any _ _ _).mono ?_;rintro e w' ⟨rfl,rfl⟩) | (go_at_call 144;refine (topExponent_any _ _).mono ?_;rintro e w' ⟨rfl,rfl⟩) | (go_at_call 147;refine (hiddenBit_any _ _).mono ?_;rintro e w' ⟨rfl,rfl⟩))
   go_ret
   exact ⟨ret_int (by simp only [infI,zerI,e3,e4,e5];decide),rfl⟩

set_option maxHeartbeats 1000000 in
theorem greatest_any (f:Int) (neg:Bool) (w:World):
  Calls Tryz.prog 141 #[.int .i64 f,.bool neg] w fun e w'=>e=.returned (.int .u32 (greI f neg))∧w=w':=by
 rcases fmt_cases f with ⟨rfl,hf⟩ | ⟨rfl,hf⟩ | ⟨⟨c0,c1⟩,hf⟩ <;> obtain ⟨e1,e2,e3,e4,e5,e6,e7,e8,e9⟩:=hf
 all_goals
  go_enter Tryz.func141,Tryz.ntmps141
  cases neg
  all_goals
   go_wp2_with (first | (go_at_call 104;refine (inf_any _ _ _).mono ?_;rintro e w' ⟨rfl,rfl⟩))
   go_ret
   exact ⟨ret_int (by simp only [greI,infI,zerI,e3,e4,e5];decide),rfl⟩

set_option maxHeartbeats 1000000 in
theorem nan_any (f:Int) (w:World):
  Calls Tryz.prog 103 #[.int .i64 f] w fun e w'=>e=.returned (.int .u32 (nanI f))∧w=w':=by
 rcases fmt_cases f with ⟨rfl,hf⟩ | ⟨rfl,hf⟩ | ⟨⟨c0,c1⟩,hf⟩ <;> obtain ⟨e1,e2,e3,e4,e5,e6,e7,e8,e9⟩:=hf
 all_goals
  go_enter Tryz.func103,Tryz.ntmps103
  go_wp2_with (first | (go_at_call 104;refine (inf_any _ _ _).mono ?_;rintro e w' ⟨rfl,rfl⟩) | (go_at_call 146;refine (quietBit_any _ _).mono ?_;rintro e w' ⟨rfl,rfl⟩))
  all_goals
   go_ret
   exact ⟨ret_int (by simp only [nanI,infI,zerI,e3,e4,e5,e7];decide),rfl⟩

set_option maxHeartbeats 400000 in
theorem cut_any (v n:Int) (w:World) (h0:0≤v) (h1:v≤18446744073709551615):
  Calls Tryz.prog 169 #[.int .u64 v,.int .i64 n] w fun e w'=>e=.returned (.int .u64 (cutI v n))∧w=w':=by
 by_cases c1:n<1
 ·go_enter Tryz.func169,Tryz.ntmps169
  go_wp2
  go_ret
  exact ⟨ret_int (cut_low v n c1),rfl⟩
 ·by_cases c2:63<n
  ·go_enter Tryz.func169,Tryz.ntmps169
   go_wp2
   go_ret
   exact ⟨ret_int (cut_high v n h0 h1 c2),rfl⟩
  ·go_enter Tryz.func169,Tryz.ntmps169
   go_wp2
   go_ret
   exact ⟨ret_int (cut_mid v n h0 h1 (by omega)),rfl⟩

set_option maxHeartbeats 400000 in
theorem shift_any (v n:Int) (w:World) (h0:0≤v) (h1:v≤18446744073709551615) (n0:-9223372036854775808≤n) (n1:n≤9223372036854775807):
  Calls Tryz.prog 148 #[.int .u64 v,.int .i64 n] w fun e w'=>e=.returned (.tuple #[.int .u64 (shV v n),.bool (shO v n)])∧∃ m,w'=w.drewN m:=by
 by_cases c1:n≤-64
 ·go_enter Tryz.func148,Tryz.ntmps148
  go_wp2
  go_ret2
  exact ⟨ret_vb (sh_far_v v n h0 h1 (.inl c1)) (sh_far_o v n h0 h1 (.inl c1)),0,rfl⟩
 ·by_cases c2:64≤n
  ·go_enter Tryz.func148,Tryz.ntmps148
   go_wp2
   go_ret2
   exact ⟨ret_vb (sh_far_v v n h0 h1 (.inr c2)) (sh_far_o v n h0 h1 (.inr c2)),0,rfl⟩
  ·by_cases c3:n<0
   ·go_enter Tryz.func148,Tryz.ntmps148
    go_wp2
    go_quiet (fail)
    go_wp2
    go_ret2
    exact ⟨ret_vb (sh_left_v' v n c3) (sh_left_o' v n h0 c3 (by omega)),_,rfl⟩
   ·go_enter Tryz.func148,Tryz.ntmps148
    go_wp2
    go_quiet ((go_at_call 169;exact quiet_same (cut_any _ _ _ h0 h1)))
    go_wp2
    go_ret2
    exact ⟨ret_vb (sh_right_v v n (by omega)) (sh_right_o v n (by omega)),_,rfl⟩

set_option maxHeartbeats 1000000 in
theorem len_any (v : Int) (w : World) (h0 : 0 ≤ v) (h1 : v ≤ 18446744073709551615) :
    Calls Tryz.prog 138 #[.int .u64 v] w fun e w' => e = .returned (.int .i64 (lenI v)) ∧ w = w' := by
  go_enter Tryz.func138, Tryz.ntmps138
  go_wp2
  go_loop [0, 3, 4] (fun x n s => ∃ X N S : Int, x = .int .u64 X ∧ n = .int .i64 N ∧ s = .int .i64 S ∧
      ((S = 32 ∧ LenAt v X N 18446744073709551616) ∨ (S = 16 ∧ LenAt v X N 4294967296) ∨ (S = 8 ∧ LenAt v X N 65536) ∨ (S = 4 ∧ LenAt v X N 256) ∨ (S = 2 ∧ LenAt v X N 16) ∨ (S = 1 ∧ LenAt v X N 4) ∨ (S = 0 ∧ LenAt v X N 2)))
    (fun _ _ s => (intOf s).toNat)
  case atStart => exact ⟨v, 0, 32, rfl, rfl, rfl, .inl ⟨rfl, lenAt_start v h0 h1⟩⟩
  case round =>
    obtain ⟨X, N, S, rfl, rfl, rfl, hS⟩ := hrel
    rcases hS with ⟨rfl, hL⟩ | ⟨rfl, hL⟩ | ⟨rfl, hL⟩ | ⟨rfl, hL⟩ | ⟨rfl, hL⟩ | ⟨rfl, hL⟩ | ⟨rfl, hL⟩
    all_goals
      obtain ⟨b0, b1, b2, b3⟩ := lenAt_bd hL h0 h1
      go_wp2
    all_goals first
      | (refine ⟨⟨_, _, _, rfl, rfl, rfl, ?_⟩, by simp [intOf]⟩
         first
          | exact .inr (.inl ⟨rfl, lenAt_y 4294967296 32 hL (by assumption) (by decide) (by decide) (by decide)⟩)
          | exact .inr (.inl ⟨rfl, lenAt_n 4294967296 hL (by assumption) (by decide)⟩)
          | exact .inr (.inr (.inl ⟨rfl, lenAt_y 65536 16 hL (by assumption) (by decide) (by decide) (by decide)⟩))
          | exact .inr (.inr (.inl ⟨rfl, lenAt_n 65536 hL (by assumption) (by decide)⟩))
          | exact .inr (.inr (.inr (.inl ⟨rfl, lenAt_y 256 8 hL (by assumption) (by decide) (by decide) (by decide)⟩)))
          | exact .inr (.inr (.inr (.inl ⟨rfl, lenAt_n 256 hL (by assumption) (by decide)⟩)))
          | exact .inr (.inr (.inr (.inr (.inl ⟨rfl, lenAt_y 16 4 hL (by assumption) (by decide) (by decide) (by decide)⟩))))
          | exact .inr (.inr (.inr (.inr (.inl ⟨rfl, lenAt_n 16 hL (by assumption) (by decide)⟩))))
          | exact .inr (.inr (.inr (.inr (.inr (.inl ⟨rfl, lenAt_y 4 2 hL (by assumption) (by decide) (by decide) (by decide)⟩)))))
          | exact .inr (.inr (.inr (.inr (.inr (.inl ⟨rfl, lenAt_n 4 hL (by assumption) (by decide)⟩)))))
          | exact .inr (.inr (.inr (.inr (.inr (.inr ⟨rfl, lenAt_y 2 1 hL (by assumption) (by decide) (by decide) (by decide)⟩)))))
          | exact .inr (.inr (.inr (.inr (.inr (.inr ⟨rfl, lenAt_n 2 hL (by assumption) (by decide)⟩))))))
      | (go_ret; exact ⟨ret_int (lenAt_end hL), rfl⟩)

theorem un_zero (f:Int):unE f 0=lst f:=by
 rcases fmt_cases f with ⟨rfl,hf⟩ | ⟨rfl,hf⟩ | ⟨⟨c0,c1⟩,hf⟩ <;> obtain ⟨e1,e2,e3,e4,e5,e6,e7,e8,e9⟩:=hf
 ·decide
 ·decide
 ·unfold unE fX;rw [e3,e4];simp

set_option maxHeartbeats 400000 in
theorem leastUnit_any (f:Int) (w:World):
  Calls Tryz.prog 136 #[.int .i64 f] w fun e w'=>e=.returned (.int .i64 (lst f))∧∃ m,w'=w.drewN m:=by
 have hz:zerI f false=0:=rfl
 have hu:=un_zero f
 go_enter Tryz.func136,Tryz.ntmps136
 go_wp2_with (first
  | (go_at_call 122;refine (zero_any _ _ _).mono ?_;rintro e w' ⟨rfl,rfl⟩)
  | (go_at_call 145;refine (unpack_any _ _ _ (by omega) (by omega)).mono ?_;rintro e w' ⟨rfl,m,rfl⟩))
 go_ret
 exact ⟨rfl,_,rfl⟩

set_option maxHeartbeats 400000 in
theorem reach_any (exp sig:Int) (w:World) (h0:-9223372036854775808≤exp) (h1:exp≤9223372036854775807) (s0:0≤sig) (s1:sig≤18446744073709551615):
  Calls Tryz.prog 137 #[.int .i64 exp,.int .u64 sig] w fun e w'=>e=.returned (.int .i64 (reaI exp sig))∧w=w':=by
 by_cases c:sig=0
 ·subst c
  go_enter Tryz.func137,Tryz.ntmps137
  go_wp2
  go_ret
  exact ⟨rfl,rfl⟩
 ·go_enter Tryz.func137,Tryz.ntmps137
  go_wp2
  all_goals
   go_ret
   exact ⟨ret_int (by unfold reaI clampE;rw [if_neg c];(repeat' split) <;> simp_all <;> omega),rfl⟩

set_option maxHeartbeats 400000 in
theorem split_any (v n:Int) (more:Bool) (w:World) (h0:0≤v) (h1:v≤18446744073709551615) (n0:-100000≤n) (n1:n≤100000):
  Calls Tryz.prog 139 #[.int .u64 v,.int .i64 n,.bool more] w fun e w'=>e=.returned (.tuple #[.int .u64 (spQ v n more / 4),.int .u64 (spQ v n more%4)])∧∃ m,w'=w.drewN m:=by
 obtain ⟨b0,b1⟩:=shV_bd v (n - 2) h0 h1
 have ho:=or_one64 _ b0 b1
 cases hm:shO v (n - 2) <;> cases more
 all_goals
  go_enter Tryz.func139,Tryz.ntmps139
  go_wp2_with (first
   | (go_at_call 148;refine (shift_any _ _ _ h0 h1 (by omega) (by omega)).mono ?_;rintro e w' ⟨rfl,m,rfl⟩)
   | (go_at_call 169;refine (cut_any _ _ _ (by omega) (by omega)).mono ?_;rintro e w' ⟨rfl,rfl⟩))
  go_ret2
  exact ⟨by simp only [spQ,hm];exact ret_vv (by simp) (by simp [cutI]),_,rfl⟩

set_option maxHeartbeats 400000 in
theorem grows_any (mode:Int) (neg:Bool) (k c:Int) (w:World) (k0:0≤k) (k1:k≤18446744073709551615) (c0:0≤c) (c1:c≤3):
  Calls Tryz.prog 140 #[.int .i64 mode,.bool neg,.int .u64 k,.int .u64 c] w fun e w'=>e=.returned (.bool (growB mode neg k.toNat c.toNat))∧w=w':=by
 obtain ⟨K,rfl⟩:=Int.eq_ofNat_of_zero_le k0
 have h3:c=0∨c=1∨c=2∨c=3:=by omega
 rcases h3 with rfl | rfl | rfl | rfl
 all_goals
  go_enter Tryz.func140,Tryz.ntmps140
  go_wp2_with (go_at_call 169;refine (cut_any _ _ _ (by omega) (by omega)).mono ?_;rintro e w' ⟨rfl,rfl⟩)
  all_goals
   go_ret
   exact ⟨ret_bool (by simp_all [growB,cutI] <;> rw [Bool.eq_iff_iff,beq_iff_eq,beq_iff_eq] <;> omega),rfl⟩

set_option maxHeartbeats 400000 in
theorem beyond_any (f mode:Int) (neg:Bool) (w:World):
  Calls Tryz.prog 142 #[.int .i64 f,.int .i64 mode,.bool neg] w fun e w'=>e=.returned (.int .u32 (beyI f mode neg))∧w=w':=by
 cases neg
 all_goals
  go_enter Tryz.func142,Tryz.ntmps142
  go_wp2_with (first
   | (go_at_call 141;refine (greatest_any _ _ _).mono ?_;rintro e w' ⟨rfl,rfl⟩)
   | (go_at_call 104;refine (inf_any _ _ _).mono ?_;rintro e w' ⟨rfl,rfl⟩))
  all_goals
   go_ret
   exact ⟨ret_int (by simp_all [beyI,inB]),rfl⟩

set_option maxHeartbeats 1000000 in
theorem pack_low (f mode:Int) (neg:Bool) (exp sig R L Q:Int) (more:Bool) (w:World) (h0:-9223372036854775808≤exp) (h1:exp≤9223372036854775807) (sp:0<sig) (s1:sig≤18446744073709551615)
  (hR:Hid (reaI exp sig=R)) (hL:Hid (lenI sig=L)) (hr0:-10000≤R) (hr1:R≤10000) (hl0:0≤L) (hl1:L≤64) (c:R+L - 1 - fn f<lst f)
  (hQ:Hid (spQ sig (lst f - R) more=Q)) (q0:0≤Q) (q1:Q≤18446744073709551615) (HA:Hid (AtQ f (valN (clampE exp) sig more) 0 Q (R+L - 1 - fn f))):
  Calls Tryz.prog 97 #[.int .i64 f,.int .i64 mode,.bool neg,.int .i64 exp,.int .u64 sig,.bool more] w fun e w'=>e=PackE f mode neg (valN (clampE exp) sig more)∧Grown w w':=by
 obtain ⟨hn0,hn1⟩:=fn_bd f
 obtain ⟨hu0,hu1⟩:=lst_bd f
 have s0:0≤sig:=by omega
 go_enter Tryz.func97,Tryz.ntmps97
 go_wp2_with (first
   | (go_at_call 122;refine (zero_any _ _ _).mono ?_;rintro e w' ⟨rfl,rfl⟩)
   | (go_at_call 135;refine (widths_any _ _).mono ?_;rintro e w' ⟨rfl,rfl⟩)
   | (go_at_call 136;refine (leastUnit_any _ _).mono ?_;rintro e w' ⟨rfl,m1,rfl⟩)
   | (go_at_call 137;refine (reach_any _ _ _ (by omega) (by omega) (by omega) (by omega)).mono ?_;rintro e w' ⟨he,rfl⟩;rw [hR.out] at he;subst he)
   | (go_at_call 138;refine (len_any _ _ (by omega) (by omega)).mono ?_;rintro e w' ⟨he,rfl⟩;rw [hL.out] at he;subst he)
   | (go_at_call 139;refine (split_any _ _ _ _ s0 s1 (by omega) (by omega)).mono ?_;rintro e w' ⟨he,m2,rfl⟩;rw [hQ.out] at he;subst he)
   | (go_at_call 140;refine (grows_any _ _ _ _ _ (by omega) (by omega) (by omega) (by omega)).mono ?_;rintro e w' ⟨rfl,rfl⟩)
   | (go_at_call 142;refine (beyond_any _ _ _ _).mono ?_;rintro e w' ⟨rfl,rfl⟩)
   | (go_at_call 141;refine (greatest_any _ _ _).mono ?_;rintro e w' ⟨rfl,rfl⟩))
 all_goals
  (try simp only [Exit.inBlock,Exit.then])
  refine bodyPost_ret (v:=.tuple #[.int .u32 (rdV f mode neg (valN (clampE exp) sig more)),.agg #[.bool false,.bool false,.bool (rdO f mode neg (valN (clampE exp) sig more)),.bool (rdU f (valN (clampE exp) sig more)),.bool (rdX f mode neg (valN (clampE exp) sig more))]]) ?_ rfl ⟨packE_is _ _ _ _,by
   repeat refine Grown.setCell ?_ (Nat.le_refl _) _
   exact grown_more (Grown.alloc (Grown.refl _) _ _) _⟩
  rw [results_tmp_cell rfl]
  go_simp
  first
   | exact way_over true HA.out (by assumption) (by simp only [Bool.toNat_true];omega)
   | exact way_over false HA.out (by assumption) (by simp only [Bool.toNat_false];omega)
   | exact way_in0 true HA.out (by assumption) (by simp only [Bool.toNat_true];omega) (by omega) (by assumption)
   | exact way_in0 false HA.out (by assumption) (by simp only [Bool.toNat_false];omega) (by omega) (by assumption)
   | exact way_inL true HA.out (by assumption) (by simp only [Bool.toNat_true];omega) (by omega) c
   | exact way_inL false HA.out (by assumption) (by simp only [Bool.toNat_false];omega) (by omega) c
   | exact way_in true HA.out (by assumption) (by simp only [Bool.toNat_true];omega) (by omega)
   | exact way_in false HA.out (by assumption) (by simp only [Bool.toNat_false];omega) (by omega)

set_option maxHeartbeats 1000000 in
theorem pack_high (f mode:Int) (neg:Bool) (exp sig R L Q:Int) (more:Bool) (w:World) (h0:-9223372036854775808≤exp) (h1:exp≤9223372036854775807) (sp:0<sig) (s1:sig≤18446744073709551615)
  (hR:Hid (reaI exp sig=R)) (hL:Hid (lenI sig=L)) (hr0:-10000≤R) (hr1:R≤10000) (hl0:0≤L) (hl1:L≤64) (c:lst f≤R+L - 1 - fn f)
  (hQ:Hid (spQ sig ((R+L - 1 - fn f) - R) more=Q)) (q0:0≤Q) (q1:Q≤18446744073709551615) (D:Int) (hD:IntKind.u64.wrap ((R+L - 1 - fn f - lst f)*2^fn f)=D) (d0:0≤D) (d1:D≤1000000000000) (HA:Hid (AtQ f (valN (clampE exp) sig more) D Q (R+L - 1 - fn f))):
  Calls Tryz.prog 97 #[.int .i64 f,.int .i64 mode,.bool neg,.int .i64 exp,.int .u64 sig,.bool more] w fun e w'=>e=PackE f mode neg (valN (clampE exp) sig more)∧Grown w w':=by
 obtain ⟨hn0,hn1⟩:=fn_bd f
 obtain ⟨hu0,hu1⟩:=lst_bd f
 have s0:0≤sig:=by omega
 go_enter Tryz.func97,Tryz.ntmps97
 go_wp2_with (first
   | (go_at_call 122;refine (zero_any _ _ _).mono ?_;rintro e w' ⟨rfl,rfl⟩)
   | (go_at_call 135;refine (widths_any _ _).mono ?_;rintro e w' ⟨rfl,rfl⟩)
   | (go_at_call 136;refine (leastUnit_any _ _).mono ?_;rintro e w' ⟨rfl,m1,rfl⟩)
   | (go_at_call 137;refine (reach_any _ _ _ (by omega) (by omega) (by omega) (by omega)).mono ?_;rintro e w' ⟨he,rfl⟩;rw [hR.out] at he;subst he)
   | (go_at_call 138;refine (len_any _ _ (by omega) (by omega)).mono ?_;rintro e w' ⟨he,rfl⟩;rw [hL.out] at he;subst he)
   | (go_at_call 139;refine (split_any _ _ _ _ s0 s1 (by omega) (by omega)).mono ?_;rintro e w' ⟨he,m2,rfl⟩;rw [hQ.out] at he;subst he)
   | (go_at_call 140;refine (grows_any _ _ _ _ _ (by omega) (by omega) (by omega) (by omega)).mono ?_;rintro e w' ⟨rfl,rfl⟩)
   | (go_at_call 142;refine (beyond_any _ _ _ _).mono ?_;rintro e w' ⟨rfl,rfl⟩)
   | (go_at_call 141;refine (greatest_any _ _ _).mono ?_;rintro e w' ⟨rfl,rfl⟩))
 all_goals
  (try simp only [Exit.inBlock,Exit.then])
  refine bodyPost_ret (v:=.tuple #[.int .u32 (rdV f mode neg (valN (clampE exp) sig more)),.agg #[.bool false,.bool false,.bool (rdO f mode neg (valN (clampE exp) sig more)),.bool (rdU f (valN (clampE exp) sig more)),.bool (rdX f mode neg (valN (clampE exp) sig more))]]) ?_ rfl ⟨packE_is _ _ _ _,by
   repeat refine Grown.setCell ?_ (Nat.le_refl _) _
   exact grown_more (Grown.alloc (Grown.refl _) _ _) _⟩
  rw [results_tmp_cell rfl]
  go_simp
  first
   | exact way_over true HA.out (by assumption) (by simp only [Bool.toNat_true];omega)
   | exact way_over false HA.out (by assumption) (by simp only [Bool.toNat_false];omega)
   | exact way_in0 true HA.out (by assumption) (by simp only [Bool.toNat_true];omega) (by omega) (by assumption)
   | exact way_in0 false HA.out (by assumption) (by simp only [Bool.toNat_false];omega) (by omega) (by assumption)
   | exact way_inL true HA.out (by assumption) (by simp only [Bool.toNat_true];omega) (by omega) c
   | exact way_inL false HA.out (by assumption) (by simp only [Bool.toNat_false];omega) (by omega) c
   | exact way_in true HA.out (by assumption) (by simp only [Bool.toNat_true];omega) (by omega)
   | exact way_in false HA.out (by assumption) (by simp only [Bool.toNat_false];omega) (by omega)

set_option maxHeartbeats 1000000 in
theorem pack_tiny (f mode:Int) (neg:Bool) (exp R L Q:Int) (w:World) (h0:-9223372036854775808≤exp) (h1:exp≤9223372036854775807)
  (hR:Hid (reaI exp 0=R)) (hL:Hid (lenI 0=L)) (hr0:-10000≤R) (hr1:R≤10000) (hl0:0≤L) (hl1:L≤64) (c:R+L - 1 - fn f<lst f)
  (hQ:Hid (spQ 0 (lst f - R) true=Q)) (q0:0≤Q) (q1:Q≤18446744073709551615) (HA:Hid (AtQ f (valN (clampE exp) 0 true) 0 Q (R+L - 1 - fn f))):
  Calls Tryz.prog 97 #[.int .i64 f,.int .i64 mode,.bool neg,.int .i64 exp,.int .u64 0,.bool true] w fun e w'=>e=PackE f mode neg (valN (clampE exp) 0 true)∧Grown w w':=by
 obtain ⟨hn0,hn1⟩:=fn_bd f
 obtain ⟨hu0,hu1⟩:=lst_bd f
 have s0:(0:Int)≤0:=by omega
 have s1:(0:Int)≤18446744073709551615:=by omega
 go_enter Tryz.func97,Tryz.ntmps97
 go_wp2_with (first
   | (go_at_call 122;refine (zero_any _ _ _).mono ?_;rintro e w' ⟨rfl,rfl⟩)
   | (go_at_call 135;refine (widths_any _ _).mono ?_;rintro e w' ⟨rfl,rfl⟩)
   | (go_at_call 136;refine (leastUnit_any _ _).mono ?_;rintro e w' ⟨rfl,m1,rfl⟩)
   | (go_at_call 137;refine (reach_any _ _ _ (by omega) (by omega) (by omega) (by omega)).mono ?_;rintro e w' ⟨he,rfl⟩;rw [hR.out] at he;subst he)
   | (go_at_call 138;refine (len_any _ _ (by omega) (by omega)).mono ?_;rintro e w' ⟨he,rfl⟩;rw [hL.out] at he;subst he)
   | (go_at_call 139;refine (split_any _ _ _ _ s0 s1 (by omega) (by omega)).mono ?_;rintro e w' ⟨he,m2,rfl⟩;rw [hQ.out] at he;subst he)
   | (go_at_call 140;refine (grows_any _ _ _ _ _ (by omega) (by omega) (by omega) (by omega)).mono ?_;rintro e w' ⟨rfl,rfl⟩)
   | (go_at_call 142;refine (beyond_any _ _ _ _).mono ?_;rintro e w' ⟨rfl,rfl⟩)
   | (go_at_call 141;refine (greatest_any _ _ _).mono ?_;rintro e w' ⟨rfl,rfl⟩))
 all_goals
  (try simp only [Exit.inBlock,Exit.then])
  refine bodyPost_ret (v:=.tuple #[.int .u32 (rdV f mode neg (valN (clampE exp) 0 true)),.agg #[.bool false,.bool false,.bool (rdO f mode neg (valN (clampE exp) 0 true)),.bool (rdU f (valN (clampE exp) 0 true)),.bool (rdX f mode neg (valN (clampE exp) 0 true))]]) ?_ rfl ⟨packE_is _ _ _ _,by
   repeat refine Grown.setCell ?_ (Nat.le_refl _) _
   exact grown_more (Grown.alloc (Grown.refl _) _ _) _⟩
  rw [results_tmp_cell rfl]
  go_simp
  first
   | exact way_over true HA.out (by assumption) (by simp only [Bool.toNat_true];omega)
   | exact way_over false HA.out (by assumption) (by simp only [Bool.toNat_false];omega)
   | exact way_in0 true HA.out (by assumption) (by simp only [Bool.toNat_true];omega) (by omega) (by assumption)
   | exact way_in0 false HA.out (by assumption) (by simp only [Bool.toNat_false];omega) (by omega) (by assumption)
   | exact way_inL true HA.out (by assumption) (by simp only [Bool.toNat_true];omega) (by omega) c
   | exact way_inL false HA.out (by assumption) (by simp only [Bool.toNat_false];omega) (by omega) c
   | exact way_in true HA.out (by assumption) (by simp only [Bool.toNat_true];omega) (by omega)
   | exact way_in false HA.out (by assumption) (by simp only [Bool.toNat_false];omega) (by omega)

set_option maxHeartbeats 1000000 in
theorem pack_zero (f mode:Int) (neg:Bool) (exp:Int) (w:World):
  Calls Tryz.prog 97 #[.int .i64 f,.int .i64 mode,.bool neg,.int .i64 exp,.int .u64 0,.bool false] w fun e w'=>e=PackE f mode neg (valN (clampE exp) 0 false)∧Grown w w':=by
 have hv:valN (clampE exp) 0 false=0:=by unfold valN;simp
 obtain ⟨z1,z2,z3,z4⟩:=rd_zero f mode neg
 have hp:Hid (PackE f mode neg (valN (clampE exp) 0 false)=.returned (.tuple #[.int .u32 (zerI f neg),.agg #[.bool false,.bool false,.bool false,.bool false,.bool false]])):=by
  show _=_
  rw [hv,←packE_is,z1,z2,z3,z4]
 clear hv z1 z2 z3 z4
 go_enter Tryz.func97,Tryz.ntmps97
 go_wp2_with (first
   | (go_at_call 122;refine (zero_any _ _ _).mono ?_;rintro e w' ⟨rfl,rfl⟩))
 (try simp only [Exit.inBlock,Exit.then])
 refine bodyPost_ret (v:=.tuple #[.int .u32 (zerI f neg),.agg #[.bool false,.bool false,.bool false,.bool false,.bool false]]) ?_ rfl ⟨hp.out.symm,?_⟩
 ·rw [results_tmp_cell rfl]
  go_simp
 ·repeat refine Grown.setCell ?_ (Nat.le_refl _) _
  exact Grown.alloc (Grown.refl _) _ _

theorem pack_any (f mode:Int) (neg:Bool) (exp sig:Int) (more:Bool) (w:World) (h0:-9223372036854775808≤exp) (h1:exp≤9223372036854775807) (s0:0≤sig) (s1:sig≤18446744073709551615):
  Calls Tryz.prog 97 #[.int .i64 f,.int .i64 mode,.bool neg,.int .i64 exp,.int .u64 sig,.bool more] w fun e w'=>e=PackE f mode neg (valN (clampE exp) sig more)∧Grown w w':=by
 have hc:=clamp_bd exp
 have hr:-10000≤reaI exp sig∧reaI exp sig≤10000:=by unfold reaI;split <;> omega
 have hl0:=len_nonneg sig
 have hl1:=len_le64 sig s0 s1
 by_cases cz:0<sig∨more=true
 ·by_cases c:reaI exp sig+lenI sig - 1 - fn f<lst f
  ·obtain ⟨a1,a2,a3,a4,a5⟩:=pack_val f exp sig _ _ (lst f) more s0 s1 cz rfl rfl (.inl ⟨c,rfl⟩)
   have HA:AtQ f (valN (clampE exp) sig more) 0 (spQ sig (lst f - reaI exp sig) more) (reaI exp sig+lenI sig - 1 - fn f):=⟨by rw [a3,Int.sub_self,Int.zero_mul],a1,a2,a4⟩
   obtain ⟨q0,q1⟩:=spQ_bd sig (lst f - reaI exp sig) more s0 s1
   by_cases cs:0<sig
   ·exact pack_low f mode neg exp sig _ _ _ more w h0 h1 cs s1 rfl rfl hr.1 hr.2 hl0 hl1 c rfl q0 q1 HA
   ·have e1:sig=0:=by omega
    have e2:more=true:=cz.resolve_left cs
    subst e1 e2
    exact pack_tiny f mode neg exp _ _ _ w h0 h1 rfl rfl hr.1 hr.2 hl0 hl1 c rfl q0 q1 HA
  ·have c':lst f≤reaI exp sig+lenI sig - 1 - fn f:=by omega
   have cs:0<sig:=by
    rcases Int.lt_or_le 0 sig with h | h
    ·exact h
    ·have e1:sig=0:=by omega
     subst e1
     have:=lst_bd f
     rw [len_zero] at c'
     rw [show reaI exp 0=-10000 from rfl] at c'
     omega
   obtain ⟨a1,a2,a3,a4,a5⟩:=pack_val f exp sig _ _ (reaI exp sig+lenI sig - 1 - fn f) more s0 s1 cz rfl rfl (.inr ⟨c',rfl⟩)
   obtain ⟨q0,q1⟩:=spQ_bd sig (reaI exp sig+lenI sig - 1 - fn f - reaI exp sig) more s0 s1
   obtain ⟨d0,d1,d2⟩:=high_bits f _ _ hr.2 hl1 c'
   exact pack_high f mode neg exp sig _ _ _ more w h0 h1 cs s1 rfl rfl hr.1 hr.2 hl0 hl1 c' rfl q0 q1 _ d0 d1 d2 ⟨by rw [a3],a1,a2,a4⟩
 ·have e1:sig=0:=by omega
  have e2:more=false:=(Bool.not_eq_true more).mp (fun h=>cz (.inr h))
  subst e1 e2
  exact pack_zero f mode neg exp w

structure PartAt (b:Nat) (n:Bool) (e M:Int) (W:World):Prop where
 lies:b<W.heap.size
 c0:W.cell? ⟨b,0,none⟩=some (.bool n)
 c1:W.cell? ⟨b,1,none⟩=some (.int .i64 e)
 c2:W.cell? ⟨b,2,none⟩=some (.int .u64 M)
 z0:W.frozen? ⟨b,0,none⟩=false
 z1:W.frozen? ⟨b,1,none⟩=false
 z2:W.frozen? ⟨b,2,none⟩=false

theorem PartAt.grown {b:Nat} {n:Bool} {e M:Int} {W W':World} (h:PartAt b n e M W) (g:Grown W W'):PartAt b n e M W':=
 ⟨Nat.lt_of_lt_of_le h.lies g.2.2,grown_cell g h.c0 h.lies,grown_cell g h.c1 h.lies,grown_cell g h.c2 h.lies,
  by rw [g.2.1];exact h.z0,by rw [g.2.1];exact h.z1,by rw [g.2.1];exact h.z2⟩

theorem part_new (w:World) (n:Bool) (e M:Int) (t:TypeId):PartAt w.heap.size n e M (w.alloc (.cells #[.bool n,.int .i64 e,.int .u64 M] t)):=by
 refine ⟨by show w.heap.size<(w.heap.push _).size;simp,?_,?_,?_,?_,?_,?_⟩
 all_goals go_simp

theorem PartAt.under1 {b:Nat} {n:Bool} {e M:Int} {W:World} (h:PartAt b n e M W) (C:Array Value) (t:TypeId):PartAt b n e M (W.alloc (.cells C t)):=
 h.grown (Grown.alloc (Grown.refl _) _ _)

theorem cells2 (W:World) (a b:Value) (u:TypeId):
  (W.alloc (.cells #[a,b] u)).cell? ⟨W.heap.size,0,none⟩=some a∧(W.alloc (.cells #[a,b] u)).cell? ⟨W.heap.size,1,none⟩=some b:=by
 refine ⟨?_,?_⟩ <;> go_simp

theorem cells2b (W:World) (C:Array Value) (t:TypeId) (a b:Value) (u:TypeId):
  ((W.alloc (.cells C t)).alloc (.cells #[a,b] u)).cell? ⟨W.heap.size+1,0,none⟩=some a∧((W.alloc (.cells C t)).alloc (.cells #[a,b] u)).cell? ⟨W.heap.size+1,1,none⟩=some b:=by
 refine ⟨?_,?_⟩ <;> go_simp

theorem cells3b (W:World) (C:Array Value) (t:TypeId) (a b c:Value) (u:TypeId):
  ((W.alloc (.cells C t)).alloc (.cells #[a,b,c] u)).cell? ⟨W.heap.size+1,0,none⟩=some a∧((W.alloc (.cells C t)).alloc (.cells #[a,b,c] u)).cell? ⟨W.heap.size+1,1,none⟩=some b∧((W.alloc (.cells C t)).alloc (.cells #[a,b,c] u)).cell? ⟨W.heap.size+1,2,none⟩=some c:=by
 refine ⟨?_,?_,?_⟩ <;> go_simp

set_option maxHeartbeats 1000000 in
theorem oneIs2_any (k a b:Int) (p:Nat) (w:World) (hc:w.cell? ⟨p,0,none⟩=some (.int .i64 a)) (hd:w.cell? ⟨p,1,none⟩=some (.int .i64 b)):
  Calls Tryz.prog 123 #[.int .i64 k,.slice (some ⟨p,0,none⟩) 2 2] w fun e w'=>e=.returned (.bool (a==k || b==k))∧w=w':=by
 obtain ⟨A,hA⟩:∃ A,(a==k)=A:=⟨_,rfl⟩
 obtain ⟨B,hB⟩:∃ B,(b==k)=B:=⟨_,rfl⟩
 have HA:=Lib.hid hA
 have HB:=Lib.hid hB
 cases A
 all_goals
  cases B
  all_goals
   go_enter Tryz.func123,Tryz.ntmps123
   go_wp2
   refine wp_loop_rounds 3 ?_
   repeat any_goals (rw [rounds_succ];go_wp2)
   go_ret
   exact ⟨ret_bool (by rw [HA.out,HB.out];rfl),rfl⟩

set_option maxHeartbeats 1000000 in
theorem oneIs3_any (k a b c:Int) (p:Nat) (w:World) (hc:w.cell? ⟨p,0,none⟩=some (.int .i64 a)) (hd:w.cell? ⟨p,1,none⟩=some (.int .i64 b)) (he:w.cell? ⟨p,2,none⟩=some (.int .i64 c)):
  Calls Tryz.prog 123 #[.int .i64 k,.slice (some ⟨p,0,none⟩) 3 3] w fun e w'=>e=.returned (.bool (a==k || b==k || c==k))∧w=w':=by
 obtain ⟨A,hA⟩:∃ A,(a==k)=A:=⟨_,rfl⟩
 obtain ⟨B,hB⟩:∃ B,(b==k)=B:=⟨_,rfl⟩
 obtain ⟨C,hC⟩:∃ C,(c==k)=C:=⟨_,rfl⟩
 have HA:=Lib.hid hA
 have HB:=Lib.hid hB
 have HC:=Lib.hid hC
 cases A
 all_goals
  cases B
  all_goals
   cases C
   all_goals
    go_enter Tryz.func123,Tryz.ntmps123
    go_wp2
    refine wp_loop_rounds 4 ?_
    repeat any_goals (rw [rounds_succ];go_wp2)
    go_ret
    exact ⟨ret_bool (by rw [HA.out,HB.out,HC.out];rfl),rfl⟩

set_option maxHeartbeats 1000000 in
theorem punknown_any (a b:Int) (w:World):
  Calls Tryz.prog 124 #[.int .i64 a,.int .i64 b] w fun e w'=>e=.returned (.bool ((a==0 || b==0)&&(a==3 || b==3)))∧Grown w w':=by
 obtain ⟨Z,hZ⟩:∃ Z,(a==0 || b==0)=Z:=⟨_,rfl⟩
 obtain ⟨I,hI⟩:∃ I,(a==3 || b==3)=I:=⟨_,rfl⟩
 have HZ:=Lib.hid hZ
 have HI:=Lib.hid hI
 clear hZ hI
 have HC:=Lib.hid (cells2 w (.int .i64 a) (.int .i64 b) 3)
 have HG:=Lib.hid (Grown.alloc (Grown.refl w) #[.int .i64 a,.int .i64 b] 3)
 cases Z
 all_goals
  go_enter Tryz.func124,Tryz.ntmps124
  go_wp2_with fail
  generalize (w.alloc _)=W4 at HC HG ⊢
  obtain ⟨y0,y1⟩:=HC.out
  refine (oneIs2_any 0 a b _ _ y0 y1).mono ?_
  rintro e w' ⟨he,rfl⟩
  rw [HZ.out] at he
  subst he
  clear y0 y1
 ·go_wp2
  go_ret
  exact ⟨ret_bool (by rw [HZ.out];rfl),HG.out⟩
 ·go_wp2_with fail
  obtain ⟨y0,y1⟩:=cells2 W4 (.int .i64 a) (.int .i64 b) 3
  refine (oneIs2_any 3 a b _ _ y0 y1).mono ?_
  rintro e w' ⟨he,rfl⟩
  rw [HI.out] at he
  subst he
  clear y0 y1
  go_wp2
  go_ret
  exact ⟨ret_bool (by rw [HZ.out,HI.out];rfl),Grown.alloc HG.out _ _⟩

set_option maxHeartbeats 400000 in
theorem punpack_any (f v:Int) (w:World) (h0:0≤v) (h1:v≤4294967295):
  Calls Tryz.prog 128 #[.int .i64 f,.int .u32 v] w fun e w'=>e=.returned (.agg #[.bool (fS f v),.int .i64 (unE f v),.int .u64 (unM f v)])∧Grown w w':=by
 go_enter Tryz.func128,Tryz.ntmps128
 go_wp2_with (go_at_call 145;refine (unpack_any _ _ _ h0 h1).mono ?_;rintro e w' ⟨rfl,m,rfl⟩)
 (try simp only [Exit.inBlock,Exit.then])
 refine bodyPost_ret (v:=.agg #[.bool (fS f v),.int .i64 (unE f v),.int .u64 (unM f v)]) ?_ rfl ⟨rfl,?_⟩
 ·rw [results_one rfl]
  go_simp
 ·repeat refine Grown.setCell ?_ (by simp <;> omega) _
  exact grown_more (Grown.alloc (Grown.refl _) _ _) _

set_option maxHeartbeats 1000000 in
theorem pproduct_is (f a b x y p q T:Int) (n m s:Bool) (w:World) (a0:0≤a) (a1:a≤4294967295) (b0:0≤b) (b1:b≤4294967295)
  (hn:Hid (fS f a=n)) (hm:Hid (fS f b=m)) (hx:Hid (unE f a=x)) (hy:Hid (unE f b=y)) (hp:Hid (unM f a=p)) (hq:Hid (unM f b=q)) (x0:-400≤x) (x1:x≤400) (y0:-400≤y) (y1:y≤400)
  (hT:p*q=T) (t0:0≤T) (t1:T<281474976710656) (hs:Hid ((n != m)=s)):
  Calls Tryz.prog 125 #[.int .i64 f,.int .u32 a,.int .u32 b] w fun e w'=>e=.returned (.agg #[.bool s,.int .i64 (x+y),.int .u64 T])∧Grown w w':=by
 have HP:=Lib.hid (part_new w false 0 0 118)
 have HG:=Lib.hid (Grown.alloc (Grown.refl w) #[.bool false,.int .i64 0,.int .u64 0] 118)
 cases n
 all_goals
  cases m
  all_goals
   have hs':=hs.out
   simp at hs'
   subst hs'
   go_enter Tryz.func125,Tryz.ntmps125
   go_wp2_with fail
   refine (punpack_any f a _ a0 a1).mono ?_
   rintro e W1 ⟨he,hW1⟩
   rw [hn.out,hx.out,hp.out] at he
   subst he
   have HW1:=Lib.hid hW1
   clear hW1
   go_wp2_with fail
   refine (punpack_any f b _ b0 b1).mono ?_
   rintro e W2 ⟨he,hW2⟩
   rw [hm.out,hy.out,hq.out] at he
   subst he
   have HX2:=Lib.hid ((HP.out.grown HW1.out).grown hW2)
   have HG2:=Lib.hid (grown_trans (grown_trans HG.out HW1.out) hW2)
   clear hW2
   obtain ⟨xb,x0,x1,x2,z0,z1,z2⟩:=HX2.out
   go_wp2
   (try simp only [Exit.inBlock,Exit.then])
   refine bodyPost_ret (v:=.agg #[.bool _,.int .i64 (x+y),.int .u64 T]) ?_ rfl ⟨rfl,?_⟩
   ·rw [results_one rfl]
    go_simp
   ·repeat (first | with_reducible refine Grown.setCell ?_ (by simp <;> omega) _ | with_reducible refine Grown.alloc ?_ _ _ | with_reducible refine grown_more ?_ _)
    with_reducible exact HG2.out

set_option maxRecDepth 100000 in
set_option maxHeartbeats 1000000 in
theorem praise_any (n:Bool) (e M L T:Int) (w:World) (e0:-400≤e) (e1:e≤400) (m0:0<M) (m1:M≤18446744073709551615) (hL:Hid (lenI M=L)) (l0:1≤L) (l1:L≤48)
  (hT:IntKind.u64.wrap (M*2^(63 - L).toNat)=T):
  Calls Tryz.prog 127 #[.agg #[.bool n,.int .i64 e,.int .u64 M]] w fun e' w'=>e'=.returned (.agg #[.bool n,.int .i64 (e - (63 - L)),.int .u64 T])∧Grown w w':=by
 go_enter Tryz.func127,Tryz.ntmps127
 go_wp2_with (go_at_call 138;refine (len_any _ _ (by omega) (by omega)).mono ?_;rintro e w' ⟨he,rfl⟩;rw [hL.out] at he;subst he)
 refine wp_region_still_tail 11 (by kernel_rfl) (by kernel_rfl) ?_
 simp only [List.take_succ_cons,List.take_zero,List.drop_succ_cons,List.drop_zero]
 change wpStill _ _ (World.drew _) (fun a'=>wpList _ _ _ _ a' (World.drew _)) _ _
 repeat (first | still_step)
 try refine wpStill_nil ?_
 go_wp2
 (try simp only [Exit.inBlock,Exit.then])
 refine bodyPost_ret (v:=.agg #[.bool n,.int .i64 (e - (63 - L)),.int .u64 T]) ?_ rfl ⟨rfl,?_⟩
 ·rw [results_one rfl]
  go_simp
 ·exact (Grown.alloc (Grown.alloc (Grown.refl w) _ _) _ _).drew
end Go.Proofs.YteifobleigfbaaaGreat
