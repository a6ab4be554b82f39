/- Contracts of the reference's wide numbers: rounded. -/
import Derived.Test.YtkaoppmighinbaaRows
import Derived.Test.YtkaoppmighinbaaRRdT
import Derived.Test.YtkaoppmighinbaaTop
import Derived.Test.YtkaoppmighinbaaLimbs
import Derived.Test.YtkaoppmighinbaaWorld
import Derived.Lib.Hide
import Derived.Handy
import Derived.Deep.QuietTactic
import Derived.BigQuiet
namespace Go.Proofs.Ytkaoppmighinbaa
open Go.RowKit
set_option linter.unusedVariables false
set_option linter.unusedSimpArgs false

theorem ten_cases {i : Nat} (h : i < 10) : i = 0 ∨ i = 1 ∨ i = 2 ∨ i = 3 ∨ i = 4 ∨ i = 5 ∨ i = 6 ∨ i = 7 ∨ i = 8 ∨ i = 9 := by omega
theorem wide_cells (w : World) (n : Bool) (V : Nat) (t u : TypeId) (E : Array Value) (i : Nat) (h : i < 10) :
    ((w.alloc (.cells (wideO n V) t)).alloc (.cells E u)).cell? ⟨w.heap.size, 1 + i, none⟩ = some (.int .u64 (limb V i)) := by
  rcases ten_cases h with rfl | rfl | rfl | rfl | rfl | rfl | rfl | rfl | rfl | rfl <;> (unfold wideO; go_simp)
def MoreRel (V j : Nat) (b0 : Bool) (W : World) (m i : Value) (wr : World) : Prop :=
  ∃ (q d : Nat) (mq : Bool), q ≤ j ∧ i = .int .i64 q ∧ m = .bool mq ∧ mq = (b0 || lowB V q) ∧ wr = W.drewN d
theorem more_next {V q : Nat} {b0 mq : Bool} (h : mq = (b0 || lowB V q)) : (mq || (limb V q != 0)) = (b0 || lowB V (q + 1)) := by
  rw [h, low_next, Bool.or_assoc]

set_option maxRecDepth 100000 in
set_option maxHeartbeats 4000000 in
theorem rounded_any (f mode : Int) (n : Bool) (V : Nat) (w : World) (hV : FitN V 10) (h0 : V ≠ 0) :
    Calls Try.prog 72 #[.int .i64 f, .int .i64 mode, wideV n V] w fun e w' => e = PackE f mode n (upN V) ∧ Grown w w' := by
  have H0 := Lib.hid h0
  clear h0
  unfold wideV
  go_enter Try.func72, Try.ntmps72
  go_wp2
  have hcell := Lib.hid (wide_cells w n V 66 29 #[.bool false, .bool false, .bool false, .bool false, .bool false])
  have hnum : ((w.alloc (.cells (wideO n V) 66)).alloc (.cells #[.bool false, .bool false, .bool false, .bool false, .bool false] 29)).cell? ⟨w.heap.size, 0, none⟩ = some (.bool n) := by
    unfold wideO; go_simp
  unfold wideO at hcell hnum
  have HE := Lib.hid (exc_new (w.alloc (.cells (wideO n V) 66)) 29)
  rw [show (w.alloc (.cells (wideO n V) 66)).heap.size = w.heap.size + 1 by simp] at HE
  unfold wideO at HE
  generalize hW : ((w.alloc _).alloc _) = W at hcell hnum HE ⊢
  have HG := Lib.hid (show Grown w W by rw [← hW]; exact Grown.alloc (Grown.alloc (Grown.refl _) _ _) _ _)
  clear hW
  go_loopw [8] (fun i wr => ∃ k d : Nat, k ≤ 9 ∧ i = .int .i64 k ∧ wr = W.drewN d ∧ FitN V (k + 1)) (fun i _ => (intOf i).toNat)
  case atStart => exact ⟨9, 0, by decide, rfl, rfl, hV⟩
  case round =>
    obtain ⟨k, d, hk, rfl, rfl, hV⟩ := hrel
    have hc := hcell.out k (by omega)
    have HN := Lib.hid hnum
    clear hnum
    have k0 : (0 : Int) ≤ (k : Int) := by omega
    have k1 : (k : Int) < 10 := by omega
    have k2 : (k : Int).toNat = k := by omega
    by_cases h : limb V k = 0
    · have hz := Lib.hid (fit_less V k hV h)
      by_cases k0' : k = 0
      · subst k0'
        exact absurd (fit_zero V hz.out) H0.out
      · obtain ⟨j, rfl⟩ : ∃ j, k = j + 1 := ⟨k - 1, by omega⟩
        go_wp2
        go_roundw
        case rel => exact ⟨j, _, by omega, by go_num, rfl, hz.out⟩
        case measure => simp [intOf]
    · have hb : (limb V k == 0) = false := by simpa using h
      have HH := Lib.hid h
      obtain ⟨hl0, hl1⟩ := top_len V k h
      clear h
      obtain ⟨L, hL⟩ : ∃ L, lenI (limb V k) = L := ⟨_, rfl⟩
      rw [hL] at hl0 hl1
      have HL := Lib.hid hL
      clear hL
      obtain ⟨hx0, hx1⟩ := limb_bd V k
      have hx2 : 0 < limb V k := by have := HH.out; omega
      by_cases k0' : k = 0
      · subst k0'
        have HP := Lib.hid (top_last f mode n V hV)
        have hn := HN.out
        clear hb
        go_wp2_with (first
          | (go_at_call 60; refine (rlen_any _ _ (by omega) (by omega)).mono ?_; rintro e w' ⟨he, rfl⟩; rw [HL.out] at he; subst he)
          | (go_at_call 37; refine (rpack_any _ _ _ _ _ _ _ (by omega) (by omega) (by omega) (by omega)).mono ?_; rintro e W3 ⟨he, hW3⟩; rw [HP.out, ← packE_is] at he; subst he; have HW3 := Lib.hid hW3; clear hW3; have HG3 := Lib.hid (grown_trans HG.out (grown_trans (grown_drewN W _) HW3.out)); obtain ⟨xb, x0, x1, x2, x3, x4, z0, z1, z2, z3, z4⟩ := HE.out.grown (grown_trans (grown_drewN W _) HW3.out)))
        (try simp only [Exit.inBlock, Exit.then])
        refine bodyPost_ret (v := .tuple #[.int .u32 (rdV f mode n (upN V)), .agg #[.bool false, .bool false, .bool (rdO f mode n (upN V)), .bool (rdU f (upN V)), .bool (rdX f mode n (upN V))]]) ?_ rfl ⟨packE_is _ _ _ _, by
          repeat refine Grown.setCell ?_ (by simp <;> omega) _
          exact HG3.out⟩
        rw [results_tmp_cell rfl]
        go_simp
      · obtain ⟨j, rfl⟩ : ∃ j, k = j + 1 := ⟨k - 1, by omega⟩
        have hc' := hcell.out j (by omega)
        obtain ⟨hy0, hy1⟩ := limb_bd V j
        have HV := Lib.hid hV
        clear hV hb
        by_cases hL64 : L = 64
        · subst hL64
          obtain ⟨b0, hb0⟩ : ∃ b0, (limb V j != 0) = b0 := ⟨_, rfl⟩
          have HB := Lib.hid hb0
          go_wp2_with (go_at_call 60; refine (rlen_any _ _ (by omega) (by omega)).mono ?_; rintro e w' ⟨he, rfl⟩; rw [HL.out] at he; subst he)
          have hw1 : IntKind.i64.wrap (((j + 1 : Nat) : Int) - 1) = (j : Int) := by rw [IntKind.wrap_i64]; omega
          have hw2 : IntKind.i64.wrap ((j : Int) + 1 - 1) = (j : Int) := by rw [IntKind.wrap_i64]; omega
          go_quiet (fail)
          clear hw1 hw2
          go_wp2
          go_loopw [12, 15] (fun m i wr => MoreRel V j b0 W m i wr) (fun _ i _ => (((j : Nat) : Int) - intOf i).toNat)
          case atStart => exact ⟨0, _, b0, by omega, rfl, rfl, by rw [low_zero, Bool.or_false], rfl⟩
          case round =>
            obtain ⟨q, d, mq, hq, rfl, rfl, hmq, rfl⟩ := hrel
            have HM := Lib.hid hmq
            clear hmq
            have hcq := hcell.out q (by omega)
            have q0 : (0 : Int) ≤ (q : Int) := by omega
            have q1 : (q : Int) < 10 := by omega
            have q2 : (q : Int).toNat = q := by omega
            by_cases hqj : q < j
            · have hqj' : (q : Int) < (j : Int) := by omega
              have HX := Lib.hid (more_next HM.out)
              cases mq
              all_goals
                go_wp2
                go_roundw
                case rel => exact ⟨q + 1, _, _, by omega, by go_num, rfl, by simpa using HX.out, rfl⟩
                case measure => simp [intOf]; omega
            · have hqj' : ¬ (q : Int) < (j : Int) := by omega
              obtain rfl : q = j := by omega
              have hn := HN.out
              have HP := Lib.hid (top_full f mode n V q (by omega) HV.out HH.out HL.out (64 * ((q : Int) + 1) - 298) rfl mq (by rw [HM.out, HB.out]))
              go_wp2_with (go_at_call 37; refine (rpack_any _ _ _ _ _ _ _ (by omega) (by omega) (by omega) (by omega)).mono ?_; rintro e W3 ⟨he, hW3⟩; rw [HP.out, ← packE_is] at he; subst he; have HW3 := Lib.hid hW3; clear hW3; have HG3 := Lib.hid (grown_trans HG.out (grown_trans (grown_drewN W _) HW3.out)); obtain ⟨xb, x0, x1, x2, x3, x4, z0, z1, z2, z3, z4⟩ := HE.out.grown (grown_trans (grown_drewN W _) HW3.out))
              (try simp only [Exit.inBlock, Exit.then])
              refine bodyPost_ret (v := .tuple #[.int .u32 (rdV f mode n (upN V)), .agg #[.bool false, .bool false, .bool (rdO f mode n (upN V)), .bool (rdU f (upN V)), .bool (rdX f mode n (upN V))]]) ?_ rfl ⟨packE_is _ _ _ _, by
                repeat refine Grown.setCell ?_ (by simp <;> omega) _
                exact HG3.out⟩
              rw [results_tmp_cell rfl]
              go_simp
        · have hl2 : L < 64 := by omega
          have hb64 : (L == 64) = false := by simpa using hL64
          clear hL64
          obtain ⟨S, hS⟩ : ∃ S, bits BinOp.or IntKind.u64 (IntKind.u64.wrap (limb V (j + 1) * 2 ^ (64 - L).toNat)) (limb V j / 2 ^ L.toNat) = S := ⟨_, rfl⟩
          have HS := Lib.hid hS
          obtain ⟨hS0, hS1⟩ : 0 ≤ S ∧ S ≤ 18446744073709551615 := by rw [← hS]; exact bounds_u64 (wf_bits _ _ _ _)
          obtain ⟨b0, hb0⟩ : ∃ b0, (IntKind.u64.wrap (limb V j * 2 ^ (64 - L).toNat) != 0) = b0 := ⟨_, rfl⟩
          have HB := Lib.hid hb0
          go_wp2_with (go_at_call 60; refine (rlen_any _ _ (by omega) (by omega)).mono ?_; rintro e w' ⟨he, rfl⟩; rw [HL.out] at he; subst he)
          have hw1 : IntKind.i64.wrap (((j + 1 : Nat) : Int) - 1) = (j : Int) := by rw [IntKind.wrap_i64]; omega
          have hw2 : IntKind.i64.wrap ((j : Int) + 1 - 1) = (j : Int) := by rw [IntKind.wrap_i64]; omega
          go_quiet (fail)
          clear hw1 hw2
          go_wp2
          go_loopw [12, 15] (fun m i wr => MoreRel V j b0 W m i wr) (fun _ i _ => (((j : Nat) : Int) - intOf i).toNat)
          case atStart => exact ⟨0, _, b0, by omega, rfl, rfl, by rw [low_zero, Bool.or_false], rfl⟩
          case round =>
            obtain ⟨q, d, mq, hq, rfl, rfl, hmq, rfl⟩ := hrel
            have HM := Lib.hid hmq
            clear hmq
            have hcq := hcell.out q (by omega)
            have q0 : (0 : Int) ≤ (q : Int) := by omega
            have q1 : (q : Int) < 10 := by omega
            have q2 : (q : Int).toNat = q := by omega
            by_cases hqj : q < j
            · have hqj' : (q : Int) < (j : Int) := by omega
              have HX := Lib.hid (more_next HM.out)
              cases mq
              all_goals
                go_wp2
                go_roundw
                case rel => exact ⟨q + 1, _, _, by omega, by go_num, rfl, by simpa using HX.out, rfl⟩
                case measure => simp [intOf]; omega
            · have hqj' : ¬ (q : Int) < (j : Int) := by omega
              obtain rfl : q = j := by omega
              have hn := HN.out
              have HP := Lib.hid (top_part f mode n V q L (by omega) HV.out HH.out HL.out (64 * ((q : Int) + 1) - 298 - (64 - L)) rfl S HS.out.symm mq (by rw [HM.out, HB.out]))
              go_wp2_with (go_at_call 37; refine (rpack_any _ _ _ _ _ _ _ (by omega) (by omega) (by omega) (by omega)).mono ?_; rintro e W3 ⟨he, hW3⟩; rw [HP.out, ← packE_is] at he; subst he; have HW3 := Lib.hid hW3; clear hW3; have HG3 := Lib.hid (grown_trans HG.out (grown_trans (grown_drewN W _) HW3.out)); obtain ⟨xb, x0, x1, x2, x3, x4, z0, z1, z2, z3, z4⟩ := HE.out.grown (grown_trans (grown_drewN W _) HW3.out))
              (try simp only [Exit.inBlock, Exit.then])
              refine bodyPost_ret (v := .tuple #[.int .u32 (rdV f mode n (upN V)), .agg #[.bool false, .bool false, .bool (rdO f mode n (upN V)), .bool (rdU f (upN V)), .bool (rdX f mode n (upN V))]]) ?_ rfl ⟨packE_is _ _ _ _, by
                repeat refine Grown.setCell ?_ (by simp <;> omega) _
                exact HG3.out⟩
              rw [results_tmp_cell rfl]
              go_simp
end Go.Proofs.Ytkaoppmighinbaa
