/- The walk of ChanceBetween. -/
import Derived.Test.YtfdfbgmnfiiipaaHKnown
import Derived.Test.YtfdfbgmnfiiipaaRCha
import Derived.Test.YtfdfbgmnfiiipaaChaLaw
import Derived.Test.YtfdfbgmnfiiipaaMild
import Derived.Deep.RegionHeld3
namespace Go.Proofs.Ytfdfbgmnfiiipaa
open Go.RowKit
set_option linter.unusedVariables false
set_option linter.unusedSimpArgs false

theorem mild_fin (k : Int) : finI 2 (milI 2 k) = true ∧ 0 ≤ milI 2 k ∧ milI 2 k ≤ 4294967295 := by
  have hb : bia 2 = 127 := by decide
  have hh : hid 2 = 8388608 := by decide
  have hs : sgb 2 = 2147483648 := by decide
  have ht : topx 2 = 255 := by decide
  unfold finI fX milI milA
  rw [hb, hh, hs, ht]
  refine ⟨decide_eq_true ?_, ?_, ?_⟩ <;> (repeat' split) <;> omega

/-- Block b holds one number. -/
def OneI (b : Nat) (x : Int) (W : World) : Prop := b < W.heap.size ∧ W.cell? ⟨b, 0, none⟩ = some (.int .i64 x)

theorem OneI.grown {b : Nat} {x : Int} {W W' : World} (h : OneI b x W) (g : Grown W W') : OneI b x W' := ⟨Nat.lt_of_lt_of_le h.1 g.2.2, grown_cell g h.2 h.1⟩

theorem oneI_new {x : Int} {t : TypeId} {w : World} : OneI w.heap.size x (w.alloc (.cells #[.int .i64 x] t)) := by
  refine ⟨by show w.heap.size < (w.heap.push _).size; simp, ?_⟩
  rw [World.cell?_alloc_at (hn := rfl)]; rfl

set_option maxHeartbeats 1000000 in
theorem amount_any (f y : Int) (b : Nat) (w : World) (hc : w.cell? ⟨b, 0, none⟩ = some (.int .i64 f)) (y0 : 0 ≤ y) (y1 : y ≤ msk f) :
    Calls Try.prog 13 #[.int .u32 y, .pointer (some ⟨b, 0, none⟩)] w fun e w' => e = .returned (.int .u32 (y % sgb f)) ∧ Grown w w' := by
  have hns := no_sign f y y0 (by have := msk_top f; omega)
  rw [low_is f _ y0 y1] at hns
  have HN := Lib.hid hns
  have HG := Lib.hid (Grown.refl w)
  go_enter Try.func13, Try.ntmps13
  go_wp2_with (go_at_call 14; refine (rzero_any _ _ _).mono ?_; rintro e w' ⟨rfl, rfl⟩)
  go_ret
  exact ⟨rfl, HG.out⟩

set_option maxRecDepth 100000 in
set_option maxHeartbeats 8000000 in
theorem hbetween_walk (a0 : Bool) (a1 a2 a3 : Int) (w1 : (Lit.int .u32 a1).wf = true) (w2 : (Lit.int .u32 a2).wf = true) (w3 : (Lit.int .u32 a3).wf = true) (w : World) :
    Calls Try.prog 4 #[.bool a0, .int .u32 a1, .int .u32 a2, .int .u32 a3] w fun e w' => e = .returned (.bool true) ∧ Grown w w' := by
  obtain ⟨b0, b1⟩ := bounds_u32 w1
  obtain ⟨b2, b3⟩ := bounds_u32 w2
  obtain ⟨b4, b5⟩ := bounds_u32 w3
  clear w1 w2 w3
  have hmf : ∀ (fn : Fn) (first cap : Array Value) (w : World), (Instr.makeFunc fn first cap).run Try.prog w = .ok (.func fn first cap) w := fun _ _ _ _ => rfl
  have HG := Lib.hid (Grown.refl w)
  obtain ⟨hx, x0, x1⟩ := mild_fin a1
  obtain ⟨x, hX⟩ : ∃ x, milI 2 a1 = x := ⟨_, rfl⟩
  rw [hX] at hx x0 x1
  have HX := Lib.hid hX
  clear hX
  cases a0
  all_goals
    go_enter Try.func4, Try.ntmps4
    go_wp2_with (first
      | (go_at_call 7; refine (known11_any _).mono ?_; rintro e W1 ⟨rfl, hW⟩; replace HG := Lib.hid (show Grown w W1 from grown_trans HG.out hW); clear hW)
      | (go_at_call 9; refine (mild_is _ _ _ b0 b1).mono ?_; rintro e w' ⟨he, dm, rfl⟩; rw [HX.out] at he; subst he))
  · have HB := Lib.hid ((oneI_new (x := 1) (t := 3) (w := W1)).grown (grown_drewN _ dm))
    replace HG := Lib.hid (show Grown w ((W1.alloc (.cells #[.int .i64 1] 3)).drewN dm) from grown_more (Grown.alloc HG.out _ _) dm)
    generalize W1.heap.size = b at HB ⊢
    generalize ((W1.alloc _).drewN dm) = W4 at HB HG ⊢
    obtain ⟨L, hL⟩ : ∃ L, conV 2 1 3 x = L := ⟨_, rfl⟩
    obtain ⟨H, hH⟩ : ∃ H, conV 2 1 2 x = H := ⟨_, rfl⟩
    obtain ⟨E, hE⟩ : ∃ E, conX 2 1 3 x = E := ⟨_, rfl⟩
    have h1 := cha_one 1 x hx
    have h2 := cha_two 1 x hx
    rw [hL, hH, hE] at h1
    rw [hL, hH, hE] at h2
    have R3 := Lib.hid (show conE 2 1 3 x = .returned (.tuple #[.int .u32 L, .agg #[.bool (sigB 2 x), .bool false, .bool (conO 2 1 3 x), .bool (conU 2 1 x), .bool E]]) by unfold conE; rw [hL, hE])
    have R2 := Lib.hid (show conE 2 1 2 x = .returned (.tuple #[.int .u32 H, .agg #[.bool (sigB 2 x), .bool false, .bool (conO 2 1 2 x), .bool (conU 2 1 x), .bool (conX 2 1 2 x)]]) by unfold conE; rw [hH])
    generalize sigB 2 x = g1 at R3 R2
    generalize conU 2 1 x = g2 at R3 R2
    generalize conO 2 1 3 x = g3 at R3
    generalize conO 2 1 2 x = g4 at R2
    generalize conX 2 1 2 x = g5 at R2
    clear hL hH hE hx
    obtain ⟨mn, mx, hmm, hmn, hmx, mn0, mn1, mx0, mx1⟩ : ∃ mn mx : Int, mn ≤ mx ∧ (if a3 < a2 then a3 else a2) = mn ∧ (if a2 < a3 then a3 else a2) = mx ∧ 0 ≤ mn ∧ mn ≤ 4294967295 ∧ 0 ≤ mx ∧ mx ≤ 4294967295 := by
      refine ⟨_, _, ?_, rfl, rfl, ?_, ?_, ?_, ?_⟩ <;> (repeat' split) <;> omega
    obtain ⟨p, hp⟩ : ∃ p, chaI 1 x mn = p := ⟨_, rfl⟩
    obtain ⟨q, hq⟩ : ∃ q, chaI 1 x mx = q := ⟨_, rfl⟩
    have p0 := cha_bd 1 x mn
    have q0 := cha_bd 1 x mx
    rw [hp] at p0
    rw [hq] at q0
    obtain ⟨p0, p1⟩ := p0
    obtain ⟨q0, q1⟩ := q0
    have HZ := Lib.hid (show sgb 1 ≠ 0 by decide)
    have hway : (E = false ∧ p = L ∧ q = L ∧ H = L) ∨ (E = true ∧ (p = L ∨ p = H) ∧ (q = L ∨ q = H) ∧ q % sgb 1 ≤ p % sgb 1) := by
      cases E
      · have a := h1 rfl mn mn0
        have c := h1 rfl mx mx0
        exact .inl ⟨rfl, hp.symm.trans a.1, hq.symm.trans c.1, a.2.symm⟩
      · have a := h2 rfl mn mx hmm
        rw [hp, hq] at a
        exact .inr ⟨rfl, a.1, a.2.1, a.2.2⟩
    have HP := Lib.hid hp
    have HQ := Lib.hid hq
    clear h1 h2 hp hq hmm
    have HW := Lib.hid hway
    clear hway
    obtain ⟨y, y0⟩ := HB.out
    go_wp2_with fail
    refine (rto_any 2 1 3 x _ x0 x1).mono ?_
    rintro e V1 ⟨he, hW⟩
    rw [R3.out] at he
    subst he
    replace HG := Lib.hid (show Grown w V1 from grown_trans (by repeat (first | with_reducible exact HG.out | with_reducible refine Grown.setCell ?_ (by simp <;> omega) _ | with_reducible refine Grown.alloc ?_ _ _ | with_reducible refine grown_more ?_ _ | with_reducible refine Grown.drew ?_)) hW)
    replace HB := Lib.hid (HB.out.grown (grown_trans (by repeat (first | with_reducible exact Grown.refl _ | with_reducible refine Grown.setCell ?_ (by simp <;> omega) _ | with_reducible refine Grown.alloc ?_ _ _ | with_reducible refine grown_more ?_ _ | with_reducible refine Grown.drew ?_)) hW))
    clear hW y y0
    obtain ⟨y, y0⟩ := HB.out
    go_wp2_with fail
    refine (rto_any 2 1 2 x _ x0 x1).mono ?_
    rintro e V2 ⟨he, hW⟩
    rw [R2.out] at he
    subst he
    have HF1 := Lib.hid (grown_new5 hW)
    replace HG := Lib.hid (show Grown w V2 from grown_trans (by repeat (first | with_reducible exact HG.out | with_reducible refine Grown.setCell ?_ (by simp <;> omega) _ | with_reducible refine Grown.alloc ?_ _ _ | with_reducible refine grown_more ?_ _ | with_reducible refine Grown.drew ?_)) hW)
    replace HB := Lib.hid (HB.out.grown (grown_trans (by repeat (first | with_reducible exact Grown.refl _ | with_reducible refine Grown.setCell ?_ (by simp <;> omega) _ | with_reducible refine Grown.alloc ?_ _ _ | with_reducible refine grown_more ?_ _ | with_reducible refine Grown.drew ?_)) hW))
    clear hW y y0 R3 R2
    go_wp2_with fail
    replace HG := Lib.hid (Grown.alloc HG.out #[.bool g1, .bool false, .bool g4, .bool g2, .bool g5] 31)
    replace HB := Lib.hid (HB.out.grown (Grown.alloc (Grown.refl _) #[.bool g1, .bool false, .bool g4, .bool g2, .bool g5] 31))
    replace HF1 := Lib.hid (HF1.out.grown (Grown.alloc (Grown.refl _) #[.bool g1, .bool false, .bool g4, .bool g2, .bool g5] 31))
    generalize V1.heap.size = e1 at HF1 ⊢
    generalize V2.heap.size = e2 at ⊢
    generalize (V2.alloc _) = V3 at HG HB HF1 ⊢
    obtain ⟨y, y0⟩ := HB.out
    obtain ⟨z, z0, z1, z2, z3, z4⟩ := HF1.out
    go_region_held3 (fun w' => w'.cell? ⟨b, 0, none⟩ = some (.int .i64 1)) (go_keep) (first
      | (go_at_call 10; refine (hnarrow_any _ _ _ _ (by omega) (by omega) (by omega) (by omega)).mono ?_; rintro e W5 ⟨he, hW⟩; (first | rw [HP.out] at he | rw [HQ.out] at he); subst he; replace HG := Lib.hid (show Grown w W5 from grown_trans (by repeat (first | with_reducible exact HG.out | with_reducible refine Grown.setCell ?_ (by simp <;> omega) _ | with_reducible refine Grown.alloc ?_ _ _ | with_reducible refine grown_more ?_ _ | with_reducible refine Grown.drew ?_)) hW); replace HB := Lib.hid (HB.out.grown (grown_trans (by repeat (first | with_reducible exact Grown.refl _ | with_reducible refine Grown.setCell ?_ (by simp <;> omega) _ | with_reducible refine Grown.alloc ?_ _ _ | with_reducible refine grown_more ?_ _ | with_reducible refine Grown.drew ?_)) hW)); replace HF1 := Lib.hid (HF1.out.grown (grown_trans (by repeat (first | with_reducible exact Grown.refl _ | with_reducible refine Grown.setCell ?_ (by simp <;> omega) _ | with_reducible refine Grown.alloc ?_ _ _ | with_reducible refine grown_more ?_ _ | with_reducible refine Grown.drew ?_)) hW)); clear hW y y0 z z0 z1 z2 z3 z4; obtain ⟨y, y0⟩ := HB.out; obtain ⟨z, z0, z1, z2, z3, z4⟩ := HF1.out))
    all_goals
      have hz := HZ.out
      clear HP HQ
      rcases HW.out with ⟨rfl, rfl, rfl, rfl⟩ | ⟨rfl, hp, hq, hr⟩
      · clear HW
        go_wp2
        go_ret
        exact ⟨by simp, by repeat (first | with_reducible exact HG.out | with_reducible refine Grown.setCell ?_ (by simp <;> omega) _ | with_reducible refine Grown.alloc ?_ _ _ | with_reducible refine grown_more ?_ _ | with_reducible refine Grown.drew ?_)⟩
      · clear HW
        have hpq : ((p == L) = true ∨ ((p == L) = false ∧ (p == H) = true)) ∧ ((q == L) = true ∨ ((q == L) = false ∧ (q == H) = true)) := by
          refine ⟨?_, ?_⟩
          · by_cases c : p = L
            · exact .inl (by simp [c])
            · exact .inr ⟨by simp [c], by simp [hp.resolve_left c]⟩
          · by_cases c : q = L
            · exact .inl (by simp [c])
            · exact .inr ⟨by simp [c], by simp [hq.resolve_left c]⟩
        clear hp hq
        have hmp : 0 ≤ p % sgb 1 := Int.emod_nonneg _ hz
        obtain ⟨P, hP⟩ : ∃ P, p % sgb 1 = P := ⟨_, rfl⟩
        obtain ⟨Q, hQ⟩ : ∃ Q, q % sgb 1 = Q := ⟨_, rfl⟩
        rw [hP, hQ] at hr
        have HP := Lib.hid hP
        have HQ := Lib.hid hQ
        clear hP hQ hmp hz
        obtain ⟨hp, hq⟩ := hpq
        rcases hp with hp | ⟨hp, hp2⟩
        all_goals
          rcases hq with hq | ⟨hq, hq2⟩
          all_goals
            go_wp2_with (go_at_call 13; refine (amount_any 1 _ b _ y0 (by omega) (by omega)).mono ?_; rintro e W6 ⟨he, hW⟩; (first | rw [HP.out] at he | rw [HQ.out] at he); subst he; replace HG := Lib.hid (show Grown w W6 from grown_trans (by repeat (first | with_reducible exact HG.out | with_reducible refine Grown.setCell ?_ (by simp <;> omega) _ | with_reducible refine Grown.alloc ?_ _ _ | with_reducible refine grown_more ?_ _ | with_reducible refine Grown.drew ?_)) hW); replace HB := Lib.hid (HB.out.grown (grown_trans (by repeat (first | with_reducible exact Grown.refl _ | with_reducible refine Grown.setCell ?_ (by simp <;> omega) _ | with_reducible refine Grown.alloc ?_ _ _ | with_reducible refine grown_more ?_ _ | with_reducible refine Grown.drew ?_)) hW)); clear hW y y0; obtain ⟨y, y0⟩ := HB.out)
            go_ret
            exact ⟨by simp, by repeat (first | with_reducible exact HG.out | with_reducible refine Grown.setCell ?_ (by simp <;> omega) _ | with_reducible refine Grown.alloc ?_ _ _ | with_reducible refine grown_more ?_ _ | with_reducible refine Grown.drew ?_)⟩
  · have HB := Lib.hid ((oneI_new (x := 0) (t := 3) (w := W1)).grown (grown_drewN _ dm))
    replace HG := Lib.hid (show Grown w ((W1.alloc (.cells #[.int .i64 0] 3)).drewN dm) from grown_more (Grown.alloc HG.out _ _) dm)
    generalize W1.heap.size = b at HB ⊢
    generalize ((W1.alloc _).drewN dm) = W4 at HB HG ⊢
    obtain ⟨L, hL⟩ : ∃ L, conV 2 0 3 x = L := ⟨_, rfl⟩
    obtain ⟨H, hH⟩ : ∃ H, conV 2 0 2 x = H := ⟨_, rfl⟩
    obtain ⟨E, hE⟩ : ∃ E, conX 2 0 3 x = E := ⟨_, rfl⟩
    have h1 := cha_one 0 x hx
    have h2 := cha_two 0 x hx
    rw [hL, hH, hE] at h1
    rw [hL, hH, hE] at h2
    have R3 := Lib.hid (show conE 2 0 3 x = .returned (.tuple #[.int .u32 L, .agg #[.bool (sigB 2 x), .bool false, .bool (conO 2 0 3 x), .bool (conU 2 0 x), .bool E]]) by unfold conE; rw [hL, hE])
    have R2 := Lib.hid (show conE 2 0 2 x = .returned (.tuple #[.int .u32 H, .agg #[.bool (sigB 2 x), .bool false, .bool (conO 2 0 2 x), .bool (conU 2 0 x), .bool (conX 2 0 2 x)]]) by unfold conE; rw [hH])
    generalize sigB 2 x = g1 at R3 R2
    generalize conU 2 0 x = g2 at R3 R2
    generalize conO 2 0 3 x = g3 at R3
    generalize conO 2 0 2 x = g4 at R2
    generalize conX 2 0 2 x = g5 at R2
    clear hL hH hE hx
    obtain ⟨mn, mx, hmm, hmn, hmx, mn0, mn1, mx0, mx1⟩ : ∃ mn mx : Int, mn ≤ mx ∧ (if a3 < a2 then a3 else a2) = mn ∧ (if a2 < a3 then a3 else a2) = mx ∧ 0 ≤ mn ∧ mn ≤ 4294967295 ∧ 0 ≤ mx ∧ mx ≤ 4294967295 := by
      refine ⟨_, _, ?_, rfl, rfl, ?_, ?_, ?_, ?_⟩ <;> (repeat' split) <;> omega
    obtain ⟨p, hp⟩ : ∃ p, chaI 0 x mn = p := ⟨_, rfl⟩
    obtain ⟨q, hq⟩ : ∃ q, chaI 0 x mx = q := ⟨_, rfl⟩
    have p0 := cha_bd 0 x mn
    have q0 := cha_bd 0 x mx
    rw [hp] at p0
    rw [hq] at q0
    obtain ⟨p0, p1⟩ := p0
    obtain ⟨q0, q1⟩ := q0
    have HZ := Lib.hid (show sgb 0 ≠ 0 by decide)
    have hway : (E = false ∧ p = L ∧ q = L ∧ H = L) ∨ (E = true ∧ (p = L ∨ p = H) ∧ (q = L ∨ q = H) ∧ q % sgb 0 ≤ p % sgb 0) := by
      cases E
      · have a := h1 rfl mn mn0
        have c := h1 rfl mx mx0
        exact .inl ⟨rfl, hp.symm.trans a.1, hq.symm.trans c.1, a.2.symm⟩
      · have a := h2 rfl mn mx hmm
        rw [hp, hq] at a
        exact .inr ⟨rfl, a.1, a.2.1, a.2.2⟩
    have HP := Lib.hid hp
    have HQ := Lib.hid hq
    clear h1 h2 hp hq hmm
    have HW := Lib.hid hway
    clear hway
    obtain ⟨y, y0⟩ := HB.out
    go_wp2_with fail
    refine (rto_any 2 0 3 x _ x0 x1).mono ?_
    rintro e V1 ⟨he, hW⟩
    rw [R3.out] at he
    subst he
    replace HG := Lib.hid (show Grown w V1 from grown_trans (by repeat (first | with_reducible exact HG.out | with_reducible refine Grown.setCell ?_ (by simp <;> omega) _ | with_reducible refine Grown.alloc ?_ _ _ | with_reducible refine grown_more ?_ _ | with_reducible refine Grown.drew ?_)) hW)
    replace HB := Lib.hid (HB.out.grown (grown_trans (by repeat (first | with_reducible exact Grown.refl _ | with_reducible refine Grown.setCell ?_ (by simp <;> omega) _ | with_reducible refine Grown.alloc ?_ _ _ | with_reducible refine grown_more ?_ _ | with_reducible refine Grown.drew ?_)) hW))
    clear hW y y0
    obtain ⟨y, y0⟩ := HB.out
    go_wp2_with fail
    refine (rto_any 2 0 2 x _ x0 x1).mono ?_
    rintro e V2 ⟨he, hW⟩
    rw [R2.out] at he
    subst he
    have HF1 := Lib.hid (grown_new5 hW)
    replace HG := Lib.hid (show Grown w V2 from grown_trans (by repeat (first | with_reducible exact HG.out | with_reducible refine Grown.setCell ?_ (by simp <;> omega) _ | with_reducible refine Grown.alloc ?_ _ _ | with_reducible refine grown_more ?_ _ | with_reducible refine Grown.drew ?_)) hW)
    replace HB := Lib.hid (HB.out.grown (grown_trans (by repeat (first | with_reducible exact Grown.refl _ | with_reducible refine Grown.setCell ?_ (by simp <;> omega) _ | with_reducible refine Grown.alloc ?_ _ _ | with_reducible refine grown_more ?_ _ | with_reducible refine Grown.drew ?_)) hW))
    clear hW y y0 R3 R2
    go_wp2_with fail
    replace HG := Lib.hid (Grown.alloc HG.out #[.bool g1, .bool false, .bool g4, .bool g2, .bool g5] 31)
    replace HB := Lib.hid (HB.out.grown (Grown.alloc (Grown.refl _) #[.bool g1, .bool false, .bool g4, .bool g2, .bool g5] 31))
    replace HF1 := Lib.hid (HF1.out.grown (Grown.alloc (Grown.refl _) #[.bool g1, .bool false, .bool g4, .bool g2, .bool g5] 31))
    generalize V1.heap.size = e1 at HF1 ⊢
    generalize V2.heap.size = e2 at ⊢
    generalize (V2.alloc _) = V3 at HG HB HF1 ⊢
    obtain ⟨y, y0⟩ := HB.out
    obtain ⟨z, z0, z1, z2, z3, z4⟩ := HF1.out
    go_region_held3 (fun w' => w'.cell? ⟨b, 0, none⟩ = some (.int .i64 0)) (go_keep) (first
      | (go_at_call 10; refine (hnarrow_any _ _ _ _ (by omega) (by omega) (by omega) (by omega)).mono ?_; rintro e W5 ⟨he, hW⟩; (first | rw [HP.out] at he | rw [HQ.out] at he); subst he; replace HG := Lib.hid (show Grown w W5 from grown_trans (by repeat (first | with_reducible exact HG.out | with_reducible refine Grown.setCell ?_ (by simp <;> omega) _ | with_reducible refine Grown.alloc ?_ _ _ | with_reducible refine grown_more ?_ _ | with_reducible refine Grown.drew ?_)) hW); replace HB := Lib.hid (HB.out.grown (grown_trans (by repeat (first | with_reducible exact Grown.refl _ | with_reducible refine Grown.setCell ?_ (by simp <;> omega) _ | with_reducible refine Grown.alloc ?_ _ _ | with_reducible refine grown_more ?_ _ | with_reducible refine Grown.drew ?_)) hW)); replace HF1 := Lib.hid (HF1.out.grown (grown_trans (by repeat (first | with_reducible exact Grown.refl _ | with_reducible refine Grown.setCell ?_ (by simp <;> omega) _ | with_reducible refine Grown.alloc ?_ _ _ | with_reducible refine grown_more ?_ _ | with_reducible refine Grown.drew ?_)) hW)); clear hW y y0 z z0 z1 z2 z3 z4; obtain ⟨y, y0⟩ := HB.out; obtain ⟨z, z0, z1, z2, z3, z4⟩ := HF1.out))
    all_goals
      have hz := HZ.out
      clear HP HQ
      rcases HW.out with ⟨rfl, rfl, rfl, rfl⟩ | ⟨rfl, hp, hq, hr⟩
      · clear HW
        go_wp2
        go_ret
        exact ⟨by simp, by repeat (first | with_reducible exact HG.out | with_reducible refine Grown.setCell ?_ (by simp <;> omega) _ | with_reducible refine Grown.alloc ?_ _ _ | with_reducible refine grown_more ?_ _ | with_reducible refine Grown.drew ?_)⟩
      · clear HW
        have hpq : ((p == L) = true ∨ ((p == L) = false ∧ (p == H) = true)) ∧ ((q == L) = true ∨ ((q == L) = false ∧ (q == H) = true)) := by
          refine ⟨?_, ?_⟩
          · by_cases c : p = L
            · exact .inl (by simp [c])
            · exact .inr ⟨by simp [c], by simp [hp.resolve_left c]⟩
          · by_cases c : q = L
            · exact .inl (by simp [c])
            · exact .inr ⟨by simp [c], by simp [hq.resolve_left c]⟩
        clear hp hq
        have hmp : 0 ≤ p % sgb 0 := Int.emod_nonneg _ hz
        obtain ⟨P, hP⟩ : ∃ P, p % sgb 0 = P := ⟨_, rfl⟩
        obtain ⟨Q, hQ⟩ : ∃ Q, q % sgb 0 = Q := ⟨_, rfl⟩
        rw [hP, hQ] at hr
        have HP := Lib.hid hP
        have HQ := Lib.hid hQ
        clear hP hQ hmp hz
        obtain ⟨hp, hq⟩ := hpq
        rcases hp with hp | ⟨hp, hp2⟩
        all_goals
          rcases hq with hq | ⟨hq, hq2⟩
          all_goals
            go_wp2_with (go_at_call 13; refine (amount_any 0 _ b _ y0 (by omega) (by omega)).mono ?_; rintro e W6 ⟨he, hW⟩; (first | rw [HP.out] at he | rw [HQ.out] at he); subst he; replace HG := Lib.hid (show Grown w W6 from grown_trans (by repeat (first | with_reducible exact HG.out | with_reducible refine Grown.setCell ?_ (by simp <;> omega) _ | with_reducible refine Grown.alloc ?_ _ _ | with_reducible refine grown_more ?_ _ | with_reducible refine Grown.drew ?_)) hW); replace HB := Lib.hid (HB.out.grown (grown_trans (by repeat (first | with_reducible exact Grown.refl _ | with_reducible refine Grown.setCell ?_ (by simp <;> omega) _ | with_reducible refine Grown.alloc ?_ _ _ | with_reducible refine grown_more ?_ _ | with_reducible refine Grown.drew ?_)) hW)); clear hW y y0; obtain ⟨y, y0⟩ := HB.out)
            go_ret
            exact ⟨by simp, by repeat (first | with_reducible exact HG.out | with_reducible refine Grown.setCell ?_ (by simp <;> omega) _ | with_reducible refine Grown.alloc ?_ _ _ | with_reducible refine grown_more ?_ _ | with_reducible refine Grown.drew ?_)⟩
end Go.Proofs.Ytfdfbgmnfiiipaa
