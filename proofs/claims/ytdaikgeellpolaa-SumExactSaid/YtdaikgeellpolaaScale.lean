/- Contracts of the reference's scaling, of its order. -/
import Derived.Test.YtdaikgeellpolaaSub
namespace Go.Proofs.Ytdaikgeellpolaa
open Go.RowKit
set_option linter.unusedVariables false
set_option linter.unusedSimpArgs false

theorem one_under (W : World) (a : Value) (C : Array Value) (t u : TypeId) : ((W.alloc (.cells C t)).alloc (.cells #[a] u)).cell? ⟨W.heap.size + 1, 0, none⟩ = some a := by go_simp

set_option maxRecDepth 100000 in
set_option maxHeartbeats 2000000 in
theorem rscale_one (f mode a n z : Int) (w : World) (a0 : 0 ≤ a) (a1 : a ≤ 4294967295) (hn : n = -1 ∨ n = 1) (hnn : nanB f a = false) (hf : finI f a = true) (hp : PackE f mode (fS f a) (valN (clampE (unE f a + n)) (unM f a) false) = excE z false) :
    Calls Try.prog 18 #[.int .i64 f, .int .i64 mode, .int .u32 a, .int .i64 n] w fun e w' => e = excE z false ∧ Grown w w' := by
  have HE := Lib.hid ((exc_new w 29).under1 #[.int .u32 a] 22)
  have HG := Lib.hid (Grown.alloc (Grown.alloc (Grown.refl w) #[.bool false, .bool false, .bool false, .bool false, .bool false] 29) #[.int .u32 a] 22)
  have HC := Lib.hid (one_under w (.int .u32 a) #[.bool false, .bool false, .bool false, .bool false, .bool false] 29 22)
  obtain ⟨SS, hSS⟩ : ∃ SS, sigB f a = SS := ⟨_, rfl⟩
  have HNN := Lib.hid hnn
  have HFF := Lib.hid hf
  obtain ⟨eA0, eA1⟩ := unE_bd f a
  obtain ⟨mA0, mA1⟩ := unM_bd f a
  clear hnn hf hSS
  rcases hn with rfl | rfl
  all_goals
    have HP := Lib.hid hp
    clear hp
    go_enter Try.func18, Try.ntmps18
    go_wp2_with fail
    generalize ((w.alloc _).alloc _) = W4 at HE HG HC ⊢
    have y0 := HC.out
    refine (nans1_any f a _ _ a0 a1 y0).mono ?_
    rintro e w' ⟨he, m, rfl⟩
    rw [HNN.out] at he
    subst he
    clear y0
    go_wp2_with (first
      | (go_at_call 15; refine (rfinite_any _ _ _ (by omega) (by omega)).mono ?_; rintro e w' ⟨he, m, rfl⟩; rw [HFF.out] at he; subst he)
      | (go_at_call 35; refine (runpack_any _ _ _ (by omega) (by omega)).mono ?_; rintro e w' ⟨rfl, m, rfl⟩)
      | (go_at_call 41; refine (rpack_any _ _ _ _ _ _ _ (by omega) (by omega) (by omega) (by omega)).mono ?_; rintro e W5 ⟨he, hW5⟩; rw [HP.out] at he; unfold excE at he; subst he; have HW5 := Lib.hid (grown_trans (grown_drewN _ _) hW5); clear hW5; obtain ⟨xb, x0, x1, x2, x3, x4, z0, z1, z2, z3, z4⟩ := HE.out.grown HW5.out))
    (try simp only [Exit.inBlock, Exit.then])
    refine bodyPost_ret (v := .tuple #[.int .u32 z, .agg #[.bool false, .bool false, .bool false, .bool false, .bool false]]) ?_ rfl ⟨rfl, ?_⟩
    · rw [results_tmp_cell rfl]
      go_simp
    · repeat refine Grown.setCell ?_ (by simp <;> omega) _
      exact grown_trans HG.out HW5.out

theorem words_one (W : World) (a b : Value) (u : TypeId) :
    (W.alloc (.cells #[a, b] u)).cell? ⟨W.heap.size, 0, none⟩ = some a ∧ (W.alloc (.cells #[a, b] u)).cell? ⟨W.heap.size, 1, none⟩ = some b := by
  refine ⟨?_, ?_⟩ <;> go_simp
/-- Which of two numbers that aren't below nought is the lesser one. -/
theorem key_pos (f a : Int) (hs : fS f a = false) (h0 : 0 ≤ a) (h1 : a ≤ msk f) : keyI f a = a := by
  unfold keyI
  rw [hs, if_neg (by decide)]
  have := parts_sum f a h0 h1
  have hX := fX_bd f a
  have hF := fF_bd f a
  rw [hs, show zerI f false = 0 from rfl] at this
  rcases fmt_cases f with ⟨rfl, hf⟩ | ⟨rfl, hf⟩ | ⟨⟨c0, c1⟩, hf⟩ <;> obtain ⟨e1, e2, e3, e4, e5, e6, e7, e8, e9⟩ := hf
  all_goals
    rw [e5]
    rw [e3] at this hF
    rw [e4] at hX
    omega

set_option maxRecDepth 100000 in
set_option maxHeartbeats 2000000 in
theorem rcompare_pos (f a b : Int) (w : World) (a0 : 0 ≤ a) (a1 : a ≤ 4294967295) (b0 : 0 ≤ b) (b1 : b ≤ 4294967295) (hn : (nanB f a || nanB f b) = false) (ha : keyI f a = a) (hb : keyI f b = b) (za : nouB f a = (a == 0)) (zb : nouB f b = (b == 0)) :
    Calls Try.prog 42 #[.int .i64 f, .int .u32 a, .int .u32 b] w fun e w' => e = .returned (.tuple #[.int .i64 (if a < b then -1 else if b < a then 1 else 0), .bool true]) ∧ Grown w w' := by
  have HC := Lib.hid (words_one w (.int .u32 a) (.int .u32 b) 22)
  have HG := Lib.hid (Grown.alloc (Grown.refl w) #[.int .u32 a, .int .u32 b] 22)
  have HN := Lib.hid hn
  have HA := Lib.hid ha
  have HB := Lib.hid hb
  have HZA := Lib.hid za
  have HZB := Lib.hid zb
  clear hn ha hb za zb
  have K := fun (h : Prop) (d : Decidable h) => h
  clear K
  obtain ⟨R, hR⟩ : ∃ R : Int, (if a < b then -1 else if b < a then 1 else 0) = R := ⟨_, rfl⟩
  rw [hR]
  obtain ⟨ZA, hZA⟩ : ∃ ZA, (a == 0) = ZA := ⟨_, rfl⟩
  obtain ⟨ZB, hZB⟩ : ∃ ZB, (b == 0) = ZB := ⟨_, rfl⟩
  rw [hZA] at HZA
  rw [hZB] at HZB
  have c3 : (a < b ∧ R = -1) ∨ (a = b ∧ R = 0) ∨ (b < a ∧ R = 1) := by
    rcases Int.lt_trichotomy a b with h | h | h
    · exact .inl ⟨h, by rw [← hR, if_pos h]⟩
    · exact .inr (.inl ⟨h, by rw [← hR, if_neg (by omega), if_neg (by omega)]⟩)
    · exact .inr (.inr ⟨h, by rw [← hR, if_neg (by omega), if_pos h]⟩)
  have c4 : ZA = true → ZB = true → R = 0 := by
    intro h1 h2
    rw [h1] at hZA
    rw [h2] at hZB
    simp at hZA hZB
    omega
  have C4 := Lib.hid c4
  clear hR hZA hZB c4
  cases ZA
  case true =>
    cases ZB
    case true =>
      obtain rfl := C4.out rfl rfl
      clear c3
      go_enter Try.func42, Try.ntmps42
      go_wp2_with fail
      generalize (w.alloc _) = W4 at HG HC ⊢
      obtain ⟨y0, y1⟩ := HC.out
      refine (nans2_any f a b _ _ a0 a1 b0 b1 y0 y1).mono ?_
      rintro e w' ⟨he, m, rfl⟩
      rw [HN.out] at he
      subst he
      clear y0 y1
      go_wp2_with (first
        | (go_at_call 32; refine (rnouB_any _ _ _ (by omega) (by omega)).mono ?_; rintro e w' ⟨he, m, rfl⟩; (first | rw [HZA.out] at he | rw [HZB.out] at he); subst he)
        | (go_at_call 20; refine (rkey_any _ _ _ (by omega) (by omega)).mono ?_; rintro e w' ⟨he, m, rfl⟩; (first | rw [HA.out] at he | rw [HB.out] at he); subst he))
      go_ret2
      exact ⟨rfl, grown_more HG.out _⟩
    case false =>
      rcases c3 with ⟨c3, rfl⟩ | ⟨c3, rfl⟩ | ⟨c3, rfl⟩
      · have d1 : decide (a < b) = true := decide_eq_true c3
        go_enter Try.func42, Try.ntmps42
        go_wp2_with fail
        generalize (w.alloc _) = W4 at HG HC ⊢
        obtain ⟨y0, y1⟩ := HC.out
        refine (nans2_any f a b _ _ a0 a1 b0 b1 y0 y1).mono ?_
        rintro e w' ⟨he, m, rfl⟩
        rw [HN.out] at he
        subst he
        clear y0 y1
        go_wp2_with (first
          | (go_at_call 32; refine (rnouB_any _ _ _ (by omega) (by omega)).mono ?_; rintro e w' ⟨he, m, rfl⟩; (first | rw [HZA.out] at he | rw [HZB.out] at he); subst he)
          | (go_at_call 20; refine (rkey_any _ _ _ (by omega) (by omega)).mono ?_; rintro e w' ⟨he, m, rfl⟩; (first | rw [HA.out] at he | rw [HB.out] at he); subst he))
        go_ret2
        exact ⟨rfl, grown_more HG.out _⟩
      · have d1 : decide (a < b) = false := decide_eq_false (by omega)
        have d2 : decide (b < a) = false := decide_eq_false (by omega)
        clear c3
        go_enter Try.func42, Try.ntmps42
        go_wp2_with fail
        generalize (w.alloc _) = W4 at HG HC ⊢
        obtain ⟨y0, y1⟩ := HC.out
        refine (nans2_any f a b _ _ a0 a1 b0 b1 y0 y1).mono ?_
        rintro e w' ⟨he, m, rfl⟩
        rw [HN.out] at he
        subst he
        clear y0 y1
        go_wp2_with (first
          | (go_at_call 32; refine (rnouB_any _ _ _ (by omega) (by omega)).mono ?_; rintro e w' ⟨he, m, rfl⟩; (first | rw [HZA.out] at he | rw [HZB.out] at he); subst he)
          | (go_at_call 20; refine (rkey_any _ _ _ (by omega) (by omega)).mono ?_; rintro e w' ⟨he, m, rfl⟩; (first | rw [HA.out] at he | rw [HB.out] at he); subst he))
        go_ret2
        exact ⟨rfl, grown_more HG.out _⟩
      · have d1 : decide (a < b) = false := decide_eq_false (by omega)
        have d2 : decide (b < a) = true := decide_eq_true c3
        go_enter Try.func42, Try.ntmps42
        go_wp2_with fail
        generalize (w.alloc _) = W4 at HG HC ⊢
        obtain ⟨y0, y1⟩ := HC.out
        refine (nans2_any f a b _ _ a0 a1 b0 b1 y0 y1).mono ?_
        rintro e w' ⟨he, m, rfl⟩
        rw [HN.out] at he
        subst he
        clear y0 y1
        go_wp2_with (first
          | (go_at_call 32; refine (rnouB_any _ _ _ (by omega) (by omega)).mono ?_; rintro e w' ⟨he, m, rfl⟩; (first | rw [HZA.out] at he | rw [HZB.out] at he); subst he)
          | (go_at_call 20; refine (rkey_any _ _ _ (by omega) (by omega)).mono ?_; rintro e w' ⟨he, m, rfl⟩; (first | rw [HA.out] at he | rw [HB.out] at he); subst he))
        go_ret2
        exact ⟨rfl, grown_more HG.out _⟩
  case false =>
    rcases c3 with ⟨c3, rfl⟩ | ⟨c3, rfl⟩ | ⟨c3, rfl⟩
    · have d1 : decide (a < b) = true := decide_eq_true c3
      go_enter Try.func42, Try.ntmps42
      go_wp2_with fail
      generalize (w.alloc _) = W4 at HG HC ⊢
      obtain ⟨y0, y1⟩ := HC.out
      refine (nans2_any f a b _ _ a0 a1 b0 b1 y0 y1).mono ?_
      rintro e w' ⟨he, m, rfl⟩
      rw [HN.out] at he
      subst he
      clear y0 y1
      go_wp2_with (first
        | (go_at_call 32; refine (rnouB_any _ _ _ (by omega) (by omega)).mono ?_; rintro e w' ⟨he, m, rfl⟩; (first | rw [HZA.out] at he | rw [HZB.out] at he); subst he)
        | (go_at_call 20; refine (rkey_any _ _ _ (by omega) (by omega)).mono ?_; rintro e w' ⟨he, m, rfl⟩; (first | rw [HA.out] at he | rw [HB.out] at he); subst he))
      go_ret2
      exact ⟨rfl, grown_more HG.out _⟩
    · have d1 : decide (a < b) = false := decide_eq_false (by omega)
      have d2 : decide (b < a) = false := decide_eq_false (by omega)
      clear c3
      go_enter Try.func42, Try.ntmps42
      go_wp2_with fail
      generalize (w.alloc _) = W4 at HG HC ⊢
      obtain ⟨y0, y1⟩ := HC.out
      refine (nans2_any f a b _ _ a0 a1 b0 b1 y0 y1).mono ?_
      rintro e w' ⟨he, m, rfl⟩
      rw [HN.out] at he
      subst he
      clear y0 y1
      go_wp2_with (first
        | (go_at_call 32; refine (rnouB_any _ _ _ (by omega) (by omega)).mono ?_; rintro e w' ⟨he, m, rfl⟩; (first | rw [HZA.out] at he | rw [HZB.out] at he); subst he)
        | (go_at_call 20; refine (rkey_any _ _ _ (by omega) (by omega)).mono ?_; rintro e w' ⟨he, m, rfl⟩; (first | rw [HA.out] at he | rw [HB.out] at he); subst he))
      go_ret2
      exact ⟨rfl, grown_more HG.out _⟩
    · have d1 : decide (a < b) = false := decide_eq_false (by omega)
      have d2 : decide (b < a) = true := decide_eq_true c3
      go_enter Try.func42, Try.ntmps42
      go_wp2_with fail
      generalize (w.alloc _) = W4 at HG HC ⊢
      obtain ⟨y0, y1⟩ := HC.out
      refine (nans2_any f a b _ _ a0 a1 b0 b1 y0 y1).mono ?_
      rintro e w' ⟨he, m, rfl⟩
      rw [HN.out] at he
      subst he
      clear y0 y1
      go_wp2_with (first
        | (go_at_call 32; refine (rnouB_any _ _ _ (by omega) (by omega)).mono ?_; rintro e w' ⟨he, m, rfl⟩; (first | rw [HZA.out] at he | rw [HZB.out] at he); subst he)
        | (go_at_call 20; refine (rkey_any _ _ _ (by omega) (by omega)).mono ?_; rintro e w' ⟨he, m, rfl⟩; (first | rw [HA.out] at he | rw [HB.out] at he); subst he))
      go_ret2
      exact ⟨rfl, grown_more HG.out _⟩

set_option maxHeartbeats 1000000 in
theorem rless_pos (f a b : Int) (w : World) (a0 : 0 ≤ a) (a1 : a ≤ 4294967295) (b0 : 0 ≤ b) (b1 : b ≤ 4294967295) (hn : (nanB f a || nanB f b) = false) (ha : keyI f a = a) (hb : keyI f b = b) (za : nouB f a = (a == 0)) (zb : nouB f b = (b == 0)) :
    Calls Try.prog 19 #[.int .i64 f, .int .u32 a, .int .u32 b] w fun e w' => e = .returned (.bool (decide (a < b))) ∧ Grown w w' := by
  have HL := Lib.hid (rcompare_pos f a b · a0 a1 b0 b1 hn ha hb za zb)
  clear hn ha hb za zb
  obtain ⟨R, hR⟩ : ∃ R : Int, (if a < b then -1 else if b < a then 1 else 0) = R := ⟨_, rfl⟩
  rw [hR] at HL
  have HD := Lib.hid (show decide (R < 0) = decide (a < b) by rw [← hR]; (repeat' split) <;> simp_all <;> omega)
  clear hR
  go_enter Try.func19, Try.ntmps19
  go_wp2_with fail
  refine (HL.out _).mono ?_
  rintro e W1 ⟨rfl, hW1⟩
  have HW1 := Lib.hid hW1
  clear hW1
  go_wp2
  go_ret
  exact ⟨ret_bool HD.out, HW1.out⟩
end Go.Proofs.Ytdaikgeellpolaa
