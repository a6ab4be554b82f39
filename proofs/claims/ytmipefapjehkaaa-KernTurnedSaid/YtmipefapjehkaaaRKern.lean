/- The contracts of annealref13's products. -/
import Derived.Test.YtmipefapjehkaaaRTen
import Derived.Test.YtmipefapjehkaaaFunMath
import Derived.Test.YtmipefapjehkaaaRWhoB
import Derived.Test.YtmipefapjehkaaaRFun
import Derived.Lib.Hide
import Derived.Handy
import Derived.BigRegion
import Derived.Deep.QuietTactic
import Derived.BigQuiet
import Derived.Deep.RegionHeld3
import Derived.StillTailTactics
namespace Go.Proofs.Ytmipefapjehkaaa
open Go.RowKit
set_option linter.unusedVariables false
set_option linter.unusedSimpArgs false

set_option maxHeartbeats 1000000 in
theorem twide_any (R C F : Int) (ad : Option Addr) (n c i : Nat) (g : Nat → Int) (w : World) (hn : n ≤ 9223372036854775807) (hi : i < n) (h : Reads ad n g w) :
    Calls Try.prog 44 #[.agg #[.int .i64 R, .int .i64 C, .int .i64 F, .slice ad n c], .int .i64 i] w fun e w' => e = .returned (.int .u32 (widV F g i)) ∧ Grown w w' := by
  obtain ⟨hb, h⟩ := h
  obtain ⟨b, off, rfl, hl, hc⟩ : ∃ b off, ad = some ⟨b, off, none⟩ ∧ b < w.heap.size ∧ ∀ i, i < n → w.cell? ⟨b, off + i, none⟩ = some (.int .u32 (g i)) := by
    rcases h with h | h
    · omega
    · exact h
  obtain ⟨x0, x1⟩ := hb i hi
  have y := hc i hi
  have HX := Lib.hid (show widV F g i = conV F 2 0 (g i) from rfl)
  obtain ⟨x, hx⟩ : ∃ x, g i = x := ⟨_, rfl⟩
  rw [hx] at x0 x1 y HX
  have y2 : (w.alloc (.cells #[.int .i64 R, .int .i64 C, .int .i64 F, .slice (some ⟨b, off, none⟩) n c] 24)).cell? ⟨w.heap.size, 2, none⟩ = some (.int .i64 F) := by go_simp
  have y3 : (w.alloc (.cells #[.int .i64 R, .int .i64 C, .int .i64 F, .slice (some ⟨b, off, none⟩) n c] 24)).cell? ⟨w.heap.size, 3, none⟩ = some (.slice (some ⟨b, off, none⟩) n c) := by go_simp
  have HG : Grown w (w.alloc (.cells #[.int .i64 R, .int .i64 C, .int .i64 F, .slice (some ⟨b, off, none⟩) n c] 24)) := Grown.alloc (Grown.refl _) _ _
  have y0 := grown_cell HG y hl
  have HG' := Lib.hid HG
  have hz : w.heap.size < (w.alloc (.cells #[.int .i64 R, .int .i64 C, .int .i64 F, .slice (some ⟨b, off, none⟩) n c] 24)).heap.size := by simp
  have hb0 := Nat.lt_of_lt_of_le hl HG.2.2
  clear hc h hb hx HG y
  go_enter Try.func44, Try.ntmps44
  go_wp2_with fail
  generalize (w.alloc (.cells #[.int .i64 R, .int .i64 C, .int .i64 F, .slice (some ⟨b, off, none⟩) n c] 24)) = W0 at y0 y2 y3 HG' hz hb0 ⊢
  go_region_held3 (fun w' => w'.cell? ⟨w.heap.size, 2, none⟩ = some (.int .i64 F) ∧ w'.cell? ⟨w.heap.size, 3, none⟩ = some (.slice (some ⟨b, off, none⟩) n c) ∧ w'.cell? ⟨b, off + i, none⟩ = some (.int .u32 x)) (go_keep) (first
    | (go_at_call 66; refine (rwiden_any F x _ x0 x1).mono ?_; rintro e W1 ⟨rfl, hW1⟩; replace HG' := Lib.hid (show Grown w W1 from grown_trans gr hW1); replace y0 := grown_cell hW1 y0 hb0; replace y2 := grown_cell hW1 y2 hz; replace y3 := grown_cell hW1 y3 hz; clear hW1))
  go_wp2
  go_ret
  exact ⟨ret_int HX.out.symm, gr⟩

theorem rdot_not (ad ad' : Option Addr) (n n' c c' : Nat) (w : World) (hn : n ≠ n') :
    Calls Try.prog 20 #[.slice ad n c, .slice ad' n' c'] w fun e w' => e = .returned (.tuple #[.int .u32 0, .int .i64 21]) ∧ Grown w w' := by
  have h1 : ((n : Int) == n') = false := by simpa using (show ¬ (n : Int) = n' by omega)
  have h2 : ((n : Int) != n') = true := by rw [bne, h1]; rfl
  clear hn
  go_enter Try.func20, Try.ntmps20
  go_wp2
  go_ret2
  exact ⟨rfl, Grown.refl _⟩

theorem rdot_nil (ad ad' : Option Addr) (c c' : Nat) (w : World) :
    Calls Try.prog 20 #[.slice ad 0 c, .slice ad' 0 c'] w fun e w' => e = .returned (.tuple #[.int .u32 0, .int .i64 0]) ∧ Grown w w' := by
  go_enter Try.func20, Try.ntmps20
  go_wp2
  refine wp_loop_rounds 1 ?_
  rw [rounds_succ]
  go_wp2
  go_ret2
  exact ⟨rfl, Grown.refl _⟩

set_option maxHeartbeats 1000000 in
theorem rdot_loop (b off b' off' n c c' : Nat) (g h : Nat → Int) (w : World) (hn : n ≤ 9223372036854775807) (hb : b < w.heap.size) (hb' : b' < w.heap.size)
    (hg : ∀ i, i < n → 0 ≤ g i ∧ g i ≤ 4294967295) (hh : ∀ i, i < n → 0 ≤ h i ∧ h i ≤ 4294967295)
    (hc : ∀ i, i < n → w.cell? ⟨b, off + i, none⟩ = some (.int .u32 (g i))) (hc' : ∀ i, i < n → w.cell? ⟨b', off' + i, none⟩ = some (.int .u32 (h i))) :
    Calls Try.prog 20 #[.slice (some ⟨b, off, none⟩) n c, .slice (some ⟨b', off', none⟩) n c'] w fun e w' => e = .returned (.tuple #[.int .u32 (dotV g h n), .int .i64 0]) ∧ Grown w w' := by
  have H1 := Lib.hid hg
  have H2 := Lib.hid hh
  have H3 := Lib.hid hc
  have H4 := Lib.hid hc'
  clear hg hh hc hc'
  go_enter Try.func20, Try.ntmps20
  go_wp2
  go_loopw [6, 7] (fun s i wr => DotRel g h n w s i wr) (fun _ i _ => n - (intOf i).toNat)
  case atStart => exact ⟨0, Nat.zero_le _, rfl, rfl, Int.le_refl _, by show (0 : Int) ≤ 4294967295; decide, Grown.refl _⟩
  case round =>
    obtain ⟨k, hk, rfl, rfl, s0, s1, hG⟩ := hrel
    have HG := Lib.hid hG
    clear hG
    obtain ⟨s, hs⟩ : ∃ s, dotV g h k = s := ⟨_, rfl⟩
    rw [hs] at s0 s1 ⊢
    have HS := Lib.hid hs
    clear hs
    by_cases hlt : k < n
    · have y0 : wr.cell? ⟨b, off + k, none⟩ = some (.int .u32 (g k)) := grown_cell HG.out (H3.out k hlt) hb
      have y1 : wr.cell? ⟨b', off' + k, none⟩ = some (.int .u32 (h k)) := grown_cell HG.out (H4.out k hlt) hb'
      obtain ⟨x0, x1⟩ := H1.out k hlt
      obtain ⟨z0, z1⟩ := H2.out k hlt
      have HD := Lib.hid (show dotV g h (k + 1) = fmaV (g k) (h k) s by rw [← HS.out]; rfl)
      have hb0 := Nat.lt_of_lt_of_le hb HG.out.2.2
      have hb1 := Nat.lt_of_lt_of_le hb' HG.out.2.2
      generalize g k = x at *
      generalize h k = z at *
      go_wp2_with fail
      go_region_held3 (fun w' => w'.cell? ⟨b, off + k, none⟩ = some (.int .u32 x) ∧ w'.cell? ⟨b', off' + k, none⟩ = some (.int .u32 z)) (go_keep) (first
        | (go_at_call 35; refine (nfma_any x z s _ x0 x1 z0 z1 s0 s1).mono ?_; rintro e W1 ⟨rfl, h0, h1, hW1⟩; replace HG := Lib.hid (show Grown w W1 from grown_trans gr hW1); replace y0 := grown_cell hW1 y0 hb0; replace y1 := grown_cell hW1 y1 hb1; clear hW1))
      go_wp2
      go_roundw
      case rel => exact ⟨k + 1, by omega, by go_num, by rw [HD.out], by rw [HD.out]; exact h0, by rw [HD.out]; exact h1, gr⟩
      case measure => simp [intOf]; omega
    · obtain rfl : k = n := by omega
      go_wp2
      go_ret2
      exact ⟨by rw [HS.out]; rfl, HG.out⟩

/-- Dot: from nought on, in order; of unlike lengths none. -/
theorem rdot_any (ad ad' : Option Addr) (n n' c c' : Nat) (g h : Nat → Int) (w : World) (hn : n ≤ 9223372036854775807) (h1 : Reads ad n g w) (h2 : Reads ad' n' h w) :
    Calls Try.prog 20 #[.slice ad n c, .slice ad' n' c'] w fun e w' => e = .returned (.tuple #[.int .u32 (if n = n' then dotV g h n else 0), .int .i64 (if n = n' then 0 else 21)]) ∧ Grown w w' := by
  by_cases e : n = n'
  · subst e
    rw [if_pos rfl, if_pos rfl]
    rcases h1.2 with rfl | ⟨b, off, rfl, hl, hc⟩
    · exact rdot_nil ad ad' c c' w
    · rcases h2.2 with rfl | ⟨b', off', rfl, hl', hc'⟩
      · exact rdot_nil _ ad' c c' w
      · exact rdot_loop b off b' off' n c c' g h w hn hl hl' h1.1 h2.1 hc hc'
  · rw [if_neg e, if_neg e]
    exact rdot_not ad ad' n n' c c' w e
end Go.Proofs.Ytmipefapjehkaaa
