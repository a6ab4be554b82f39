/- The walk of KernDots. -/
import Derived.Test.YtmipefapjehkaaaFrame
import Derived.Test.YtmipefapjehkaaaSeatT
import Derived.Test.YtmipefapjehkaaaKern
import Derived.Deep.RegionHeld3
namespace Go.Proofs.Ytmipefapjehkaaa
open Go Go.RowKit
set_option linter.unusedVariables false
set_option linter.unusedSimpArgs false

/-- A slice of the call's own stays where another row has grown. -/
theorem owns_far {w w' : World} {base : Nat} {e : TypeId} {size : Nat} {v : Value} {n : Nat} {xs : List Value} {row : Option Nat} (h : w.ownsRow base e size v n xs) (hg : w.grownBy w' row) (hne : ∀ b, v.ownBlock = some b → row ≠ some b) : w'.ownsRow base e size v n xs := by
  obtain ⟨h1, h2⟩ := h
  refine ⟨h1, ?_⟩
  rcases h2 with h | ⟨g, cap, cur, e1, e2, e3, e4⟩
  · exact .inl h
  · refine .inr ⟨g, cap, cur, e1, e2, ?_, e4⟩
    rw [hg.block g (Array.getElem?_eq_some_iff.1 e3).1 (fun c => hne g (by rw [e1]; rfl) c.symm)]
    exact e3

/-- Two lists of the law's own: k of G's numbers, j of H's, in blocks that are not one. -/
structure DsS (W0 : World) (G H : Nat → Int) (k j : Nat) (v u : Value) (W : World) : Prop where
  g : Grown W0 W
  o1 : W.ownsRow W0.heap.size 37 1 v k (wordsL k G)
  o2 : W.ownsRow W0.heap.size 37 1 u j (wordsL j H)
  ne : ∀ b, v.ownBlock = some b → u.ownBlock ≠ some b

theorem DsS.grown {W0 : World} {G H : Nat → Int} {k j : Nat} {v u : Value} {W W' : World} (s : DsS W0 G H k j v u W) (g : Grown W W') : DsS W0 G H k j v u W' :=
  ⟨grown_trans s.g g, owns_grown s.o1 g, owns_grown s.o2 g, s.ne⟩

theorem DsS.one {W0 : World} {G H : Nat → Int} {k j : Nat} {v u : Value} {W7 W8 : World} {X : Int} {gg cc : Nat} (h : DsS W0 G H k j v u W7) (hX : G k = X)
    (own : W8.ownsRow W0.heap.size 37 1 (.slice (some ⟨gg, 0, none⟩) (k + 1) cc) (k + 1) (wordsL k G ++ [.int .u32 X])) (hb : v.ownBlock = some gg ∨ gg = W7.heap.size) (hgr : ∀ w0, Grown w0 W7 → w0.heap.size ≤ W0.heap.size → Grown w0 W8) (hby : W7.grownBy W8 v.ownBlock) :
    DsS W0 G H (k + 1) j (.slice (some ⟨gg, 0, none⟩) (k + 1) cc) u W8 := by
  refine ⟨hgr W0 h.g (Nat.le_refl _), ?_, owns_far h.o2 hby (fun b hu hv => h.ne b hv hu), fun b e hu => ?_⟩
  · rw [wordsL_next, hX]
    exact own
  · have e' : some gg = some b := e
    cases e'
    rcases hb with hb | hb
    · exact h.ne gg hb hu
    · have := (h.o2.lt gg hu).2
      omega

theorem DsS.two {W0 : World} {G H : Nat → Int} {k j : Nat} {v u : Value} {W7 W8 : World} {X : Int} {gg cc : Nat} (h : DsS W0 G H k j v u W7) (hX : H j = X)
    (own : W8.ownsRow W0.heap.size 37 1 (.slice (some ⟨gg, 0, none⟩) (j + 1) cc) (j + 1) (wordsL j H ++ [.int .u32 X])) (hb : u.ownBlock = some gg ∨ gg = W7.heap.size) (hgr : ∀ w0, Grown w0 W7 → w0.heap.size ≤ W0.heap.size → Grown w0 W8) (hby : W7.grownBy W8 u.ownBlock) :
    DsS W0 G H k (j + 1) v (.slice (some ⟨gg, 0, none⟩) (j + 1) cc) W8 := by
  refine ⟨hgr W0 h.g (Nat.le_refl _), owns_far h.o1 hby (fun b hv hu => h.ne b hv hu), ?_, fun b hv e => ?_⟩
  · rw [wordsL_next, hX]
    exact own
  · have e' : some gg = some b := e
    cases e'
    rcases hb with hb | hb
    · exact h.ne gg hv hb
    · have := (h.o1.lt gg hv).2
      omega

set_option maxRecDepth 100000 in
set_option maxHeartbeats 8000000 in
theorem kdots_go (W : World) (ad bd : Option Addr) (an ac bn bc M : Nat) (ag bg : Nat → Int) (mild : Bool) (h1 : an ≤ 60) (h2 : bn ≤ 60) (r1 : Reads ad an ag W) (r2 : Reads bd bn bg W) (hM : (an ≤ bn ∧ M = an) ∨ (bn < an ∧ M = bn)) :
    Calls Try.prog 4 #[.slice ad an ac, .slice bd bn bc, .bool mild] W fun e w' => e = .returned (.bool true) ∧ Grown W w' := by
  have H1 := Lib.hid r1
  have H2 := Lib.hid r2
  clear r1 r2
  go_enter Try.func4, Try.ntmps4
  go_wp2_with fail
  refine (known14_any _).mono ?_
  rintro e W1 ⟨rfl, hW1⟩
  have HG := Lib.hid hW1
  replace H1 := Lib.hid (H1.out.grown hW1)
  replace H2 := Lib.hid (H2.out.grown hW1)
  have HS : Hid (DsS W1 (fun i => milI 2 (ag i)) (fun i => milI 2 (bg i)) 0 0 (.slice none 0 0) (.slice none 0 0) W1) := Lib.hid ⟨Grown.refl _, World.ownsRow_nil _ _ _ _, World.ownsRow_nil _ _ _ _, fun b hb => by cases hb⟩
  obtain ⟨G, hG⟩ : ∃ G : Nat → Int, (fun i => milI 2 (ag i)) = G := ⟨_, rfl⟩
  obtain ⟨H, hH⟩ : ∃ H : Nat → Int, (fun i => milI 2 (bg i)) = H := ⟨_, rfl⟩
  rw [hG, hH] at HS
  have HGG := Lib.hid (show ∀ i, milI 2 (ag i) = G i from fun i => by rw [← hG])
  have HHH := Lib.hid (show ∀ i, milI 2 (bg i) = H i from fun i => by rw [← hH])
  clear hW1 hG hH
  go_wp2_with fail
  go_loopw [7, 8, 9] (fun v u i wr => ∃ k : Nat, k ≤ M ∧ i = .int .i64 k ∧ Hid (DsS W1 G H k k v u wr)) (fun _ _ i _ => M - (intOf i).toNat)
  case atStart => exact ⟨0, Nat.zero_le _, rfl, HS⟩
  case round =>
    rename World => wr
    clear HS
    obtain ⟨k, hk, rfl, HS⟩ := hrel
    have hmin : (if bn < an then (bn : Int) else (an : Int)) = (M : Int) := by
      rcases hM with ⟨h, rfl⟩ | ⟨h, rfl⟩
      · rw [if_neg (by omega)]
      · rw [if_pos (by omega)]
    by_cases hlt : k < M
    · have ka : k < an := by omega
      have kb : k < bn := by omega
      obtain ⟨b, off, rfl, hl, hc⟩ : ∃ b off, ad = some ⟨b, off, none⟩ ∧ b < W1.heap.size ∧ ∀ i, i < an → W1.cell? ⟨b, off + i, none⟩ = some (.int .u32 (ag i)) := by
        rcases H1.out.2 with h | h
        · omega
        · exact h
      obtain ⟨b', off', rfl, hl', hc'⟩ : ∃ b off, bd = some ⟨b, off, none⟩ ∧ b < W1.heap.size ∧ ∀ i, i < bn → W1.cell? ⟨b, off + i, none⟩ = some (.int .u32 (bg i)) := by
        rcases H2.out.2 with h | h
        · omega
        · exact h
      have HC := Lib.hid hc
      have HD := Lib.hid hc'
      have y0 := grown_cell HS.out.g (hc k ka) hl
      have y1 := grown_cell HS.out.g (hc' k kb) hl'
      obtain ⟨x0, x1⟩ := H1.out.1 k ka
      obtain ⟨z0, z1⟩ := H2.out.1 k kb
      obtain ⟨x, hx⟩ : ∃ x, ag k = x := ⟨_, rfl⟩
      obtain ⟨z, hz⟩ : ∃ z, bg k = z := ⟨_, rfl⟩
      rw [hx] at x0 x1 y0
      rw [hz] at z0 z1 y1
      have HX := Lib.hid hx
      have HZ := Lib.hid hz
      obtain ⟨X, hX⟩ : ∃ X, milI 2 x = X := ⟨_, rfl⟩
      obtain ⟨Z, hZ⟩ : ∃ Z, milI 2 z = Z := ⟨_, rfl⟩
      have HMX := Lib.hid hX
      have HMZ := Lib.hid hZ
      have HGX : Hid (G k = X) := Lib.hid (by rw [← HGG.out, hx, hX])
      have HHZ : Hid (H k = Z) := Lib.hid (by rw [← HHH.out, hz, hZ])
      have hb1 := Nat.lt_of_lt_of_le hl HS.out.g.2.2
      have hb2 := Nat.lt_of_lt_of_le hl' HS.out.g.2.2
      clear hc hc' hx hz hX hZ
      go_wp2_with fail
      go_region_held3 (fun w' => w'.cell? ⟨b, off + k, none⟩ = some (.int .u32 x) ∧ w'.cell? ⟨b', off' + k, none⟩ = some (.int .u32 z)) (go_keep) (first
        | (go_at_call 18; (with_reducible refine (mild_is 2 x _ x0 x1).mono ?_); rintro e W5 ⟨he, dm, hd⟩; rw [HMX.out] at he; subst he; replace hd := grown_dn hd; replace HS := Lib.hid (HS.out.grown (grown_trans gr hd)); clear hd y0 y1; have y0 := grown_cell HS.out.g (HC.out k ka) hl; have y1 := grown_cell HS.out.g (HD.out k kb) hl'; rw [HX.out] at y0; rw [HZ.out] at y1)
        | (go_at_call 18; (with_reducible refine (mild_is 2 z _ z0 z1).mono ?_); rintro e W6 ⟨he, dm, hd⟩; rw [HMZ.out] at he; subst he; replace hd := grown_dn hd; replace HS := Lib.hid (HS.out.grown (grown_trans gr hd)); clear hd y0 y1; have y0 := grown_cell HS.out.g (HC.out k ka) hl; have y1 := grown_cell HS.out.g (HD.out k kb) hl'; rw [HX.out] at y0; rw [HZ.out] at y1)
        | (refine step_append_kept rfl _ _ 22 rfl 37 _ _ 4 rfl rfl rfl rfl rfl rfl W1.heap.size _ k (wordsL k G) rfl (HS.out.o1.alloc _) W5.heap.size (.int .u32 X) rfl (by go_simp) rfl (by show k + 1 ≤ 9223372036854775807; omega) (by show (k + 1) * 4 ≤ 140737488355328; omega) (by have := HS.out.g.2.2; simp; omega) ?_; intro gg1 cc1 W8 own8 hb8 hs8 hblk hcell hfr hgr hby; replace HS := Lib.hid ((HS.out.grown (Grown.alloc (Grown.refl W5) #[.int .u32 X] 37)).one HGX.out own8 hblk hgr hby); clear own8 hb8 hs8 hblk hcell hfr hgr hby y0 y1; have y0 := grown_cell HS.out.g (HC.out k ka) hl; have y1 := grown_cell HS.out.g (HD.out k kb) hl'; rw [HX.out] at y0; rw [HZ.out] at y1)
        | (refine step_append_kept rfl _ _ 22 rfl 37 _ _ 4 rfl rfl rfl rfl rfl rfl W1.heap.size _ k (wordsL k H) rfl (HS.out.o2.alloc _) W6.heap.size (.int .u32 Z) rfl (by go_simp) rfl (by show k + 1 ≤ 9223372036854775807; omega) (by show (k + 1) * 4 ≤ 140737488355328; omega) (by have := HS.out.g.2.2; simp; omega) ?_; intro gg2 cc2 W9 own8 hb8 hs8 hblk hcell hfr hgr hby; replace HS := Lib.hid ((HS.out.grown (Grown.alloc (Grown.refl W6) #[.int .u32 Z] 37)).two HHZ.out own8 hblk hgr hby); clear own8 hb8 hs8 hblk hcell hfr hgr hby y0 y1; have y0 := grown_cell HS.out.g (HC.out k ka) hl; have y1 := grown_cell HS.out.g (HD.out k kb) hl'; rw [HX.out] at y0; rw [HZ.out] at y1))
      go_wp2
      go_roundw
      case rel => exact ⟨k + 1, by omega, by go_num, HS⟩
      case measure => simp [intOf]; omega
    · obtain rfl : k = M := by omega
      obtain ⟨xd, xc, rfl, hO1, -⟩ := owns_told (w := W1) HS.out.o1 (Nat.le_refl _)
      obtain ⟨yd, yc, rfl, hO2, -⟩ := owns_told (w := W1) HS.out.o2 (Nat.le_refl _)
      have R1 := Lib.hid (hO1.reads (fun t ht => by rw [← HGG.out]; exact mil_bd 2 _ (H1.out.1 t (by omega)).1))
      have R2 := Lib.hid (hO2.reads (fun t ht => by rw [← HHH.out]; exact mil_bd 2 _ (H2.out.1 t (by omega)).1))
      have hk60 : k ≤ 60 := by omega
      replace H1 := Lib.hid (H1.out.grown HS.out.g)
      replace H2 := Lib.hid (H2.out.grown HS.out.g)
      replace HG := Lib.hid (grown_trans HG.out HS.out.g)
      clear HS hO1 hO2
      obtain ⟨V, hV⟩ : ∃ V, (if an = bn then dotV ag bg an else 0) = V := ⟨_, rfl⟩
      obtain ⟨E, hE⟩ : ∃ E : Int, (if an = bn then (0 : Int) else 21) = E := ⟨_, rfl⟩
      obtain ⟨P, hP⟩ : ∃ P, dotV G H k = P := ⟨_, rfl⟩
      have HV := Lib.hid (show Ending.returned (.tuple #[.int .u32 (if an = bn then dotV ag bg an else 0), .int .i64 (if an = bn then 0 else 21)]) = .returned (.tuple #[.int .u32 V, .int .i64 E]) by rw [hV, hE])
      have HP := Lib.hid hP
      clear hV hE hP
      go_wp2_with fail
      refine (kdot_any ad bd an bn ac bc ag bg _ (by omega) (H1.out.grown gr) (H2.out.grown gr)).mono ?_
      rintro e W2 ⟨he, hW⟩
      rw [HV.out] at he
      subst he
      replace hW := grown_trans (show Grown wr _ from gr) hW
      replace H1 := Lib.hid (H1.out.grown hW)
      replace H2 := Lib.hid (H2.out.grown hW)
      replace R1 := Lib.hid (R1.out.grown hW)
      replace R2 := Lib.hid (R2.out.grown hW)
      replace HG := Lib.hid (grown_trans HG.out hW)
      clear hW
      go_wp2_with fail
      refine (rdot_any ad bd an bn ac bc ag bg _ (by omega) (H1.out.grown gr) (H2.out.grown gr)).mono ?_
      rintro e W3 ⟨he, hW⟩
      rw [HV.out] at he
      subst he
      replace hW := grown_trans (show Grown W2 _ from gr) hW
      replace H1 := Lib.hid (H1.out.grown hW)
      replace H2 := Lib.hid (H2.out.grown hW)
      replace R1 := Lib.hid (R1.out.grown hW)
      replace R2 := Lib.hid (R2.out.grown hW)
      replace HG := Lib.hid (grown_trans HG.out hW)
      clear hW
      go_wp2_with fail
      refine (kdot_any xd yd k k xc yc G H _ (by omega) (R1.out.grown gr) (R2.out.grown gr)).mono ?_
      rintro e W4 ⟨he, hW⟩
      rw [if_pos rfl, if_pos rfl, HP.out] at he
      subst he
      replace hW := grown_trans (show Grown W3 _ from gr) hW
      replace R1 := Lib.hid (R1.out.grown hW)
      replace R2 := Lib.hid (R2.out.grown hW)
      replace HG := Lib.hid (grown_trans HG.out hW)
      clear hW
      go_wp2_with fail
      refine (rdot_any xd yd k k xc yc G H _ (by omega) (R1.out.grown gr) (R2.out.grown gr)).mono ?_
      rintro e W5 ⟨he, hW⟩
      rw [if_pos rfl, if_pos rfl, HP.out] at he
      subst he
      replace hW := grown_trans (show Grown W4 _ from gr) hW
      replace R1 := Lib.hid (R1.out.grown hW)
      replace R2 := Lib.hid (R2.out.grown hW)
      replace HG := Lib.hid (grown_trans HG.out hW)
      clear hW
      go_wp2
      go_ret
      exact ⟨by simp, HG.out⟩

theorem kdots_end (W : World) (ad bd : Option Addr) (an ac bn bc : Nat) (mild : Bool) (h : 60 < an ∨ (an ≤ 60 ∧ 60 < bn)) :
    Calls Try.prog 4 #[.slice ad an ac, .slice bd bn bc, .bool mild] W fun e w' => e = .returned (.bool true) ∧ Grown W w' := by
  rcases h with h | ⟨h, h'⟩
  all_goals
    go_enter Try.func4, Try.ntmps4
    go_wp2_with fail
    refine (known14_any _).mono ?_
    rintro e W1 ⟨rfl, hW1⟩
    have HG := Lib.hid hW1
    clear hW1
    go_wp2
    go_ret
    exact ⟨rfl, HG.out⟩

/-- The walk of KernDots. -/
theorem kdots_walk (W : World) (l : Value) (Ll : ListIn l W) (r : Value) (Lr : ListIn r W) (mild : Bool) :
    Calls Try.prog 4 #[l, r, .bool mild] W fun e w' => e = .returned (.bool true) ∧ Grown W w' := by
  obtain ⟨ld, ln, lc, lg, rfl, -, -, -, l4⟩ := Ll
  obtain ⟨rd, rn, rc, rg, rfl, -, -, -, r4⟩ := Lr
  by_cases h1 : ln ≤ 60
  · by_cases h2 : rn ≤ 60
    · by_cases h3 : ln ≤ rn
      · exact kdots_go W ld rd ln lc rn rc ln lg rg mild h1 h2 l4 r4 (.inl ⟨h3, rfl⟩)
      · exact kdots_go W ld rd ln lc rn rc rn lg rg mild h1 h2 l4 r4 (.inr ⟨by omega, rfl⟩)
    · exact kdots_end W ld rd ln lc rn rc mild (.inr ⟨h1, by omega⟩)
  · exact kdots_end W ld rd ln lc rn rc mild (.inl (by omega))
end Go.Proofs.Ytmipefapjehkaaa
