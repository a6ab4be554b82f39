/- What holds of the memory of calls of one tensor. The contract of annealref13's Bias. The contract of annealref13's Each. The contract of annealref13's Each. The contract of annealref13's By. The contract of annealref13's Sums. The contracts of annealref13's at, Turn. (Written by gen46.py.) -/
import Derived.Test.YtmipefapjehkaaaRProd
import Derived.Test.YtmipefapjehkaaaWorld
namespace Go.Proofs.Ytmipefapjehkaaa
open Go.RowKit
set_option linter.unusedVariables false
set_option linter.unusedSimpArgs false

/-- What holds of the memory of a call of one tensor: its block, its result's, its own tensor's, its row with k numbers reckoned. -/
structure P1 (w : World) (B nb ob M : Nat) (a0 a1 a2 a3 m n fv : Value) (G : Nat → Int) (k : Nat) (W : World) : Prop where
  g : Grown w W
  t1 : TenAt B a0 a1 a2 a3 W
  t3 : TenAt (B + 1) (.int .i64 0) (.int .i64 0) (.int .i64 0) (.slice none 0 0) W
  t4 : TenAt ob m n fv (.slice (some ⟨nb, 0, none⟩) M M) W
  f : Filled nb M G k W
  o : B + 1 < nb
  o2 : B + 1 < ob
  ne : nb ≠ ob
  s : w.heap.size ≤ B

section
variable {w : World} {B nb ob M : Nat} {a0 a1 a2 a3 m n fv : Value} {G : Nat → Int} {k : Nat} {W : World}

theorem P1.grown {W' : World} (h : P1 w B nb ob M a0 a1 a2 a3 m n fv G k W) (g : Grown W W') : P1 w B nb ob M a0 a1 a2 a3 m n fv G k W' :=
  ⟨grown_trans h.g g, h.t1.grown g, h.t3.grown g, h.t4.grown g, h.f.grown g, h.o, h.o2, h.ne, h.s⟩

theorem P1.set (h : P1 w B nb ob M a0 a1 a2 a3 m n fv G k W) (hk : k < M) : P1 w B nb ob M a0 a1 a2 a3 m n fv G (k + 1) (W.setCell ⟨nb, k, none⟩ (.int .u32 (G k))) :=
  ⟨Grown.setCell h.g (by have := h.o; have := h.s; show w.heap.size ≤ nb; omega) _, h.t1.set (by have := h.o; show B ≠ nb; omega) _, h.t3.set (by have := h.o; show B + 1 ≠ nb; omega) _,
    h.t4.set (by have := h.ne; show ob ≠ nb; omega) _, h.f.set hk, h.o, h.o2, h.ne, h.s⟩

theorem P1.upd {G' : Nat → Int} (h : P1 w B nb ob M a0 a1 a2 a3 m n fv G M W) {j : Nat} (hj : j < M) {v : Int} (e1 : G' j = v) (e2 : ∀ t, t ≠ j → G' t = G t) : P1 w B nb ob M a0 a1 a2 a3 m n fv G' M (W.setCell ⟨nb, j, none⟩ (.int .u32 v)) :=
  ⟨Grown.setCell h.g (by have := h.o; have := h.s; show w.heap.size ≤ nb; omega) _, h.t1.set (by have := h.o; show B ≠ nb; omega) _, h.t3.set (by have := h.o; show B + 1 ≠ nb; omega) _,
    h.t4.set (by have := h.ne; show ob ≠ nb; omega) _, h.f.upd hj e1 e2, h.o, h.o2, h.ne, h.s⟩
end

/-- A column's sum behind I numbers. -/
def colS (F : Int) (g : Nat → Int) (C : Nat) : Nat → Nat → Int
  | 0 => fun _ => 0
  | I + 1 => fun t => if t = I % C then addV (colS F g C I t) (widV F g I) else colS F g C I t

theorem colS_bd (F : Int) (g : Nat → Int) (C I t : Nat) : 0 ≤ colS F g C I t ∧ colS F g C I t ≤ 4294967295 := by
  induction I with
  | zero => exact ⟨Int.le_refl _, by show (0 : Int) ≤ 4294967295; decide⟩
  | succ I ih =>
    unfold colS
    split
    · exact addV_bd _ _
    · exact ih

def browT (a b : PT) : PT :=
  if a.right && b.right && (b.R == 1 && b.C == a.C) then ⟨a.R, a.C, 2, a.n, fun t => addV (widV a.F a.g t) (widV b.F b.g (t % a.C.toNat))⟩ else PT.bad

def browX (a b : PT) : Int := if a.right && b.right && (b.R == 1 && b.C == a.C) then 0 else 21

def each0T (a b : PT) : PT :=
  if a.right && b.right && (a.R == b.R && a.C == b.C) then ⟨a.R, a.C, 2, a.n, fun t => addV (widV a.F a.g t) (widV b.F b.g t)⟩ else PT.bad

def each0X (a b : PT) : Int := if a.right && b.right && (a.R == b.R && a.C == b.C) then 0 else 21

def each1T (a b : PT) : PT :=
  if a.right && b.right && (a.R == b.R && a.C == b.C) then ⟨a.R, a.C, 2, a.n, fun t => mulV (widV a.F a.g t) (widV b.F b.g t)⟩ else PT.bad

def each1X (a b : PT) : Int := if a.right && b.right && (a.R == b.R && a.C == b.C) then 0 else 21

def byT (a : PT) (v : Int) : PT :=
  if a.right then ⟨a.R, a.C, 2, a.n, fun t => mulV (widV a.F a.g t) v⟩ else PT.bad

def byX (a : PT) (v : Int) : Int := if a.right then 0 else 21

def sumsT (a : PT) : PT :=
  if a.right then ⟨1, a.C, 2, a.C.toNat, fun t => colS a.F a.g a.C.toNat a.n t⟩ else PT.bad

def sumsX (a : PT) : Int := if a.right then 0 else 21

/-- Where the number behind t of a turned tensor stood. -/
def turP (R C t : Nat) : Nat := t % R * C + t / R

/-- A turned tensor behind I of its numbers. -/
def turS (R C : Nat) (g : Nat → Int) (I t : Nat) : Int := if t < R * C ∧ turP R C t < I then g (turP R C t) else 0

theorem turP_lt (R C t : Nat) (h : t < R * C) : turP R C t < R * C := by
  have hR : 0 < R := by rcases Nat.eq_zero_or_pos R with e | e; · subst e; simp at h
                        · exact e
  have h1 := Nat.mod_lt t hR
  have h2 : t / R < C := (Nat.div_lt_iff_lt_mul hR).2 (by rw [Nat.mul_comm]; exact h)
  unfold turP
  have h3 : (t % R + 1) * C ≤ R * C := Nat.mul_le_mul_right _ h1
  rw [Nat.add_mul, Nat.one_mul] at h3
  omega

/-- .. and each stood at a place of its own. -/
theorem turP_one (R C r c t : Nat) (hr : r < R) (hc : c < C) (ht : t < R * C) : turP R C t = r * C + c ↔ t = c * R + r := by
  have hR : 0 < R := by omega
  have h1 := Nat.mod_lt t hR
  have h2 : t / R < C := (Nat.div_lt_iff_lt_mul hR).2 (by rw [Nat.mul_comm]; exact ht)
  unfold turP
  constructor
  · intro e
    have e1 : t % R = r := by
      have a : (t % R * C + t / R) / C = (r * C + c) / C := by rw [e]
      have hC : 0 < C := by omega
      rw [Nat.mul_comm, Nat.mul_add_div hC, Nat.div_eq_of_lt h2, Nat.mul_comm, Nat.mul_add_div hC, Nat.div_eq_of_lt hc] at a
      omega
    rw [e1] at e
    have e2 : t / R = c := by omega
    have := Nat.div_add_mod t R
    rw [e1, e2, Nat.mul_comm] at this
    omega
  · rintro rfl
    rw [Nat.mul_comm c R, Nat.mul_add_mod, Nat.mod_eq_of_lt hr, Nat.mul_add_div hR, Nat.div_eq_of_lt hr]
    omega

theorem turS_bd (R C : Nat) (g : Nat → Int) (n I t : Nat) (hn : R * C ≤ n) (h : ∀ i, i < n → 0 ≤ g i ∧ g i ≤ 4294967295) : 0 ≤ turS R C g I t ∧ turS R C g I t ≤ 4294967295 := by
  unfold turS
  split
  · next c => exact h _ (by have := turP_lt R C t c.1; omega)
  · omega

theorem turS_zero (R C : Nat) (g : Nat → Int) (t : Nat) : turS R C g 0 t = 0 := by unfold turS; rw [if_neg (by omega)]

theorem turS_all (R C : Nat) (g : Nat → Int) (t : Nat) (h : t < R * C) : turS R C g (R * C) t = g (turP R C t) := by unfold turS; rw [if_pos ⟨h, turP_lt R C t h⟩]

theorem turS_next (R C : Nat) (g : Nat → Int) (r c : Nat) (hr : r < R) (hc : c < C) : c * R + r < R * C ∧ turS R C g (r * C + c + 1) (c * R + r) = g (r * C + c) ∧ ∀ t, t ≠ c * R + r → turS R C g (r * C + c + 1) t = turS R C g (r * C + c) t := by
  have hj : c * R + r < R * C := by
    have : (c + 1) * R ≤ C * R := Nat.mul_le_mul_right _ hc
    rw [Nat.add_mul, Nat.one_mul, Nat.mul_comm C R] at this
    omega
  have hp := (turP_one R C r c _ hr hc hj).2 rfl
  refine ⟨hj, ?_, fun t ht => ?_⟩
  · unfold turS; rw [hp, if_pos ⟨hj, by omega⟩]
  · unfold turS
    by_cases a : t < R * C
    · have hne : turP R C t ≠ r * C + c := fun e => ht ((turP_one R C r c t hr hc a).1 e)
      by_cases b : turP R C t < r * C + c
      · rw [if_pos ⟨a, by omega⟩, if_pos ⟨a, b⟩]
      · rw [if_neg (by omega), if_neg (by omega)]
    · rw [if_neg (by omega), if_neg (by omega)]

theorem Filled.whole0 {b M : Nat} {G : Nat → Int} {W : World} (h : Filled b M G 0 W) (R C : Nat) (g : Nat → Int) : Filled b M (turS R C g 0) M W :=
  ⟨h.lies, fun t ht => by rw [h.cell t ht, if_neg (Nat.not_lt_zero t), if_pos ht, turS_zero], h.free⟩

/-- .. whose slice is sound. -/
def TenS (t : PT) (E : Int) (w : World) (e : Ending) (w' : World) : Prop :=
  ∃ (ad : Option Addr) (c : Nat), e = .returned (.tuple #[.agg #[.int .i64 t.R, .int .i64 t.C, .int .i64 t.F, .slice ad t.n c], .int .i64 E]) ∧ Reads ad t.n t.g w' ∧ t.n ≤ 9223372036854775807 ∧ Fresh ad w ∧ Grown w w' ∧ Sound ad t.n c

theorem at_nums (i j k cN n : Nat) (hk : i * cN + j = k) (hi : k < n) (hn : n ≤ 16777216) : ∃ q : Nat, (i : Int) * (cN : Int) = (q : Int) ∧ IntKind.i64.wrap ((i : Int) * (cN : Int)) = (q : Int) ∧ IntKind.i64.wrap ((q : Int) + (j : Int)) = (k : Int)
    ∧ wrap64 (q : Int) = (q : Int) ∧ (q : Int) + (j : Int) = (k : Int) ∧ wrap64 (k : Int) = (k : Int) := by
  obtain ⟨q, hq⟩ : ∃ q : Nat, i * cN = q := ⟨_, rfl⟩
  rw [hq] at hk
  have hq1 : (i : Int) * (cN : Int) = (q : Int) := by rw [← hq, Int.natCast_mul]
  refine ⟨q, hq1, by rw [hq1, IntKind.wrap_i64]; omega, by rw [IntKind.wrap_i64]; omega, by rw [wrap64_is, IntKind.wrap_i64]; omega, by omega, by rw [wrap64_is, IntKind.wrap_i64]; omega⟩

set_option maxHeartbeats 1000000 in
theorem rat_any (R C F : Int) (ad : Option Addr) (n c i j k : Nat) (cN : Nat) (g : Nat → Int) (w : World) (hn : n ≤ 16777216) (hC : C = (cN : Int)) (hk : i * cN + j = k) (hi : k < n) (h : Reads ad n g w) :
    Calls Try.prog 37 #[.agg #[.int .i64 R, .int .i64 C, .int .i64 F, .slice ad n c], .int .i64 i, .int .i64 j] w fun e w' => e = .returned (.int .u32 (g k)) ∧ Grown w w' := by
  obtain ⟨hb, h⟩ := h
  obtain ⟨b, off, rfl, hl, hc⟩ : ∃ b off, ad = some ⟨b, off, none⟩ ∧ b < w.heap.size ∧ ∀ i, i < n → w.cell? ⟨b, off + i, none⟩ = some (.int .u32 (g i)) := by
    rcases h with h | h
    · omega
    · exact h
  subst hC
  have y := hc k hi
  obtain ⟨x, hx⟩ : ∃ x, g k = x := ⟨_, rfl⟩
  rw [hx] at y ⊢
  obtain ⟨q, hq1, hw1, hw2, hw3, hqj, hw4⟩ := at_nums i j k cN n hk hi hn
  have yA := grown_cell (Grown.alloc (Grown.refl w) #[.int .i64 R, .int .i64 (cN : Int), .int .i64 F, .slice (some ⟨b, off, none⟩) n c] 24) y hl
  clear hc h hb hx y
  go_enter Try.func37, Try.ntmps37
  go_wp2
  go_ret
  exact ⟨rfl, by repeat (first | with_reducible exact Grown.refl _ | with_reducible refine Grown.alloc ?_ _ _ | with_reducible refine grown_more ?_ _ | with_reducible refine Grown.drew ?_)⟩

set_option maxHeartbeats 1000000 in
theorem rturn_bad1 (aR aC aF : Int) (ad : Option Addr) (an ca : Nat) (g : Nat → Int) (w : World) (hn : an ≤ 9223372036854775807) (h1 : Reads ad an g w) (hr : rightB aR aC aF an g = false) :
    Calls Try.prog 21 #[.agg #[.int .i64 aR, .int .i64 aC, .int .i64 aF, .slice ad an ca]] w (TenS PT.bad 21 w) := by
  have H1 := Lib.hid h1
  have K1 := Lib.hid (show Ending.returned (.bool (rightB aR aC aF an g)) = .returned (.bool false) by rw [hr])
  clear h1 hr
  have HT1 := Lib.hid ((ten_new w (.int .i64 aR) (.int .i64 aC) (.int .i64 aF) (.slice ad an ca) 24).grown (Grown.alloc (Grown.refl _) #[.int .i64 0, .int .i64 0, .int .i64 0, .slice none 0 0] 24))
  have HT3 := Lib.hid (ten_new (w.alloc (.cells #[.int .i64 aR, .int .i64 aC, .int .i64 aF, .slice ad an ca] 24)) (.int .i64 0) (.int .i64 0) (.int .i64 0) (.slice none 0 0) 24)
  have HG := Lib.hid (Grown.alloc (Grown.alloc (Grown.refl w) #[.int .i64 aR, .int .i64 aC, .int .i64 aF, .slice ad an ca] 24) #[.int .i64 0, .int .i64 0, .int .i64 0, .slice none 0 0] 24)
  go_enter Try.func21, Try.ntmps21
  go_wp2_with fail
  simp only [World.size_alloc] at HT3
  generalize (w.alloc _).alloc _ = W0 at HT1 HT3 HG ⊢
  refine (rright_any _ _ _ _ _ _ _ _ (by assumption) (H1.out.grown HG.out)).mono ?_
  rintro e W2 ⟨he, hW⟩
  rw [K1.out] at he
  subst he
  replace HT1 := Lib.hid (HT1.out.grown hW)
  replace HT3 := Lib.hid (HT3.out.grown hW)
  replace HG := Lib.hid (grown_trans HG.out hW)
  clear hW
  obtain ⟨p0, p1, p2, p3, p4, _, _, _, _⟩ := HT1.out
  obtain ⟨r0, r1, r2, r3, r4, r5, r6, r7, r8⟩ := HT3.out
  go_wp2
  (try simp only [Exit.inBlock, Exit.then])
  refine bodyPost_ret (v := .tuple #[.agg #[.int .i64 0, .int .i64 0, .int .i64 0, .slice none 0 0], .int .i64 21]) ?_ rfl ⟨none, 0, rfl, Reads.nil _ _ _, by decide, fresh_none _, gr, sound_nil⟩
  rw [results_cell_tmp rfl]
  go_simp

set_option maxRecDepth 100000 in
set_option maxHeartbeats 4000000 in
theorem rturn_good (aF : Int) (aR aC : Nat) (ad : Option Addr) (an ca : Nat) (g : Nat → Int) (w : World) (hn2 : an ≤ 16777216) (h1 : Reads ad an g w)
    (ha1 : aR ≤ 4096) (ha2 : aC ≤ 4096) (han : an = aR * aC) (hr : rightB aR aC aF an g = true) :
    Calls Try.prog 21 #[.agg #[.int .i64 aR, .int .i64 aC, .int .i64 aF, .slice ad an ca]] w (TenS ⟨aC, aR, aF, an, fun t => turS aR aC g an t⟩ 0 w) := by
  have H1 := Lib.hid h1
  have K1 := Lib.hid (show Ending.returned (.bool (rightB aR aC aF an g)) = .returned (.bool true) by rw [hr])
  have hn : an ≤ 9223372036854775807 := by omega
  have HAN := Lib.hid han
  clear h1 hr han
  obtain ⟨G, hG⟩ : ∃ G : Nat → Int, G = fun t => turS aR aC g an t := ⟨_, rfl⟩
  rw [← hG]
  have HGB := Lib.hid (show ∀ t, 0 ≤ G t ∧ G t ≤ 4294967295 from fun t => by rw [hG]; exact turS_bd _ _ g an an t (by rw [← HAN.out]; exact Nat.le_refl _) H1.out.1)
  have HGG := Lib.hid hG
  clear hG
  skip
  have HT1 := Lib.hid ((ten_new w (.int .i64 (aR : Int)) (.int .i64 (aC : Int)) (.int .i64 aF) (.slice ad an ca) 24).grown (Grown.alloc (Grown.refl _) #[.int .i64 0, .int .i64 0, .int .i64 0, .slice none 0 0] 24))
  have HT3 := Lib.hid (ten_new (w.alloc (.cells #[.int .i64 (aR : Int), .int .i64 (aC : Int), .int .i64 aF, .slice ad an ca] 24)) (.int .i64 0) (.int .i64 0) (.int .i64 0) (.slice none 0 0) 24)
  have HG := Lib.hid (Grown.alloc (Grown.alloc (Grown.refl w) #[.int .i64 (aR : Int), .int .i64 (aC : Int), .int .i64 aF, .slice ad an ca] 24) #[.int .i64 0, .int .i64 0, .int .i64 0, .slice none 0 0] 24)
  go_enter Try.func21, Try.ntmps21
  go_wp2_with fail
  simp only [World.size_alloc] at HT3
  generalize (w.alloc _).alloc _ = W0 at HT1 HT3 HG ⊢
  refine (rright_any _ _ _ _ _ _ _ _ (by assumption) (H1.out.grown HG.out)).mono ?_
  rintro e W2 ⟨he, hW⟩
  rw [K1.out] at he
  subst he
  replace HT1 := Lib.hid (HT1.out.grown hW)
  replace HT3 := Lib.hid (HT3.out.grown hW)
  replace HG := Lib.hid (grown_trans HG.out hW)
  clear hW
  obtain ⟨p0, p1, p2, p3, p4, _, _, _, _⟩ := HT1.out
  obtain ⟨r0, r1, r2, r3, r4, r5, r6, r7, r8⟩ := HT3.out
  have hmk := run_make_row' (P := Try.prog) 22 37 (.int .u32 0) 4 Try.underlying22 (by kernel_rfl) rfl .i64 .i64 an (by omega) (by omega)
  have HA := Lib.hid (show P1 w w.heap.size W2.heap.size (W2.heap.size + 1) an (.int .i64 aR) (.int .i64 aC) (.int .i64 aF) (.slice ad an ca) (.int .i64 aC) (.int .i64 aR) (.int .i64 aF) (turS aR aC g 0) an (((W2.alloc (.cells (madeCells #[.int .u32 0] an) 37)).alloc (.cells #[.int .i64 aC, .int .i64 aR, .int .i64 aF, .slice (some ⟨W2.heap.size, 0, none⟩) an an] 24)).drew) from
    ⟨gr, HT1.out.grown gr, HT3.out.grown gr, by simpa only [World.size_alloc] using (ten_new (W2.alloc (.cells (madeCells #[.int .u32 0] an) 37)) (.int .i64 aC) (.int .i64 aR) (.int .i64 aF) (.slice (some ⟨W2.heap.size, 0, none⟩) an an) 24).grown (Grown.drew (Grown.refl _)), ((Filled.new W2 an (fun _ => 0) 37).whole0 aR aC g).grown (Grown.drew (Grown.alloc (Grown.refl _) _ _)), r0, Nat.lt_succ_of_lt r0, by omega, Nat.le_refl _⟩)
  have HB := Lib.hid (show P1 w w.heap.size (W2.heap.size + 1) W2.heap.size an (.int .i64 aR) (.int .i64 aC) (.int .i64 aF) (.slice ad an ca) (.int .i64 aC) (.int .i64 aR) (.int .i64 aF) (turS aR aC g 0) an (((W2.alloc (.cells #[.int .i64 aC, .int .i64 aR, .int .i64 aF, .slice (some ⟨W2.heap.size + 1, 0, none⟩) an an] 24)).alloc (.cells (madeCells #[.int .u32 0] an) 37)).drew) from
    ⟨gr, HT1.out.grown gr, HT3.out.grown gr, (ten_new W2 (.int .i64 aC) (.int .i64 aR) (.int .i64 aF) (.slice (some ⟨W2.heap.size + 1, 0, none⟩) an an) 24).grown (Grown.drew (Grown.alloc (Grown.refl _) _ _)), by have := ((Filled.new (W2.alloc (.cells #[.int .i64 aC, .int .i64 aR, .int .i64 aF, .slice (some ⟨W2.heap.size + 1, 0, none⟩) an an] 24)) an (fun _ => 0) 37).whole0 aR aC g).grown (Grown.drew (Grown.refl _)); simp only [World.size_alloc] at this; exact this, Nat.lt_succ_of_lt r0, r0, by omega, Nat.le_refl _⟩)
  go_wp2_with fail
  apply by_key
  · intro key
    go_region_held3 (fun w' => w'.cell? ⟨w.heap.size, 0, none⟩ = some (.int .i64 aR) ∧ w'.cell? ⟨w.heap.size, 1, none⟩ = some (.int .i64 aC) ∧ w'.cell? ⟨w.heap.size, 2, none⟩ = some (.int .i64 aF) ∧ w'.cell? ⟨w.heap.size, 3, none⟩ = some (.slice ad an ca)) (go_keep) (fail)
    all_goals
      generalize hW3 : ((W2.alloc _).alloc _).drew = W3
      first
        | (have HP := hW3 ▸ HA.out
           generalize W2.heap.size + 1 = ob at HP ⊢
           generalize W2.heap.size = nb at HP ⊢)
        | (have HP := hW3 ▸ HB.out
           generalize W2.heap.size + 1 = nb at HP ⊢
           generalize W2.heap.size = ob at HP ⊢)
      replace HP := Lib.hid HP
      clear hW3
      revert HP
      revert W3
      revert nb
      revert ob
      exact key
  · intro ob nb W3 HP
    clear hmk p0 p1 p2 p3 p4 r0 r1 r2 r3 r4 r5 r6 r7 r8 HA HB HT1 HT3 HG
    go_wp2_with fail
    go_loopw [5] (fun i wr => ProdOut (fun I => P1 w w.heap.size nb ob an (.int .i64 aR) (.int .i64 aC) (.int .i64 aF) (.slice ad an ca) (.int .i64 aC) (.int .i64 aR) (.int .i64 aF) (turS aR aC g I) an) aR aC i wr) (fun i _ => aR - (intOf i).toNat)
    case atStart => exact ⟨0, Nat.zero_le _, rfl, by rw [Nat.zero_mul]; exact HP.out⟩
    case round =>
      rename World => wr
      clear HP
      obtain ⟨I, hI, rfl, hP⟩ := hrel
      have HP := Lib.hid hP
      clear hP
      by_cases hI2 : I < aR
      · obtain ⟨p0, p1, p2, p3, p4, _, _, _, _⟩ := HP.out.t1
        go_wp2
        clear p0 p1 p2 p3 p4
        go_loopw [6] (fun j wr => ProdIn (fun Z => P1 w w.heap.size nb ob an (.int .i64 aR) (.int .i64 aC) (.int .i64 aF) (.slice ad an ca) (.int .i64 aC) (.int .i64 aR) (.int .i64 aF) (turS aR aC g Z) an) aC (I * aC) j wr) (fun j _ => aC - (intOf j).toNat)
        case atStart => exact ⟨0, Nat.zero_le _, rfl, HP.out⟩
        case round =>
          rename World => wr2
          clear HP
          obtain ⟨J, hJ, rfl, hP⟩ := hrel
          have HP := Lib.hid hP
          clear hP
          obtain ⟨p0, p1, p2, p3, p4, _, _, _, _⟩ := HP.out.t1
          obtain ⟨o0, o1, o2, o3, o4, _, _, _, _⟩ := HP.out.t4
          by_cases hJ2 : J < aC
          · obtain ⟨hj1, he1, he2⟩ := turS_next aR aC g I J hI2 hJ2
            have HE1 := Lib.hid he1
            have HE2 := Lib.hid he2
            obtain ⟨j, hje⟩ : ∃ j, J * aR + I = j := ⟨_, rfl⟩
            obtain ⟨k, hke⟩ : ∃ k, I * aC + J = k := ⟨_, rfl⟩
            have hj : j < an := by rw [HAN.out, ← hje]; exact hj1
            have hk : k < an := by
              have : (I + 1) * aC ≤ aR * aC := Nat.mul_le_mul_right _ hI2
              rw [Nat.add_mul, Nat.one_mul] at this
              rw [HAN.out, ← hke]; omega
            obtain ⟨q, m1, m2, m3, m4, m5, m6⟩ := at_nums J I j aR an hje hj hn2
            obtain ⟨x, hx⟩ : ∃ x, g k = x := ⟨_, rfl⟩
            have HX := Lib.hid hx
            have HJE := Lib.hid hje
            have HKE := Lib.hid hke
            have hxb := H1.out.1 k hk
            rw [hx] at hxb
            obtain ⟨x0, x1⟩ := hxb
            have HG := Lib.hid HP.out.g
            have y := HP.out.f.cell j hj
            rw [if_pos hj] at y
            obtain ⟨old, hold⟩ : ∃ old, turS aR aC g (I * aC + J) j = old := ⟨_, rfl⟩
            rw [hold] at y
            have HO := Lib.hid hold
            have n1 : ¬ nb = w.heap.size := by have := HP.out.o; omega
            have n2 : ¬ nb = w.heap.size + 1 := by have := HP.out.o; omega
            have n3 : ¬ nb = ob := HP.out.ne
            clear he1 he2 hx hje hke hold hj1
            go_wp2_with fail
            have Y0 : ∀ d : Later wr2, d.w.cell? ⟨w.heap.size, 0, none⟩ = some (.int .i64 aR) := fun d => grown_cell d.g p1 p0
            have Y1 : ∀ d : Later wr2, d.w.cell? ⟨w.heap.size, 1, none⟩ = some (.int .i64 aC) := fun d => grown_cell d.g p2 p0
            have Y2 : ∀ d : Later wr2, d.w.cell? ⟨w.heap.size, 2, none⟩ = some (.int .i64 aF) := fun d => grown_cell d.g p3 p0
            have Y3 : ∀ d : Later wr2, d.w.cell? ⟨w.heap.size, 3, none⟩ = some (.slice ad an ca) := fun d => grown_cell d.g p4 p0
            have Y4 : ∀ d : Later wr2, d.w.cell? ⟨ob, 3, none⟩ = some (.slice (some ⟨nb, 0, none⟩) an an) := fun d => grown_cell d.g o4 o0
            refine region_later_tail wr2 12 (by kernel_rfl) (by kernel_rfl) (by first | exact Grown.refl _ | exact gr) ?_
            simp only [List.take_succ_cons, List.take_zero, List.drop_succ_cons, List.drop_zero]
            repeat (go_big_quiet_step ((go_at_call 37; exact later_call (rat_any aR aC aF ad an ca I J k aC g _ hn2 rfl HKE.out hk (H1.out.grown (grown_trans HG.out (Later.g _)))) (fun e w' q => ⟨q.1.trans (by rw [HX.out]), q.2⟩))))
            refine wpQuiet_nil ?_
            rintro ⟨W6, hW⟩
            change wpList _ _ _ _ _ W6
            clear Y0 Y1 Y2 Y3 Y4
            replace HP := Lib.hid (HP.out.grown hW)
            clear hW p0 p1 p2 p3 p4 o0 o1 o2 o3 o4 y
            obtain ⟨p0, p1, p2, p3, p4, _, _, _, _⟩ := HP.out.t1
            obtain ⟨o0, o1, o2, o3, o4, _, _, _, _⟩ := HP.out.t4
            have y := (HP.out.f.cell j hj).trans (by rw [if_pos hj, HO.out])
            have z := HP.out.f.free j
            go_wp2
            go_roundw
            case rel => exact ⟨J + 1, by omega, by go_num, by
              rw [← Nat.add_assoc]
              exact (HP.out.upd hj (by rw [← HJE.out, HE1.out, HKE.out, HX.out]) (fun t ht => HE2.out t (by rw [HJE.out]; exact ht))).grown gr⟩
            case measure => simp [intOf]; omega
          · obtain rfl : J = aC := by omega
            go_wp2
            go_roundw
            case rel => exact ⟨I + 1, by omega, by go_num, by rw [Nat.add_mul, Nat.one_mul]; exact HP.out⟩
            case measure => simp [intOf]; omega
      · obtain rfl : I = aR := by omega
        obtain ⟨p0, p1, p2, p3, p4, _, _, _, _⟩ := HP.out.t4
        obtain ⟨q0, q1, q2, q3, q4, q5, q6, q7, q8⟩ := HP.out.t3
        obtain ⟨r0, r1, r2, r3, r4, _, _, _, _⟩ := HP.out.t1
        have hF := HP.out.f
        rw [← HAN.out] at hF
        have HF := Lib.hid hF
        clear hF
        have ho : w.heap.size + 1 < nb := HP.out.o
        have ho2 : w.heap.size + 1 < ob := HP.out.o2
        have HG := Lib.hid HP.out.g
        go_wp2
        (try simp only [Exit.inBlock, Exit.then])
        refine bodyPost_ret (v := .tuple #[.agg #[.int .i64 aC, .int .i64 I, .int .i64 aF, .slice (some ⟨nb, 0, none⟩) an an], .int .i64 0]) ?_ rfl ⟨_, _, rfl, ?_, (show an ≤ 9223372036854775807 by omega), fun x hx => by cases hx; show w.heap.size ≤ nb; omega, ?_, sound_some _ _⟩
        · rw [results_cell_tmp rfl]
          go_simp
        · have hne : nb ≠ w.heap.size + 1 := by omega
          exact ((((((HGG.out ▸ HF.out : Filled nb an G an wr)).other (a := ⟨w.heap.size + 1, 0, none⟩) hne _).other (a := ⟨w.heap.size + 1, 1, none⟩) hne _).other (a := ⟨w.heap.size + 1, 2, none⟩) hne _).other (a := ⟨w.heap.size + 1, 3, none⟩) hne _).reads fun t _ => HGB.out t
        · exact gr

def rturT (t : PT) : PT := if t.right then ⟨t.C, t.R, t.F, t.n, fun i => t.g (turP t.R.toNat t.C.toNat i)⟩ else PT.bad

def rturX (t : PT) : Int := if t.right then 0 else 21

/-- Turn: rows are columns. -/
theorem rturn_any (aR aC aF : Int) (ad : Option Addr) (an ca : Nat) (g : Nat → Int) (w : World) (hn : an ≤ 9223372036854775807) (h1 : Reads ad an g w) :
    Calls Try.prog 21 #[.agg #[.int .i64 aR, .int .i64 aC, .int .i64 aF, .slice ad an ca]] w (TenS (rturT ⟨aR, aC, aF, an, g⟩) (rturX ⟨aR, aC, aF, an, g⟩) w) := by
  unfold rturT rturX PT.right
  dsimp only
  cases hr : rightB aR aC aF an g
  · exact rturn_bad1 aR aC aF ad an ca g w hn h1 hr
  · obtain ⟨r, c, e1, e2, l1, l2, e3⟩ := right_nat (t := ⟨aR, aC, aF, an, g⟩) hr
    simp only at e1 e2 e3
    subst e1 e2
    obtain ⟨_, m1⟩ := wrap_mul r c an l1 l2 e3.symm
    refine (rturn_good aF r c ad an ca g w m1 h1 l1 l2 e3 hr).mono ?_
    rintro e w' ⟨xd, xc, he, hR, hn', hf, hW, hs⟩
    exact ⟨xd, xc, he, hR.congr (fun i hi => by show g (turP r c i) = turS r c g an i; rw [e3, turS_all r c g i (by rw [← e3]; exact hi)]), hn', hf, hW, hs⟩
end Go.Proofs.Ytmipefapjehkaaa
