/- Numbers in other formats, their places in the line (no program here). -/
import Derived.Test.YtfdfbgmnfiiipaaRNum
import Derived.Test.YtfdfbgmnfiiipaaRMono
import Derived.Test.YtfdfbgmnfiiipaaRModes
import Derived.Test.YtfdfbgmnfiiipaaOrdLaw
namespace Go.Proofs.Ytfdfbgmnfiiipaa
open Go.RowKit
set_option linter.unusedVariables false
set_option linter.unusedSimpArgs false

/-- A number in another format, and what is told beside it. -/
def conV (f g mode a : Int) : Int := if nanB f a = true then nanI g else if infB f a = true then infI g (fS f a) else rdV g mode (fS f a) (numN f a)

def conO (f g mode a : Int) : Bool := !nanB f a && !infB f a && rdO g mode (fS f a) (numN f a)

def conU (f g a : Int) : Bool := !nanB f a && !infB f a && rdU g (numN f a)

def conX (f g mode a : Int) : Bool := !nanB f a && !infB f a && rdX g mode (fS f a) (numN f a)

def conE (f g mode a : Int) : Ending := .returned (.tuple #[.int .u32 (conV f g mode a), .agg #[.bool (sigB f a), .bool false, .bool (conO f g mode a), .bool (conU f g a), .bool (conX f g mode a)]])

theorem val_num (f x : Int) : valN (clampE (unE f x)) (unM f x) false = numN f x := by
  obtain ⟨u0, u1⟩ := unE_bd f x
  unfold valN numN clampE
  rw [if_neg (by omega), if_neg (by omega)]
  simp

theorem con_nan (f g mode a : Int) (h : nanB f a = true) : conE f g mode a = .returned (.tuple #[.int .u32 (nanI g), .agg #[.bool (sigB f a), .bool false, .bool false, .bool false, .bool false]]) := by
  unfold conE conV conO conU conX; simp [h]

theorem not_sig (f a : Int) (h : nanB f a = false) : sigB f a = false := by
  rcases cls_three f a with ⟨_, b, _⟩ | ⟨_, b, _⟩ | ⟨_, _, _, d⟩
  · rw [h] at b; exact absurd b (by decide)
  · rw [h] at b; exact absurd b (by decide)
  · exact d

theorem con_inf (f g mode a : Int) (h : nanB f a = false) (i : infB f a = true) : conE f g mode a = .returned (.tuple #[.int .u32 (infI g (fS f a)), .agg #[.bool false, .bool false, .bool false, .bool false, .bool false]]) := by
  unfold conE conV conO conU conX; simp [h, i, not_sig f a h]

theorem con_fin (f g mode a : Int) (h : nanB f a = false) (i : infB f a = false) : conE f g mode a = PackE g mode (fS f a) (valN (clampE (unE f a)) (unM f a) false) := by
  rw [val_num, ← packE_is]
  unfold conE conV conO conU conX; simp [h, i, not_sig f a h]

theorem nan_word (f : Int) : 0 ≤ nanI f ∧ nanI f ≤ msk f := by
  rcases fmt_cases f with ⟨rfl, hf⟩ | ⟨rfl, hf⟩ | ⟨⟨c0, c1⟩, hf⟩ <;> obtain ⟨e1, e2, e3, e4, e5, e6, e7, e8, e9⟩ := hf
  all_goals
    unfold nanI infI zerI
    rw [e3, e4, e7, e8]
    simp only [Bool.false_eq_true, if_false]
    decide

theorem msk_top (f : Int) : msk f ≤ 4294967295 := by unfold msk; (repeat' split) <;> decide

theorem con_bd (f g mode a : Int) : 0 ≤ conV f g mode a ∧ conV f g mode a ≤ msk g := by
  have h1 := nan_word g
  have h2 := sgb_low g (fS f a)
  have h3 := rdV_bd g mode (fS f a) (numN f a)
  unfold conV
  (repeat' split) <;> omega

/-- Finite, infinite, none. -/
theorem three_kinds (f a : Int) : (nanB f a = true ∧ infB f a = false ∧ finI f a = false) ∨ (nanB f a = false ∧ infB f a = true ∧ finI f a = false ∧ fX f a = topx f ∧ fF f a = 0) ∨ (nanB f a = false ∧ infB f a = false ∧ finI f a = true ∧ fX f a < topx f) := by
  have c := cls_cases f a
  have ht := topx_pos f
  unfold nanB infB finI
  rcases c with ⟨c, x, y⟩ | ⟨c, x, y⟩ | ⟨c, x, y⟩ | ⟨c, x, y⟩ | ⟨c, x, y⟩ | ⟨c, x, y⟩ <;> rw [c]
  · exact .inr (.inr ⟨rfl, rfl, decide_eq_true (by omega), by omega⟩)
  · exact .inr (.inr ⟨rfl, rfl, decide_eq_true (by omega), by omega⟩)
  · exact .inr (.inr ⟨rfl, rfl, decide_eq_true (by omega), by omega⟩)
  · exact .inr (.inl ⟨rfl, rfl, decide_eq_false (by omega), x, y⟩)
  · exact .inl ⟨rfl, rfl, decide_eq_false (by omega)⟩
  · exact .inl ⟨rfl, rfl, decide_eq_false (by omega)⟩

/-- What another format has as its own number is it, with nothing told. -/
theorem con_exact (f g mode x z : Int) (hx : finI f x = true) (z0 : 0 ≤ z) (z1 : z ≤ msk g) (hz : finI g z = true) (hs : fS g z = fS f x) (hn : numN g z = numN f x) :
    conV f g mode x = z ∧ conO f g mode x = false ∧ conU f g x = false ∧ conX f g mode x = false := by
  have hp := num_pack g mode z z0 z1 hz
  rw [← packE_is, hs, hn] at hp
  injection hp with hp
  simp only [Value.tuple.injEq, Value.agg.injEq, Array.mk.injEq, List.cons.injEq, Value.int.injEq, Value.bool.injEq, and_true, true_and] at hp
  obtain ⟨p1, p2, p3, p4⟩ := hp
  rcases three_kinds f x with ⟨a, b, c⟩ | ⟨a, b, c, _⟩ | ⟨a, b, c, _⟩
  · rw [hx] at c; exact absurd c (by decide)
  · rw [hx] at c; exact absurd c (by decide)
  · unfold conV conO conU conX
    simp [a, b, p1, p2, p3, p4]

/-- There is a number of q units, if q has no more bits than a number. -/
theorem nume_exists (f : Int) (n : Bool) (q : Nat) (e : Int) (hq : 0 < q) (hq2 : q < 2 ^ (fn f + 1)) (he : lst f + fn f ≤ e) (he2 : e ≤ lst f + topx f - 2) :
    ∃ z : Int, 0 ≤ z ∧ z ≤ msk f ∧ finI f z = true ∧ fS f z = n ∧ numN f z = q * 2 ^ (e + 10100).toNat := by
  have hl : q.log2 ≤ fn f := by
    have := (Nat.log2_lt (by omega)).2 hq2; omega
  obtain ⟨s, hs⟩ : ∃ s, fn f = q.log2 + s := ⟨fn f - q.log2, by omega⟩
  have a1 : 2 ^ fn f ≤ q * 2 ^ s := by
    have := Nat.mul_le_mul_right (2 ^ s) (Nat.log2_self_le (n := q) (by omega))
    rw [← Nat.pow_add, ← hs] at this; exact this
  have a2 : q * 2 ^ s < 2 * 2 ^ fn f := by
    have := Nat.mul_lt_mul_of_pos_right (Nat.lt_log2_self (n := q)) (p2 s)
    rw [← Nat.pow_add, show q.log2 + 1 + s = fn f + 1 by omega, Nat.pow_succ] at this; omega
  have hh := hid_fn f
  have hlst := lst_bd f
  have hfn := fn_bd f
  obtain ⟨Z, hZ⟩ : ∃ Z : Int, Z = e - lst f + 1 - s := ⟨_, rfl⟩
  have b := parts_make f n Z ((q * 2 ^ s : Nat) - hid f) _ (by omega) (by omega) (by omega) (by omega) rfl
  obtain ⟨p1, p2, p3, p4, p5, p6, p7⟩ := b
  obtain ⟨r1, r2, r3, r4, r5⟩ := norm_parts f _ Z _ p1 p2 (by omega) (by omega)
  refine ⟨_, p4, p5, p7, p3, ?_⟩
  unfold numN
  rw [r4, r5]
  rw [show (((q * 2 ^ s : Nat) : Int) - hid f + hid f).toNat = q * 2 ^ s by omega, Nat.mul_assoc, ← Nat.pow_add]
  rw [show s + (lst f + Z - 1 + 10100).toNat = (e + 10100).toNat by omega]

/-- Each finite number is one of Singles. -/
theorem wide_exists (f x : Int) (h0 : 0 ≤ x) (h1 : x ≤ msk f) (hf : finI f x = true) :
    ∃ z, 0 ≤ z ∧ z ≤ msk 2 ∧ finI 2 z = true ∧ fS 2 z = fS f x ∧ numN 2 z = numN f x := by
  have hp := parts_sum f x h0 h1
  have hX := fX_bd f x
  have hF := fF_bd f x
  have hlt := fin_lt f x hf
  by_cases f0 : f = 0
  · subst f0
    obtain ⟨m0, m1⟩ := unM_bd 0 x
    have hh : hid 0 = 1024 := by decide
    have hl : lst 0 = -24 := by decide
    have ht : topx 0 = 31 := by decide
    have hn2 : fn 2 = 23 := by decide
    have hl2 : lst 2 = -149 := by decide
    have ht2 : topx 2 = 255 := by decide
    rw [ht] at hlt
    have hM : unM 0 x < 2048 ∧ -24 ≤ unE 0 x ∧ unE 0 x ≤ 10 := by
      unfold unM unE; rw [ht, hl, hh]
      rw [hh] at hF
      (repeat' split) <;> omega
    by_cases hz : unM 0 x = 0
    · obtain ⟨z1, z2, z3, z4, z5⟩ := zer_parts 2 (fS 0 x)
      refine ⟨zerI 2 (fS 0 x), z4, z5, ?_, z3, ?_⟩
      · unfold finI; rw [z1, ht2]; decide
      · have : unM 2 (zerI 2 (fS 0 x)) = 0 := by unfold unM; rw [z1, z2, ht2]; decide
        unfold numN; rw [this, hz]; simp
    · obtain ⟨q, hq⟩ : ∃ q : Nat, unM 0 x = q := ⟨(unM 0 x).toNat, by omega⟩
      obtain ⟨z, a, b, c, d, e⟩ := nume_exists 2 (fS 0 x) q (unE 0 x) (by omega) (by rw [hn2]; omega) (by rw [hn2, hl2]; omega) (by rw [hl2, ht2]; omega)
      exact ⟨z, a, b, c, d, by rw [e]; unfold numN; rw [hq]; rfl⟩
  · by_cases f1 : f = 1
    · subst f1
      have hh : hid 1 = 128 := by decide
      have hh2 : hid 2 = 8388608 := by decide
      have ht : topx 1 = 255 := by decide
      have ht2 : topx 2 = 255 := by decide
      have hl : lst 1 = -133 := by decide
      have hl2 : lst 2 = -149 := by decide
      rw [hh] at hF
      rw [ht] at hlt
      obtain ⟨p1, p2, p3, p4, p5, p6, p7⟩ := parts_make 2 (fS 1 x) (fX 1 x) (fF 1 x * 65536) _ hX.1 (by omega) (by omega) (by omega) rfl
      refine ⟨_, p4, p5, p7, p3, ?_⟩
      obtain ⟨u0, u1⟩ := unE_bd 1 x
      obtain ⟨m0, m1⟩ := unM_bd 1 x
      generalize zerI 2 (fS 1 x) + fX 1 x * hid 2 + fF 1 x * 65536 = z at p1 p2
      have hM : unM 2 z = unM 1 x * 65536 := by
        unfold unM; rw [p1, p2, ht, ht2, hh, hh2]; (repeat' split) <;> omega
      have hE : unE 2 z = unE 1 x - 16 := by
        unfold unE; rw [p1, ht, ht2, hl, hl2]; (repeat' split) <;> omega
      unfold numN
      rw [hM, hE, show (unM 1 x * 65536).toNat = (unM 1 x).toNat * 2 ^ 16 by omega, Nat.mul_assoc, ← Nat.pow_add, show 16 + (unE 1 x - 16 + 10100).toNat = (unE 1 x + 10100).toNat by omega]
    · have e1 : hid f = hid 2 := by unfold hid; simp [f0, f1]
      have e2 : topx f = topx 2 := by unfold topx; simp [f0]
      have e3 : sgb f = sgb 2 := by unfold sgb; simp [f0, f1]
      have e4 : lst f = lst 2 := by unfold lst; simp [f0, f1]
      have e5 : msk f = msk 2 := by unfold msk; simp [f0, f1]
      have g1 : fX f x = fX 2 x := by unfold fX; rw [e1, e2]
      have g2 : fF f x = fF 2 x := by unfold fF; rw [e1]
      refine ⟨x, h0, by omega, ?_, ?_, ?_⟩
      · unfold finI at *; rw [← g1, ← e2]; exact hf
      · unfold fS; rw [e3]
      · unfold numN unM unE; rw [g1, g2, e1, e2, e4]

/-- What a Single is that a number is widened to. -/
theorem wide_is (f m x : Int) (h0 : 0 ≤ x) (h1 : x ≤ msk f) (hf : finI f x = true) :
    ∃ z, conV f 2 m x = z ∧ 0 ≤ z ∧ z ≤ msk 2 ∧ finI 2 z = true ∧ fS 2 z = fS f x ∧ numN 2 z = numN f x := by
  obtain ⟨z, a, b, c, d, e⟩ := wide_exists f x h0 h1 hf
  exact ⟨z, (con_exact f 2 m x z hf a b c d e).1, a, b, c, d, e⟩

theorem nan_none (f : Int) : infB f (nanI f) = false := by
  have h := nan_nan f
  rcases three_kinds f (nanI f) with ⟨a, b, c⟩ | ⟨a, b, c, _⟩ | ⟨a, b, c, _⟩
  · exact b
  · rw [h] at a; exact absurd a (by decide)
  · exact b

theorem inf_is (f : Int) (s : Bool) : nanB f (infI f s) = false ∧ infB f (infI f s) = true ∧ nouB f (infI f s) = false := by
  obtain ⟨a, b, _⟩ := sgb_low f s
  have ht := topx_pos f
  have c : clsI f (infI f s) = 3 := by unfold clsI; rw [a, b, if_neg (by omega), if_neg (by omega), if_pos rfl]
  unfold nanB infB nouB
  rw [c]; exact ⟨rfl, rfl, rfl⟩

/-- What is widened is narrowed to itself. -/
theorem wide_back (f m m' x : Int) (h0 : 0 ≤ x) (h1 : x ≤ msk f) : conV 2 f m (conV f 2 m' x) = if nanB f x = true then nanI f else x := by
  rcases three_kinds f x with ⟨a, b, c⟩ | ⟨a, b, c, _⟩ | ⟨a, b, c, _⟩
  · rw [show conV f 2 m' x = nanI 2 by unfold conV; simp [a], a]
    unfold conV; simp [nan_nan]
  · have hx : conV f 2 m' x = infI 2 (fS f x) := by unfold conV; simp [a, b]
    obtain ⟨i1, i2, i3⟩ := inf_is 2 (fS f x)
    rw [hx, a]
    have hs := (sgb_low 2 (fS f x)).2.2.1
    have hm := mask_inf f x h0 (by have := msk_top f; omega) b
    rw [low_is f x h0 h1] at hm
    unfold conV; simp [i1, i2, hs, ← hm]
  · obtain ⟨z, hz, z0, z1, z2, z3, z4⟩ := wide_is f m' x h0 h1 c
    rw [hz, a, (con_exact 2 f m z x z2 h0 h1 c z3.symm z4.symm).1]
    simp

/-- A number's place without its sign. -/
def aN (f x : Int) : Int := fX f x * hid f + fF f x

theorem base_self (f x : Int) (h : finI f x = true) : (baseN f (numN f x) : Int) = aN f x ∧ catN f (numN f x) = 0 := by
  obtain ⟨a, b⟩ := num_parts f x h
  have p := plc_base f 0 false (numN f x)
  rw [b, grow_zero] at p
  exact ⟨by unfold aN; rw [← a, p]; rfl, b⟩

theorem base_plc (f : Int) (V : Nat) : plcN f 1 false V = baseN f V := by unfold plcN growB baseN; simp

theorem away_plc (f : Int) (V : Nat) : plcN f 2 false V = baseN f V + (catN f V != 0).toNat := by unfold plcN growB baseN; simp

/-- Of one place, of one amount that is kept. -/
theorem base_same (f : Int) (V W : Nat) (h : baseN f V = baseN f W) : dN f V = dN f W ∧ keptN f V = keptN f W := by
  obtain ⟨v1, v2⟩ := kept_bd f V
  obtain ⟨w1, w2⟩ := kept_bd f W
  unfold baseN at h
  have hd : dN f V = dN f W := by
    rcases Nat.lt_trichotomy (dN f V) (dN f W) with c | c | c
    · exfalso
      have := w2 (by omega)
      have h1 : (dN f V + 1) * 2 ^ fn f ≤ dN f W * 2 ^ fn f := Nat.mul_le_mul_right _ (by omega)
      rw [Nat.add_mul] at h1
      rw [Nat.pow_succ] at v1
      omega
    · exact c
    · exfalso
      have := v2 (by omega)
      have h1 : (dN f W + 1) * 2 ^ fn f ≤ dN f V * 2 ^ fn f := Nat.mul_le_mul_right _ (by omega)
      rw [Nat.add_mul] at h1
      rw [Nat.pow_succ] at w1
      omega
  rw [hd] at h
  exact ⟨hd, by omega⟩

theorem kept_amt (f : Int) (V : Nat) : keptN f V * 2 ^ (luN f + dN f V) ≤ V ∧ (catN f V = 0 → keptN f V * 2 ^ (luN f + dN f V) = V) := by
  have a := Nat.div_add_mod V (2 ^ (luN f + dN f V))
  have e : keptN f V * 2 ^ (luN f + dN f V) = 2 ^ (luN f + dN f V) * (V / 2 ^ (luN f + dN f V)) := by unfold keptN; rw [Nat.mul_comm]
  rw [e]
  refine ⟨by omega, fun h => ?_⟩
  have : V % 2 ^ (luN f + dN f V) = 0 := by
    unfold catN catU at h
    split at h
    · assumption
    · split at h
      · omega
      · split at h <;> omega
  omega

/-- A number of V's place is what is kept of V. -/
theorem num_of_base (f z : Int) (V : Nat) (hz : finI f z = true) (h : aN f z = baseN f V) : numN f z ≤ V ∧ (catN f V = 0 → numN f z = V) := by
  obtain ⟨a, b⟩ := base_self f z hz
  obtain ⟨c, d⟩ := base_same f (numN f z) V (by omega)
  obtain ⟨k1, k2⟩ := kept_amt f V
  obtain ⟨l1, l2⟩ := kept_amt f (numN f z)
  have := l2 b
  rw [c, d] at this
  exact ⟨by omega, fun h => by have := k2 h; omega⟩

/-- On which side a number stands of V. -/
theorem num_le (f z : Int) (V : Nat) (hz : finI f z = true) : numN f z ≤ V ↔ aN f z ≤ baseN f V := by
  obtain ⟨a, b⟩ := base_self f z hz
  constructor
  · intro h
    have := plc_mono f 1 false h
    rw [base_plc, base_plc] at this
    omega
  · intro h
    rcases Nat.lt_or_ge V (numN f z) with c | c
    · exfalso
      have := plc_mono f 1 false (Nat.le_of_lt c)
      rw [base_plc, base_plc] at this
      have := (num_of_base f z V hz (by omega)).1
      omega
    · exact c

theorem num_ge (f z : Int) (V : Nat) (hz : finI f z = true) : V ≤ numN f z ↔ (baseN f V : Int) + (catN f V != 0).toNat ≤ aN f z := by
  obtain ⟨a, b⟩ := base_self f z hz
  constructor
  · intro h
    have := plc_mono f 2 false h
    rw [away_plc, away_plc, b] at this
    simp at this
    omega
  · intro h
    rcases Nat.lt_or_ge (numN f z) V with c | c
    · exfalso
      have hl := (num_le f z V hz).1 (Nat.le_of_lt c)
      have hc : catN f V = 0 := by
        rcases Nat.eq_zero_or_pos (catN f V) with e | e
        · exact e
        · exfalso
          rw [bne_iff_ne.2 (by omega : catN f V ≠ 0)] at h
          simp at h
          omega
      have := (num_of_base f z V hz (by rw [hc] at h; simp at h; omega)).2 hc
      omega
    · exact c

/-- Numbers stand as what they stand for. -/
theorem num_line (f x y : Int) (hx : finI f x = true) (hy : finI f y = true) : numN f x ≤ numN f y ↔ aN f x ≤ aN f y := by
  rw [num_le f x _ hx, (base_self f y hy).1]

theorem a_bd (f x : Int) : 0 ≤ aN f x ∧ (fX f x < topx f → aN f x < topx f * hid f) := by
  have hX := fX_bd f x
  have hF := fF_bd f x
  have hH := hid_pos f
  have m0 : 0 ≤ fX f x * hid f := Int.mul_nonneg hX.1 (Int.le_of_lt hH)
  unfold aN
  refine ⟨by omega, fun h => ?_⟩
  have m1 : (fX f x + 1) * hid f ≤ topx f * hid f := Int.mul_le_mul_of_nonneg_right (by omega) (Int.le_of_lt hH)
  rw [Int.add_mul] at m1
  omega

theorem a_inf (f : Int) (s : Bool) : aN f (infI f s) = topx f * hid f := by
  obtain ⟨a, b, _⟩ := sgb_low f s
  unfold aN; rw [a, b]; omega

theorem key_a (f x : Int) : keyI f x = if fS f x then -1 - aN f x else aN f x := key_parts f x

theorem nou_a (f x : Int) : nouB f x = true ↔ aN f x = 0 := by
  have c := cls_cases f x
  have hX := fX_bd f x
  have hF := fF_bd f x
  have hH := hid_pos f
  have ht := topx_pos f
  have m0 : 0 ≤ fX f x * hid f := Int.mul_nonneg hX.1 (Int.le_of_lt hH)
  have m1 : 0 < fX f x → 0 < fX f x * hid f := fun h => Int.mul_pos h hH
  unfold nouB aN
  rw [beq_iff_eq]
  constructor
  · intro h
    rw [show fX f x = 0 by omega]; omega
  · intro h
    rcases Int.lt_or_eq_of_le hX.1 with e | e
    · have := m1 e; omega
    · omega

/-- What is told of a widened number. -/
theorem wide_kinds (f m x : Int) (h0 : 0 ≤ x) (h1 : x ≤ msk f) :
    nanB 2 (conV f 2 m x) = nanB f x ∧ (nanB f x = false → fS 2 (conV f 2 m x) = fS f x ∧ infB 2 (conV f 2 m x) = infB f x) := by
  rcases three_kinds f x with ⟨a, b, c⟩ | ⟨a, b, c, _⟩ | ⟨a, b, c, _⟩
  · rw [show conV f 2 m x = nanI 2 by unfold conV; simp [a], a, nan_nan]
    exact ⟨rfl, fun h => absurd h (by decide)⟩
  · rw [show conV f 2 m x = infI 2 (fS f x) by unfold conV; simp [a, b], a, b]
    obtain ⟨i1, i2, i3⟩ := inf_is 2 (fS f x)
    exact ⟨i1, fun _ => ⟨(sgb_low 2 (fS f x)).2.2.1, i2⟩⟩
  · obtain ⟨z, hz, z0, z1, z2, z3, z4⟩ := wide_is f m x h0 h1 c
    rw [hz, a, b]
    rcases three_kinds 2 z with ⟨a', b', c'⟩ | ⟨a', b', c', _⟩ | ⟨a', b', c', _⟩
    · rw [z2] at c'; exact absurd c' (by decide)
    · rw [z2] at c'; exact absurd c' (by decide)
    · exact ⟨a', fun _ => ⟨z3, b'⟩⟩

theorem a_infx (f x : Int) (h : fX f x = topx f) (g : fF f x = 0) : aN f x = topx f * hid f := by unfold aN; rw [h, g]; omega

/-- Widened, two stand as they stood. -/
theorem wide_le (f m x y : Int) (x0 : 0 ≤ x) (x1 : x ≤ msk f) (y0 : 0 ≤ y) (y1 : y ≤ msk f) (hx : nanB f x = false) (hy : nanB f y = false) :
    aN f x ≤ aN f y ↔ aN 2 (conV f 2 m x) ≤ aN 2 (conV f 2 m y) := by
  rcases three_kinds f x with ⟨a, b, c⟩ | ⟨a, b, c, cx, cf⟩ | ⟨a, b, c, cx⟩
  · rw [hx] at a; exact absurd a (by decide)
  · have ex : conV f 2 m x = infI 2 (fS f x) := by unfold conV; simp [a, b]
    have ax := a_infx f x cx cf
    have wx := a_inf 2 (fS f x)
    rcases three_kinds f y with ⟨a', b', c'⟩ | ⟨a', b', c', dx, df⟩ | ⟨a', b', c', dx⟩
    · rw [hy] at a'; exact absurd a' (by decide)
    · have ey : conV f 2 m y = infI 2 (fS f y) := by unfold conV; simp [a', b']
      rw [ex, ey, ax, a_infx f y dx df, wx, a_inf 2 (fS f y)]
      simp
    · obtain ⟨z, hz, z0, z1, z2, z3, z4⟩ := wide_is f m y y0 y1 c'
      rw [ex, hz, ax, wx]
      have h1 := (a_bd f y).2 dx
      have h2 := (a_bd 2 z).2 (fin_lt 2 z z2)
      constructor <;> intro h <;> omega
  · obtain ⟨v, hv, v0, v1, v2, v3, v4⟩ := wide_is f m x x0 x1 c
    rcases three_kinds f y with ⟨a', b', c'⟩ | ⟨a', b', c', dx, df⟩ | ⟨a', b', c', dx⟩
    · rw [hy] at a'; exact absurd a' (by decide)
    · have ey : conV f 2 m y = infI 2 (fS f y) := by unfold conV; simp [a', b']
      rw [ey, hv, a_infx f y dx df, a_inf 2 (fS f y)]
      have h1 := (a_bd f x).2 cx
      have h2 := (a_bd 2 v).2 (fin_lt 2 v v2)
      constructor <;> intro h <;> omega
    · obtain ⟨z, hz, z0, z1, z2, z3, z4⟩ := wide_is f m y y0 y1 c'
      rw [hz, hv, ← num_line f x y c c', ← num_line 2 v z v2 z2, v4, z4]

theorem wide_key (f m x y : Int) (x0 : 0 ≤ x) (x1 : x ≤ msk f) (y0 : 0 ≤ y) (y1 : y ≤ msk f) (hx : nanB f x = false) (hy : nanB f y = false) :
    keyI f x < keyI f y ↔ keyI 2 (conV f 2 m x) < keyI 2 (conV f 2 m y) := by
  have h1 := wide_le f m x y x0 x1 y0 y1 hx hy
  have h2 := wide_le f m y x y0 y1 x0 x1 hy hx
  have s1 := ((wide_kinds f m x x0 x1).2 hx).1
  have s2 := ((wide_kinds f m y y0 y1).2 hy).1
  have b1 := (a_bd f x).1
  have b2 := (a_bd f y).1
  have b3 := (a_bd 2 (conV f 2 m x)).1
  have b4 := (a_bd 2 (conV f 2 m y)).1
  rw [key_a, key_a, key_a, key_a, s1, s2]
  cases fS f x <;> cases fS f y <;> simp <;> omega

theorem wide_nou (f m x : Int) (h0 : 0 ≤ x) (h1 : x ≤ msk f) (hx : nanB f x = false) : nouB 2 (conV f 2 m x) = nouB f x := by
  rw [Bool.eq_iff_iff, nou_a, nou_a]
  obtain ⟨z1, z2, z3, z4, z5⟩ := zer_parts f (fS f x)
  have hm : zerI f (fS f x) ≤ msk f := by unfold zerI sgb msk; cases fS f x <;> (repeat' split) <;> simp_all
  have zn : aN f (zerI f (fS f x)) = 0 := by unfold aN; rw [z1, z2]; omega
  have zf : finI f (zerI f (fS f x)) = true := by have := topx_pos f; unfold finI; rw [z1]; exact decide_eq_true (by omega)
  have zm : unM f (zerI f (fS f x)) = 0 := by have := topx_pos f; unfold unM; rw [z1, z2, if_neg (by omega), if_pos rfl]
  have zN : numN f (zerI f (fS f x)) = 0 := by unfold numN; rw [zm]; simp
  have hz : nanB f (zerI f (fS f x)) = false := by
    rcases three_kinds f (zerI f (fS f x)) with ⟨a, b, c⟩ | ⟨a, b, c, _⟩ | ⟨a, b, c, _⟩
    · rw [zf] at c; exact absurd c (by decide)
    · exact a
    · exact a
  obtain ⟨v, hv, v0, v1, v2, v3, v4⟩ := wide_is f m (zerI f (fS f x)) z4 hm zf
  have hvz : aN 2 v = 0 := by
    have h := (num_line 2 v (zerI 2 false) v2 (by decide)).1 (by rw [v4, zN]; omega)
    have hb := (a_bd 2 v).1
    rw [show aN 2 (zerI 2 false) = 0 by decide] at h
    omega
  have k := wide_le f m x (zerI f (fS f x)) h0 h1 z4 hm hx hz
  rw [hv, hvz, zn] at k
  have b1 := (a_bd f x).1
  have b2 := (a_bd 2 (conV f 2 m x)).1
  omega

/-- Widened, two are in the order that they were in. -/
theorem wide_cmp (f m x y : Int) (x0 : 0 ≤ x) (x1 : x ≤ msk f) (y0 : 0 ≤ y) (y1 : y ≤ msk f) :
    cmpC f x y = cmpC 2 (conV f 2 m x) (conV f 2 m y) ∧ cmpO f x y = cmpO 2 (conV f 2 m x) (conV f 2 m y) := by
  have n1 := (wide_kinds f m x x0 x1).1
  have n2 := (wide_kinds f m y y0 y1).1
  unfold cmpC cmpO
  rw [n1, n2]
  refine ⟨?_, rfl⟩
  cases hx : nanB f x
  · cases hy : nanB f y
    · rw [wide_nou f m x x0 x1 hx, wide_nou f m y y0 y1 hy]
      have k1 := wide_key f m x y x0 x1 y0 y1 hx hy
      have k2 := wide_key f m y x y0 y1 x0 x1 hy hx
      simp only [k1, k2]
    · simp
  · simp
end Go.Proofs.Ytfdfbgmnfiiipaa
