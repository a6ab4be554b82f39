/- Differences of two near one another (no program here). -/
import Derived.Test.YtheaeclojljecaaAddMath
import Derived.Test.YtheaeclojljecaaMild
import Derived.Test.YtheaeclojljecaaSub
import Derived.Test.YtheaeclojljecaaNought
namespace Go.Proofs.Ytheaeclojljecaa
open Go.RowKit
set_option linter.unusedVariables false

/-- A sum of numbers that are finite. -/
theorem add_fin (f mode a b : Int) (ha : nanB f a = false) (hb : nanB f b = false) (ia : infB f a = false) (ib : infB f b = false) :
    addE f mode a b = finE f mode (fS f a) (amtE (unE f a) (unM f a)) (fS f b) (amtE (unE f b) (unM f b)) := by
  unfold addE
  rw [ha, hb, ia, ib, if_neg (by decide), if_neg (by simp), if_neg (by decide), if_neg (by decide)]

/-- There is a number of q units, if q has no more bits than a number. -/
theorem num_exists (f : Int) (n : Bool) (q : Nat) (e : Int) (hq : 0 < q) (hq2 : q < 2 ^ (fn f + 1)) (he : lst f + fn f ≤ e) (he2 : e ≤ lst f + topx f - 2) :
    ∃ z : Int, 0 ≤ z ∧ z ≤ msk f ∧ z ≤ 4294967295 ∧ finI f z = true ∧ fS f z = n ∧ nanB f z = false ∧ infB f z = false ∧ amtE (unE f z) (unM f z) = q * 2 ^ (e + 298).toNat := by
  have hl : q.log2 ≤ fn f := by
    have := (Nat.log2_lt (by omega)).2 hq2; omega
  obtain ⟨s, hs⟩ : ∃ s, fn f = q.log2 + s := ⟨fn f - q.log2, by omega⟩
  have a1 : 2 ^ fn f ≤ q * 2 ^ s := by
    have := Nat.mul_le_mul_right (2 ^ s) (Nat.log2_self_le (n := q) (by omega))
    rw [← Nat.pow_add, ← hs] at this; exact this
  have a2 : q * 2 ^ s < 2 * 2 ^ fn f := by
    have := Nat.mul_lt_mul_of_pos_right (Nat.lt_log2_self (n := q)) (np2 s)
    rw [← Nat.pow_add, show q.log2 + 1 + s = fn f + 1 by omega, Nat.pow_succ] at this; omega
  have hh := hid_fn f
  have hlst := lst_bd f
  have hfn := fn_bd f
  obtain ⟨Z, hZ⟩ : ∃ Z : Int, Z = e - lst f + 1 - s := ⟨_, rfl⟩
  have b := parts_make f n Z ((q * 2 ^ s : Nat) - hid f) _ (by omega) (by omega) (by omega) (by omega) rfl
  obtain ⟨p1, p2, p3, p4, p5, p6, p7⟩ := b
  obtain ⟨r1, r2, r3, r4, r5⟩ := norm_parts f _ Z _ p1 p2 (by omega) (by omega)
  refine ⟨_, p4, p5, p6, p7, p3, r1, r2, ?_⟩
  rw [r4, r5]
  unfold amtE
  rw [show (((q * 2 ^ s : Nat) : Int) - hid f + hid f).toNat = q * 2 ^ s by omega, Nat.mul_assoc, ← Nat.pow_add]
  rw [show s + (lst f + Z - 1 + 298).toNat = (e + 298).toNat by omega]

/-- What a number with its amount is rounded to. -/
theorem pack_num (f mode z : Int) (n : Bool) (V : Nat) (h0 : 0 ≤ z) (h1 : z ≤ msk f) (hf : finI f z = true) (hs : fS f z = n) (ha : amtE (unE f z) (unM f z) = V) : PackE f mode n (upN V) = excE z false := by
  subst ha hs
  rw [up_num]
  exact num_pack f mode z h0 h1 hf

/-- The difference of two near one another is exact; with the second one it is the first. -/
theorem sterb_core (f x y : Int) (V W : Nat) (x0 : 0 ≤ x) (x1 : x ≤ msk f) (y0 : 0 ≤ y) (y1 : y ≤ 4294967295) (hx : finI f x = true) (sx : fS f x = false) (sy : fS f y = false) (nx : nanB f x = false) (ix : infB f x = false) (ny : nanB f y = false) (iy : infB f y = false)
    (hV : amtE (unE f x) (unM f x) = V) (hW : amtE (unE f y) (unM f y) = W) (v0 : V ≠ 0) (w0 : W ≠ 0)
    (hq : V ≠ W → ∃ (q : Nat) (e : Int), 0 < q ∧ q < 2 ^ (fn f + 1) ∧ lst f + fn f ≤ e ∧ e ≤ lst f + topx f - 2 ∧ (W < V → V - W = q * 2 ^ (e + 298).toNat) ∧ (V < W → W - V = q * 2 ^ (e + 298).toNat)) :
    ∃ z : Int, 0 ≤ z ∧ z ≤ 4294967295 ∧ subE f 0 x y = excE z false ∧ addE f 0 z y = excE x false := by
  obtain ⟨u1, u2, u3, u4, u5⟩ := xor_parts f y y0 y1
  have hc : clsI f (xorI f y) = clsI f y := by unfold clsI; rw [u1, u2]
  have hn : nanB f (xorI f y) = false := by unfold nanB at *; rw [hc]; exact ny
  have hi : infB f (xorI f y) = false := by unfold infB at *; rw [hc]; exact iy
  have hE : unE f (xorI f y) = unE f y := by unfold unE; rw [u1]
  have hM : unM f (xorI f y) = unM f y := by unfold unM; rw [u1, u2]
  have px := pack_num f 0 x false V x0 x1 hx sx hV
  have hsub : subE f 0 x y = finE f 0 false V true W := by
    unfold subE
    rw [add_fin f 0 x _ nx hn ix hi, hE, hM, u3, sx, sy, hV, hW]; rfl
  rcases Nat.lt_trichotomy V W with c | c | c
  · obtain ⟨q, e, q0, q1, e0, e1, _, d⟩ := hq (by omega)
    obtain ⟨z, z0, z1, z2, z3, z4, z5, z6, z7⟩ := num_exists f true q e q0 q1 e0 e1
    have hD : W - V = amtE (unE f z) (unM f z) := by rw [d c, z7]
    refine ⟨z, z0, z2, ?_, ?_⟩
    · rw [hsub, fin_less f 0 _ _ _ _ (by decide) c]
      exact pack_num f 0 z true _ z0 z1 z3 z4 hD.symm
    · rw [add_fin f 0 z y z5 ny z6 iy, z4, sy, hW, ← hD, fin_less f 0 _ _ _ _ (by decide) (by omega), show W - (W - V) = V by omega, px]
  · subst c
    obtain ⟨t1, t2, t3, t4, t5⟩ := zer_parts f false
    obtain ⟨m1, m2, m3, m4⟩ := nou_parts f _ t1 t2
    refine ⟨zerI f false, t4, t5, ?_, ?_⟩
    · rw [hsub, fin_even f 0 _ _ _ (by decide)]; rfl
    · rw [add_fin f 0 _ y m1 ny m3 iy, m4, t3, sy, hW, fin_like f 0 false 0 V (by omega), Nat.zero_add, px]
  · obtain ⟨q, e, q0, q1, e0, e1, d, _⟩ := hq (by omega)
    obtain ⟨z, z0, z1, z2, z3, z4, z5, z6, z7⟩ := num_exists f false q e q0 q1 e0 e1
    have hD : V - W = amtE (unE f z) (unM f z) := by rw [d c, z7]
    refine ⟨z, z0, z2, ?_, ?_⟩
    · rw [hsub, fin_more f 0 _ _ _ _ (by decide) c]
      exact pack_num f 0 z false _ z0 z1 z3 z4 hD.symm
    · rw [add_fin f 0 z y z5 ny z6 iy, z4, sy, hW, ← hD, fin_like f 0 false _ _ (by omega), show V - W + W = V by omega, px]

/-- Two within a factor of two: where their bits stand. -/
theorem near_cases (f X F Y G : Int) (f0 : 0 ≤ F) (f1 : F < hid f) (g0 : 0 ≤ G) (g1 : G < hid f) (h1 : Y * hid f + G - hid f ≤ X * hid f + F) (h2 : X * hid f + F ≤ Y * hid f + G + hid f) :
    X = Y ∨ (X = Y + 1 ∧ F ≤ G) ∨ (Y = X + 1 ∧ G ≤ F) := by
  rcases fmt_cases f with ⟨rfl, hf⟩ | ⟨rfl, hf⟩ | ⟨⟨c0, c1⟩, hf⟩ <;> obtain ⟨e1, e2, e3, e4, e5, e6, e7, e8, e9⟩ := hf
  all_goals
    rw [e3] at f1 g1 h1 h2
    omega

theorem lim_fmt (f : Int) : (fn f : Int) + 1 ≤ bia f - 2 ∧ bia f + 2 < topx f ∧ 3 < bia f := by
  rcases fmt_cases f with ⟨rfl, hf⟩ | ⟨rfl, hf⟩ | ⟨⟨c0, c1⟩, hf⟩ <;> obtain ⟨e1, e2, e3, e4, e5, e6, e7, e8, e9⟩ := hf
  all_goals
    rw [e2, e4, e9]
    omega

theorem sterb (f x y X F Y G : Int) (hx : x = X * hid f + F) (hy : y = Y * hid f + G) (f0 : 0 ≤ F) (f1 : F < hid f) (g0 : 0 ≤ G) (g1 : G < hid f) (X0 : bia f - 2 ≤ X) (X1 : X ≤ bia f + 1) (Y0 : bia f - 2 ≤ Y) (Y1 : Y ≤ bia f + 1) (h1 : y - hid f ≤ x) (h2 : x ≤ y + hid f) :
    ∃ z : Int, 0 ≤ z ∧ z ≤ 4294967295 ∧ subE f 0 x y = excE z false ∧ addE f 0 z y = excE x false := by
  obtain ⟨l1, l2, l3⟩ := lim_fmt f
  have hlst := lst_bd f
  have hh := hid_fn f
  have hp := np2 (fn f)
  obtain ⟨p1, p2, p3, p4, p5, p6, p7⟩ := parts_make f false X F x (by omega) (by omega) f0 f1 (by rw [show zerI f false = 0 from rfl]; omega)
  obtain ⟨q1, q2, q3, q4, q5, q6, q7⟩ := parts_make f false Y G y (by omega) (by omega) g0 g1 (by rw [show zerI f false = 0 from rfl]; omega)
  obtain ⟨r1, r2, _, r4, r5⟩ := norm_parts f x X F p1 p2 (by omega) (by omega)
  obtain ⟨s1, s2, _, s4, s5⟩ := norm_parts f y Y G q1 q2 (by omega) (by omega)
  have nc := near_cases f X F Y G f0 f1 g0 g1 (by omega) (by omega)
  obtain ⟨A, hA⟩ : ∃ A : Nat, F = A := ⟨F.toNat, by omega⟩
  obtain ⟨B, hB⟩ : ∃ B : Nat, G = B := ⟨G.toNat, by omega⟩
  have hfn : 2 ^ (fn f + 1) = 2 * 2 ^ fn f := by rw [Nat.pow_succ]; omega
  have mx : (unM f x).toNat = A + 2 ^ fn f := by rw [r5]; omega
  have my : (unM f y).toNat = B + 2 ^ fn f := by rw [s5]; omega
  have posx : amtE (unE f x) (unM f x) ≠ 0 := by rw [Ne, amt_zero _ _ (by omega)]; omega
  have posy : amtE (unE f y) (unM f y) ≠ 0 := by rw [Ne, amt_zero _ _ (by omega)]; omega
  refine sterb_core f x y _ _ p4 p5 q4 q6 p7 p3 q3 r1 r2 s1 s2 rfl rfl posx posy (fun hne => ?_)
  unfold amtE at hne ⊢
  rw [mx, my, r4, s4] at *
  rcases nc with c | ⟨c, d⟩ | ⟨c, d⟩
  · subst c
    have hk := np2 (lst f + X - 1 + 298).toNat
    rcases Nat.lt_trichotomy A B with g | g | g
    · refine ⟨B - A, lst f + X - 1, by omega, by omega, by omega, by omega, fun lt => ?_, fun _ => ?_⟩
      · have := Nat.lt_of_mul_lt_mul_right lt; omega
      · rw [← Nat.sub_mul]; congr 1; omega
    · subst g; exact absurd rfl hne
    · refine ⟨A - B, lst f + X - 1, by omega, by omega, by omega, by omega, fun _ => ?_, fun lt => ?_⟩
      · rw [← Nat.sub_mul]; congr 1; omega
      · have := Nat.lt_of_mul_lt_mul_right lt; omega
  · subst c
    have hk := np2 (lst f + Y - 1 + 298).toNat
    have e : (A + 2 ^ fn f) * 2 ^ (lst f + (Y + 1) - 1 + 298).toNat = (2 * (A + 2 ^ fn f)) * 2 ^ (lst f + Y - 1 + 298).toNat := by
      rw [show (lst f + (Y + 1) - 1 + 298).toNat = (lst f + Y - 1 + 298).toNat + 1 by omega, Nat.pow_succ, Nat.mul_comm (2 ^ _) 2, ← Nat.mul_assoc, Nat.mul_comm _ 2]
    rw [e]
    refine ⟨2 * (A + 2 ^ fn f) - (B + 2 ^ fn f), lst f + Y - 1, by omega, by omega, by omega, by omega, fun _ => by rw [← Nat.sub_mul], fun lt => ?_⟩
    have := Nat.lt_of_mul_lt_mul_right lt; omega
  · subst c
    have hk := np2 (lst f + X - 1 + 298).toNat
    have e : (B + 2 ^ fn f) * 2 ^ (lst f + (X + 1) - 1 + 298).toNat = (2 * (B + 2 ^ fn f)) * 2 ^ (lst f + X - 1 + 298).toNat := by
      rw [show (lst f + (X + 1) - 1 + 298).toNat = (lst f + X - 1 + 298).toNat + 1 by omega, Nat.pow_succ, Nat.mul_comm (2 ^ _) 2, ← Nat.mul_assoc, Nat.mul_comm _ 2]
    rw [e]
    refine ⟨2 * (B + 2 ^ fn f) - (A + 2 ^ fn f), lst f + X - 1, by omega, by omega, by omega, by omega, fun lt => ?_, fun _ => by rw [← Nat.sub_mul]⟩
    have := Nat.lt_of_mul_lt_mul_right lt; omega
end Go.Proofs.Ytheaeclojljecaa
