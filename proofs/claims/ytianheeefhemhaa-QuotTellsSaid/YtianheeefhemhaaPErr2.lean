/- A product's own error, of mild numbers (no program here). -/
import Derived.Test.YtianheeefhemhaaPErr
namespace Go.Proofs.Ytianheeefhemhaa
open Go.RowKit
set_option linter.unusedVariables false
set_option linter.unusedSimpArgs false

theorem rd_alike (f mode : Int) (s : Bool) (U W : Nat) (h : plcN f mode s U = plcN f mode s W) : rdV f mode s U = rdV f mode s W ∧ rdO f mode s U = rdO f mode s W := by
  refine ⟨?_, ?_⟩
  · unfold rdV magN; rw [h]
  · unfold rdO; rw [h]

theorem pack_read (f mode : Int) (s : Bool) (V : Nat) (z : Int) (h : PackE f mode s V = excE z false) : rdV f mode s V = z ∧ rdO f mode s V = false := by
  rw [← packE_is, ← excE_is] at h
  simp at h
  exact ⟨h.1, h.2.1⟩

/-- What K units are rounded to is a number, and what is left is one too. -/
theorem err_core (f : Int) (s : Bool) (K d : Nat) (E : Int) (hd : 1 ≤ d) (hd2 : d ≤ fn f + 1) (h0 : 2 ^ (fn f + d) ≤ K) (h1 : K < 2 ^ (fn f + d + 1)) (e0 : lst f + fn f ≤ E) (e1 : E + d + 1 ≤ lst f + topx f - 2) :
    ∃ (z : Int) (u i : Bool) (W : Nat), PackE f 0 s (upN (amtE E K)) = .returned (.tuple #[.int .u32 z, .agg #[.bool false, .bool false, .bool false, .bool u, .bool i]])
      ∧ 0 ≤ z ∧ z ≤ 4294967295 ∧ fS f z = s ∧ nanB f z = false ∧ sigB f z = false ∧ infB f z = false ∧ amtE (unE f z) (unM f z) = W ∧ i = decide (W ≠ amtE E K)
      ∧ (∀ m : Bool, ∃ r : Int, finE f 0 s (amtE E K) (!s) W = excE r false ∧ 0 ≤ r ∧ r ≤ 4294967295 ∧ (clsI f r == 0) = !i) := by
  have hlst := lst_bd f
  have hlu := lu_is f
  have hfn := fn_bd f
  obtain ⟨t, ht⟩ : ∃ t : Nat, (E + 298).toNat + 9802 = t := ⟨_, rfl⟩
  have hlt : luN f ≤ d + t := by omega
  have hup : ∀ X : Nat, upN (X * 2 ^ (E + 298).toNat) = X * 2 ^ t := by
    intro X
    have q : ∀ k l : Nat, (E + 298).toNat + k = l → X * 2 ^ (E + 298).toNat * 2 ^ k = X * 2 ^ l := fun k l h => by rw [← h, Nat.mul_assoc, ← Nat.pow_add]
    unfold upN
    exact q 9802 t ht
  have hU : upN (amtE E K) = K * 2 ^ t := by
    unfold amtE
    rw [Int.toNat_natCast]
    exact hup K
  clear ht
  obtain ⟨q, q0, q1, hp, hcw, hck, hlo, hhi⟩ := near_units f s K d t h0 h1 hlt hd
  have hz : ∃ z : Int, 0 ≤ z ∧ z ≤ msk f ∧ z ≤ 4294967295 ∧ finI f z = true ∧ fS f z = s ∧ nanB f z = false ∧ infB f z = false ∧ amtE (unE f z) (unM f z) = q * 2 ^ d * 2 ^ (E + 298).toNat := by
    rcases Nat.lt_or_ge q (2 ^ (fn f + 1)) with c | c
    · obtain ⟨z, z0, z1, z2, z3, z4, z5, z6, z7⟩ := num_exists f s q (E + d) (by have := np2 (fn f); omega) c (by omega) (by omega)
      refine ⟨z, z0, z1, z2, z3, z4, z5, z6, ?_⟩
      rw [z7, Nat.mul_assoc, ← Nat.pow_add, show (E + (d : Int) + 298).toNat = d + (E + 298).toNat by omega]
    · obtain ⟨z, z0, z1, z2, z3, z4, z5, z6, z7⟩ := num_exists f s (2 ^ fn f) (E + d + 1) (np2 _) (Nat.pow_lt_pow_right (by decide) (by omega)) (by omega) (by omega)
      refine ⟨z, z0, z1, z2, z3, z4, z5, z6, ?_⟩
      rw [z7, show q = 2 ^ (fn f + 1) by omega, ← Nat.pow_add, ← Nat.pow_add, ← Nat.pow_add, show fn f + (E + (d : Int) + 1 + 298).toNat = fn f + 1 + d + (E + 298).toNat by omega]
  obtain ⟨z, z0, z1, z2, z3, z4, z5, z6, z7⟩ := hz
  have hW : upN (q * 2 ^ d * 2 ^ (E + 298).toNat) = q * 2 ^ (d + t) := by
    rw [hup, Nat.mul_assoc, ← Nat.pow_add]
  have hpn := pack_num f 0 z s _ z0 z1 z3 z4 z7
  rw [hW] at hpn
  obtain ⟨a1, a2⟩ := pack_read f 0 s _ z hpn
  obtain ⟨b1, b2⟩ := rd_alike f 0 s _ _ hp
  have hsig : sigB f z = false := by
    unfold nanB at z5
    unfold sigB
    cases h5 : (clsI f z == 5) <;> simp_all
  have hkk := np2 (E + 298).toNat
  have hne : (catN f (K * 2 ^ t) != 0) = decide (q * 2 ^ d * 2 ^ (E + 298).toNat ≠ amtE E K) := by
    have : amtE E K = K * 2 ^ (E + 298).toNat := by unfold amtE; rw [Int.toNat_natCast]
    rw [this, Bool.eq_iff_iff]
    simp only [bne_iff_ne, ne_eq, decide_eq_true_eq, Nat.mul_right_cancel_iff hkk]
    rw [hck]
  have hd1 : 2 ^ (d - 1) ≤ 2 ^ fn f := Nat.pow_le_pow_right (by decide) (by omega)
  have hfs : 2 ^ (fn f + 1) = 2 * 2 ^ fn f := by rw [Nat.pow_succ]; omega
  have hfp := np2 (fn f)
  have hamt : amtE E K = K * 2 ^ (E + 298).toNat := by unfold amtE; rw [Int.toNat_natCast]
  refine ⟨z, rdU f (K * 2 ^ t), rdX f 0 s (K * 2 ^ t), _, ?_, z0, z2, z4, z5, hsig, z6, z7, ?_, ?_⟩
  · rw [hU, ← packE_is, b1, a1, b2, a2]
  · unfold rdX
    rw [b2, a2, Bool.false_or, hne]
  · intro m
    have hi : rdX f 0 s (K * 2 ^ t) = decide (q * 2 ^ d * 2 ^ (E + 298).toNat ≠ amtE E K) := by unfold rdX; rw [b2, a2, Bool.false_or, hne]
    have cz : ∀ (r : Int) (D : Nat), finI f r = true → amtE (unE f r) (unM f r) = D * 2 ^ (E + 298).toNat → 0 < D → (clsI f r == 0) = false := by
      intro r D hf ha hD
      have hn := nou_is f r hf
      rw [ha] at hn
      have : nouB f r = false := by
        rw [← Bool.not_eq_true, hn, Nat.mul_eq_zero]; omega
      exact this
    rw [hi]
    rcases Nat.lt_trichotomy (q * 2 ^ d) K with c | c | c
    · have c2 : q * 2 ^ d * 2 ^ (E + 298).toNat < amtE E K := by rw [hamt]; exact Nat.mul_lt_mul_of_pos_right c hkk
      obtain ⟨r, r0, r1, r2, r3, r4, r5, r6, r7⟩ := num_exists f s (K - q * 2 ^ d) E (by omega) (by have := hlo (by omega); omega) e0 (by omega)
      refine ⟨r, ?_, r0, r2, ?_⟩
      · rw [fin_more f 0 s (!s) _ _ (by cases s <;> decide) c2]
        exact pack_num f 0 r s _ r0 r1 r3 r4 (by rw [r7, hamt, Nat.sub_mul])
      · rw [cz r _ r3 r7 (by omega), decide_eq_true (by omega)]; rfl
    · have c2 : q * 2 ^ d * 2 ^ (E + 298).toNat = amtE E K := by rw [hamt, c]
      obtain ⟨x1, x2, x3, x4, x5⟩ := zer_parts f false
      refine ⟨zerI f false, ?_, x4, x5, ?_⟩
      · rw [c2, fin_even f 0 s (!s) _ (by cases s <;> decide)]; rfl
      · have hc : clsI f (zerI f false) = 0 := by unfold clsI; rw [if_pos x1, if_pos x2]
        rw [hc, decide_eq_false (by omega)]; rfl
    · have c2 : amtE E K < q * 2 ^ d * 2 ^ (E + 298).toNat := by rw [hamt]; exact Nat.mul_lt_mul_of_pos_right c hkk
      obtain ⟨r, r0, r1, r2, r3, r4, r5, r6, r7⟩ := num_exists f (!s) (q * 2 ^ d - K) E (by omega) (by have := hhi (by omega); omega) e0 (by omega)
      refine ⟨r, ?_, r0, r2, ?_⟩
      · rw [fin_less f 0 s (!s) _ _ (by cases s <;> decide) c2]
        exact pack_num f 0 r (!s) _ r0 r1 r3 r4 (by rw [r7, hamt, Nat.sub_mul])
      · rw [cz r _ r3 r7 (by omega), decide_eq_true (by omega)]; rfl

theorem min_parts (f z : Int) (h0 : 0 ≤ z) (h1 : z ≤ 4294967295) (hn : nanB f z = false) : fX f (minI f z) = fX f z ∧ fF f (minI f z) = fF f z ∧ fS f (minI f z) = !fS f z := by
  obtain ⟨x1, x2, x3, x4, x5⟩ := xor_parts f z h0 h1
  obtain ⟨y1, y2, y3, y4, y5⟩ := and_parts f _ x4 x5
  unfold minI
  rw [hn, if_neg (by decide), y1, y2, y3, x1, x2, x3]
  exact ⟨rfl, rfl, rfl⟩

/-- Of numbers that are finite. -/
theorem mul_fin (f mode a b : Int) (ha : nanB f a = false) (hb : nanB f b = false) (ia : infB f a = false) (ib : infB f b = false) : mulE f mode a b = PackE f mode (sgP f a b) (upN (amtP f a b)) := by
  have hbad : badB f a b = false := by unfold badB; rw [ia, ib]; cases nouB f a <;> cases nouB f b <;> rfl
  unfold mulE
  rw [ha, hb, ia, ib, hbad, if_neg (by decide), if_neg (by decide), if_neg (by decide)]

theorem fma_fin (f mode a b c : Int) (ha : nanB f a = false) (hb : nanB f b = false) (ia : infB f a = false) (ib : infB f b = false) (hc : nanB f c = false) (ic : infB f c = false) : fmaE f mode a b c = finE f mode (sgP f a b) (amtP f a b) (fS f c) (amtE (unE f c) (unM f c)) := by
  have hbad : badB f a b = false := by unfold badB; rw [ia, ib]; cases nouB f a <;> cases nouB f b <;> rfl
  unfold fmaE
  rw [ha, hb, hc, ia, ib, ic, hbad, if_neg (by decide), if_neg (by decide), if_neg (by decide)]

theorem mil_fin (f k : Int) (h0 : 0 ≤ k) : nanB f (milI f k) = false ∧ infB f (milI f k) = false ∧ (unM f (milI f k) = 0 ∨ (hid f ≤ unM f (milI f k) ∧ unM f (milI f k) < 2 * hid f ∧ lst f + bia f - 3 ≤ unE f (milI f k) ∧ unE f (milI f k) ≤ lst f + bia f)) := by
  by_cases h : milI f k = 0
  · rw [h]
    obtain ⟨x1, x2, x3, x4, x5⟩ := zer_parts f false
    rw [show zerI f false = 0 from rfl] at x1 x2
    obtain ⟨m1, m2, m3, m4⟩ := nou_parts f 0 x1 x2
    rw [amt_zero _ _ (unM_bd f 0).1] at m4
    exact ⟨m1, m3, .inl m4⟩
  · obtain ⟨g1, g2, g3, g4, g5⟩ := mil_norm f k h0 h
    obtain ⟨l1, l2, l3⟩ := lim_fmt f
    obtain ⟨r1, r2, r3, r4, r5⟩ := norm_parts f (milI f k) _ _ rfl rfl g3 (by omega)
    have hF := fF_bd f (milI f k)
    exact ⟨r1, r2, .inr (by omega)⟩

/-- A product's error is a number, and nought just where the product was exact. -/
theorem errors_all (a b : Int) (a0 : 0 ≤ a) (b0 : 0 ≤ b) :
    ∃ (p : Int) (u i : Bool) (r : Int), mulE 2 0 (milI 2 a) (milI 2 b) = .returned (.tuple #[.int .u32 p, .agg #[.bool false, .bool false, .bool false, .bool u, .bool i]]) ∧ 0 ≤ p ∧ p ≤ 4294967295
      ∧ fmaE 2 0 (milI 2 a) (milI 2 b) (minI 2 p) = excE r false ∧ 0 ≤ r ∧ r ≤ 4294967295 ∧ (clsI 2 r == 0) = !i := by
  obtain ⟨x1, x2, x3⟩ := mil_fin 2 a a0
  obtain ⟨y1, y2, y3⟩ := mil_fin 2 b b0
  have hm := mul_fin 2 0 _ _ x1 y1 x2 y2
  have hf := fun c => fma_fin 2 0 (milI 2 a) (milI 2 b) c x1 y1 x2 y2
  generalize milI 2 a = x at *
  generalize milI 2 b = y at *
  have hc0 : ∀ z : Int, fX 2 z = 0 → fF 2 z = 0 → clsI 2 z = 0 := fun z g1 g2 => by unfold clsI; rw [if_pos g1, if_pos g2]
  by_cases hz : amtP 2 x y = 0
  · obtain ⟨z1, z2, z3, z4, z5⟩ := zer_parts 2 (sgP 2 x y)
    obtain ⟨m1, m2, m3, m4⟩ := nou_parts 2 _ z1 z2
    obtain ⟨n1, n2, n3⟩ := min_parts 2 (zerI 2 (sgP 2 x y)) z4 z5 m1
    rw [z1] at n1
    rw [z2] at n2
    rw [z3] at n3
    obtain ⟨k1, k2, k3, k4⟩ := nou_parts 2 _ n1 n2
    obtain ⟨v1, v2, v3, v4, v5⟩ := zer_parts 2 false
    refine ⟨zerI 2 (sgP 2 x y), false, false, zerI 2 false, ?_, z4, z5, ?_, v4, v5, ?_⟩
    · rw [hm, hz, (up_zero 0).2 rfl, pack_zero_is]; rfl
    · rw [hf _ k1 k3, hz, n3, k4, fin_even 2 0 _ _ 0 (by cases sgP 2 x y <;> decide)]; rfl
    · rw [hc0 _ v1 v2]; rfl
  · have hne : unM 2 x ≠ 0 ∧ unM 2 y ≠ 0 := ⟨fun g => hz ((amtP_zero 2 x y).2 (.inl g)), fun g => hz ((amtP_zero 2 x y).2 (.inr g))⟩
    have x4 := x3.resolve_left hne.1
    have y4 := y3.resolve_left hne.2
    rw [show hid 2 = 8388608 from rfl, show lst 2 = -149 from rfl, show bia 2 = 127 from rfl] at x4 y4
    obtain ⟨p0, p1, p2, p3⟩ := x4
    obtain ⟨q0, q1, q2, q3⟩ := y4
    obtain ⟨A, hA⟩ := Int.eq_ofNat_of_zero_le (show 0 ≤ unM 2 x by omega)
    obtain ⟨B, hB⟩ := Int.eq_ofNat_of_zero_le (show 0 ≤ unM 2 y by omega)
    have hamt : amtP 2 x y = amtE (unE 2 x + unE 2 y) ((A * B : Nat) : Int) := by unfold amtP; rw [hA, hB, ← Int.natCast_mul]
    have k0 : 2 ^ 46 ≤ A * B := by
      have : 8388608 * 8388608 ≤ A * B := Nat.mul_le_mul (by omega) (by omega)
      omega
    have k1 : A * B < 2 ^ 48 := by
      have : A * B ≤ 16777215 * 16777215 := Nat.mul_le_mul (by omega) (by omega)
      omega
    have hfn : fn 2 = 23 := rfl
    have hl : lst 2 = -149 := rfl
    have ht : topx 2 = 255 := rfl
    have hcore : ∃ (z : Int) (u i : Bool) (W : Nat), PackE 2 0 (sgP 2 x y) (upN (amtP 2 x y)) = .returned (.tuple #[.int .u32 z, .agg #[.bool false, .bool false, .bool false, .bool u, .bool i]])
      ∧ 0 ≤ z ∧ z ≤ 4294967295 ∧ fS 2 z = sgP 2 x y ∧ nanB 2 z = false ∧ sigB 2 z = false ∧ infB 2 z = false ∧ amtE (unE 2 z) (unM 2 z) = W ∧ i = decide (W ≠ amtP 2 x y)
      ∧ (∀ m : Bool, ∃ r : Int, finE 2 0 (sgP 2 x y) (amtP 2 x y) (!sgP 2 x y) W = excE r false ∧ 0 ≤ r ∧ r ≤ 4294967295 ∧ (clsI 2 r == 0) = !i) := by
      rw [hamt]
      rcases Nat.lt_or_ge (A * B) (2 ^ 47) with c | c
      · exact err_core 2 _ (A * B) 23 _ (by decide) (by rw [hfn]; decide) (by rw [hfn]; exact k0) (by rw [hfn]; exact c) (by rw [hfn, hl]; omega) (by rw [hl, ht]; omega)
      · exact err_core 2 _ (A * B) 24 _ (by decide) (by rw [hfn]; decide) (by rw [hfn]; exact c) (by rw [hfn]; exact k1) (by rw [hfn, hl]; omega) (by rw [hl, ht]; omega)
    obtain ⟨z, u, i, W, c1, c2, c3, c4, c5, c6, c7, c8, c9, c10⟩ := hcore
    obtain ⟨r, r1, r2, r3, r4⟩ := c10 true
    obtain ⟨n1, n2, n3⟩ := min_parts 2 z c2 c3 c5
    have hcl : clsI 2 (minI 2 z) = clsI 2 z := by unfold clsI; rw [n1, n2]
    have hE : unE 2 (minI 2 z) = unE 2 z := by unfold unE; rw [n1]
    have hM : unM 2 (minI 2 z) = unM 2 z := by unfold unM; rw [n1, n2]
    refine ⟨z, u, i, r, by rw [hm]; exact c1, c2, c3, ?_, r2, r3, r4⟩
    rw [hf _ (by unfold nanB at *; rw [hcl]; exact c5) (by unfold infB at *; rw [hcl]; exact c7), n3, c4, hE, hM, c8]
    exact r1
end Go.Proofs.Ytianheeefhemhaa
