/- A root cut and rounded: its squares' sides (no program here). -/
import Derived.Test.YtianheeefhemhaaQuoLaw
import Derived.Test.YtianheeefhemhaaRMono
import Derived.Test.YtianheeefhemhaaPErr2
namespace Go.Proofs.Ytianheeefhemhaa
open Go.RowKit
set_option linter.unusedVariables false
set_option linter.unusedSimpArgs false

/-- The unit's place of V. -/
def uniN (f : Int) (V : Nat) : Nat := luN f + dN f V

theorem plc_cut (f : Int) (s : Bool) (V : Nat) : plcN f 1 s V = dN f V * 2 ^ fn f + keptN f V := by
  unfold plcN growB; simp

theorem plc_up (f : Int) (V : Nat) : plcN f 2 false V = dN f V * 2 ^ fn f + keptN f V + (catN f V != 0).toNat := by
  unfold plcN growB; simp

theorem cat_none (f : Int) (V : Nat) : catN f V = 0 ↔ V % 2 ^ uniN f V = 0 := by
  unfold catN catU uniN
  constructor
  · intro h
    split at h
    · assumption
    · split at h
      · omega
      · split at h <;> omega
  · intro h; rw [if_pos h]

/-- A number of q of V's units, where these are as many as V keeps or one more. -/
theorem plc_like (f mode : Int) (s : Bool) (V q : Nat) (h0 : 2 ^ fn f ≤ q) (h1 : q ≤ 2 ^ (fn f + 1)) : plcN f mode s (q * 2 ^ uniN f V) = dN f V * 2 ^ fn f + q ∧ catN f (q * 2 ^ uniN f V) = 0 := by
  obtain ⟨a, b⟩ := plc_whole f mode s q (uniN f V) h0 h1 (by unfold uniN; omega)
  refine ⟨?_, b⟩
  rw [a]
  unfold uniN
  rw [show luN f + dN f V - luN f = dN f V by omega]

/-- The square of what is cut isn't above, that of what is rounded up not below. -/
theorem sides_core (R E X u k : Nat) (st : Bool) (hk : E ≤ u) (hR : R * R * 2 ^ (2 * E) ≤ X) (hR2 : X < (R + 1) * (R + 1) * 2 ^ (2 * E)) (hst : st = false → R * R * 2 ^ (2 * E) = X)
    (hE : 1 ≤ E) (hkept : (R * 2 ^ E + st.toNat) / 2 ^ u = k) :
    (k * 2 ^ u) * (k * 2 ^ u) ≤ X ∧ ((R * 2 ^ E + st.toNat) % 2 ^ u = 0 → (k * 2 ^ u) * (k * 2 ^ u) = X) ∧ X ≤ ((k + 1) * 2 ^ u) * ((k + 1) * 2 ^ u) := by
  have hu := np2 u
  have hEE := np2 E
  have h2 : 2 ≤ 2 ^ E := Nat.pow_le_pow_right (n := 2) (by decide) hE
  have hs : st.toNat ≤ 1 := Bool.toNat_le _
  obtain ⟨d, hd⟩ : ∃ d, u = E + d := ⟨u - E, by omega⟩
  have hdp := np2 d
  have hpu : 2 ^ u = 2 ^ d * 2 ^ E := by rw [hd, Nat.pow_add, Nat.mul_comm]
  have a := Nat.div_add_mod (R * 2 ^ E + st.toNat) (2 ^ u)
  have l := Nat.mod_lt (R * 2 ^ E + st.toNat) hu
  rw [hkept] at a
  have sq : ∀ x : Nat, x * 2 ^ E * (x * 2 ^ E) = x * x * 2 ^ (2 * E) := fun x => by
    rw [show 2 * E = E + E by omega, Nat.pow_add]; grind
  have hk1 : k * 2 ^ d ≤ R := by
    refine Nat.le_of_not_lt fun g => ?_
    have : (R + 1) * 2 ^ E ≤ k * 2 ^ d * 2 ^ E := Nat.mul_le_mul_right _ g
    rw [Nat.mul_assoc, ← hpu, Nat.add_mul] at this
    rw [Nat.mul_comm] at a
    omega
  have hk2 : R + 1 ≤ (k + 1) * 2 ^ d := by
    refine Nat.le_of_not_lt fun g => ?_
    have : (k + 1) * 2 ^ d * 2 ^ E ≤ R * 2 ^ E := Nat.mul_le_mul_right _ (by omega)
    rw [Nat.mul_assoc, ← hpu, Nat.add_mul] at this
    rw [Nat.mul_comm] at a
    omega
  have e1 : k * 2 ^ u = k * 2 ^ d * 2 ^ E := by rw [hpu, Nat.mul_assoc]
  have e2 : (k + 1) * 2 ^ u = (k + 1) * 2 ^ d * 2 ^ E := by rw [hpu, Nat.mul_assoc]
  rw [e1, e2, sq, sq]
  refine ⟨?_, fun h0 => ?_, ?_⟩
  · exact Nat.le_trans (Nat.mul_le_mul_right _ (Nat.mul_le_mul hk1 hk1)) hR
  · rw [h0, Nat.add_zero, Nat.mul_comm, e1] at a
    have hst0 : st = false := by
      cases st
      · rfl
      · exfalso
        rw [show true.toNat = 1 from rfl] at a
        have : (k * 2 ^ d * 2 ^ E) % 2 ^ E = 0 := Nat.mul_mod_left _ _
        rw [a, Nat.mul_comm R, Nat.mul_add_mod, Nat.mod_eq_of_lt (by omega)] at this
        omega
    subst hst0
    rw [Bool.toNat_false, Nat.add_zero] at a
    have : k * 2 ^ d = R := Nat.eq_of_mul_eq_mul_right hEE a
    rw [this]; exact hst rfl
  · exact Nat.le_trans (Nat.le_of_lt hR2) (Nat.mul_le_mul_right _ (Nat.mul_le_mul hk2 hk2))

/-- A number of q units at u: its own value. -/
theorem num_at (f mode : Int) (q u : Nat) (h0 : 2 ^ fn f ≤ q) (h1 : q ≤ 2 ^ (fn f + 1)) (hu : (luN f : Int) + fn f ≤ u) (hu2 : (u : Int) + 1 ≤ luN f + topx f - 2) :
    ∃ z : Int, 0 ≤ z ∧ z ≤ msk f ∧ z ≤ 4294967295 ∧ finI f z = true ∧ fS f z = false ∧ nanB f z = false ∧ infB f z = false ∧ numN f z = q * 2 ^ u ∧ PackE f mode false (q * 2 ^ u) = excE z false := by
  have hlu := lu_is f
  have key : ∀ (q' : Nat) (e : Int) (v : Nat), 0 < q' → q' < 2 ^ (fn f + 1) → lst f + fn f ≤ e → e ≤ lst f + topx f - 2 → (e + 10100 : Int) = v →
      ∃ z : Int, 0 ≤ z ∧ z ≤ msk f ∧ z ≤ 4294967295 ∧ finI f z = true ∧ fS f z = false ∧ nanB f z = false ∧ infB f z = false ∧ numN f z = q' * 2 ^ v ∧ PackE f mode false (q' * 2 ^ v) = excE z false := by
    intro q' e v g0 g1 g2 g3 hv
    obtain ⟨z, z0, z1, z2, z3, z4, z5, z6, z7⟩ := num_exists f false q' e g0 g1 g2 g3
    have hlst := lst_bd f
    have hup : upN (q' * 2 ^ (e + 298).toNat) = q' * 2 ^ v := by
      have g : ∀ k : Nat, (e + 298).toNat + k = v → q' * 2 ^ (e + 298).toNat * 2 ^ k = q' * 2 ^ v := fun k h => by rw [Nat.mul_assoc, ← Nat.pow_add, h]
      unfold upN
      exact g 9802 (by omega)
    have hn : numN f z = q' * 2 ^ v := by rw [← up_num, z7, hup]
    refine ⟨z, z0, z1, z2, z3, z4, z5, z6, hn, ?_⟩
    rw [← hn]
    have := num_pack f mode z z0 z1 z3
    rw [z4] at this
    exact this
  have hfp := np2 (fn f)
  rcases Nat.lt_or_ge q (2 ^ (fn f + 1)) with c | c
  · exact key q (u - 10100) u (by omega) c (by omega) (by omega) (by omega)
  · obtain ⟨z, z0, z1, z2, z3, z4, z5, z6, z7, z8⟩ := key (2 ^ fn f) (u + 1 - 10100) (u + 1) hfp (Nat.pow_lt_pow_right (by decide) (by omega)) (by omega) (by omega) (by omega)
    have e : 2 ^ fn f * 2 ^ (u + 1) = q * 2 ^ u := by
      rw [show q = 2 ^ (fn f + 1) by omega, ← Nat.pow_add, ← Nat.pow_add, show fn f + (u + 1) = fn f + 1 + u by omega]
    rw [e] at z7 z8
    exact ⟨z, z0, z1, z2, z3, z4, z5, z6, z7, z8⟩

/-- A number's square, in units. -/
theorem sq_units (f z : Int) : upN (amtP f z z) * 2 ^ 10100 = numN f z * numN f z := by
  obtain ⟨e0, e1⟩ := unE_bd f z
  obtain ⟨m0, m1⟩ := unM_bd f z
  obtain ⟨M, hM⟩ := Int.eq_ofNat_of_zero_le m0
  have q : ∀ a b c d : Nat, a + b + c = d + d → M * M * 2 ^ a * 2 ^ b * 2 ^ c = M * 2 ^ d * (M * 2 ^ d) := by
    intro a b c d h
    have : 2 ^ a * 2 ^ b * 2 ^ c = 2 ^ d * 2 ^ d := by rw [← Nat.pow_add, ← Nat.pow_add, h, Nat.pow_add]
    grind
  unfold upN amtP amtE numN
  rw [hM, ← Int.natCast_mul, Int.toNat_natCast, Int.toNat_natCast]
  exact q _ 9802 10100 _ (by omega)

theorem rd_in (f mode : Int) (V : Nat) (h : rdO f mode false V = false) : rdV f mode false V = (plcN f mode false V : Int) := by
  unfold rdO at h
  have : plcN f mode false V ≤ greN f := by
    have := of_decide_eq_false h
    omega
  unfold rdV magN zerI
  rw [if_pos this]; simp

theorem key_mag (f mode : Int) (V : Nat) : keyI f (rdV f mode false V) = magN f mode false V := by
  have h := mag_le f mode false V
  have g := gre_sgb f
  have e : rdV f mode false V = magN f mode false V := by unfold rdV zerI; simp
  have hs : fS f (magN f mode false V) = false := by
    unfold fS
    rw [Int.ediv_eq_zero_of_lt (by omega) (by omega)]; rfl
  rw [e]
  unfold keyI
  rw [hs]
  simp only [Bool.false_eq_true, if_false]
  exact Int.emod_eq_of_lt (by omega) (by omega)

/-- Where the root of a mild number stands. -/
theorem root_place (f x Xf F : Int) (hx : x = Xf * hid f + F) (f0 : 0 ≤ F) (f1 : F < hid f) (X0 : bia f - 2 ≤ Xf) (X1 : Xf ≤ bia f + 1) :
    ∃ (R E u : Nat) (st : Bool), 1 ≤ E ∧ R ≠ 0 ∧ (∀ m : Int, rooE f m (unE f x) (unM f x).toNat = PackE f m false (R * 2 ^ E + st.toNat))
      ∧ uniN f (R * 2 ^ E + st.toNat) = u ∧ E ≤ u ∧ (luN f : Int) + fn f ≤ u ∧ (u : Int) + 1 ≤ luN f + topx f - 2 ∧ 2 ^ fn f ≤ keptN f (R * 2 ^ E + st.toNat)
      ∧ R * R * 2 ^ (2 * E) ≤ numN f x * 2 ^ 10100 ∧ numN f x * 2 ^ 10100 < (R + 1) * (R + 1) * 2 ^ (2 * E) ∧ (st = false → R * R * 2 ^ (2 * E) = numN f x * 2 ^ 10100) := by
  obtain ⟨l1, l2, l3⟩ := lim_fmt f
  have hb := bia_lst f
  have hh := hid_fn f
  have hlu := lu_is f
  have hfp := np2 (fn f)
  obtain ⟨p1, p2, p3, p4, p5, p6, p7⟩ := parts_make f false Xf F x (by omega) (by omega) f0 f1 (by rw [show zerI f false = 0 from rfl]; omega)
  obtain ⟨r1, r2, r3, r4, r5⟩ := norm_parts f x Xf F p1 p2 (by omega) (by omega)
  have hu : numN f x = (unM f x).toNat * 2 ^ (unE f x + 10100).toNat := rfl
  obtain ⟨M, hM⟩ : ∃ M : Nat, unM f x = M := ⟨(unM f x).toNat, by omega⟩
  have M0 : 2 ^ fn f ≤ M := by omega
  have M1 : M < 2 * 2 ^ fn f := by omega
  have he : unE f x = Xf - bia f - fn f := by omega
  obtain ⟨e, hee⟩ : ∃ e, unE f x = e := ⟨_, rfl⟩
  rw [hee] at he hu ⊢
  rw [hM, Int.toNat_natCast] at hu ⊢
  obtain ⟨par, hpar, hM', hX'⟩ : ∃ par : Nat, par ≤ 1 ∧ evM e M = M * 2 ^ par ∧ e = 2 * evX e + par := by
    unfold evM evX
    by_cases c : e % 2 = 0
    · exact ⟨0, by omega, by rw [if_pos c]; simp, by rw [if_pos c]; omega⟩
    · exact ⟨1, by omega, by rw [if_neg c]; omega, by rw [if_neg c]; omega⟩
  obtain ⟨h, hh2⟩ : ∃ h : Nat, h = fn f / 2 := ⟨_, rfl⟩
  have hroot := roo_root (evM e M) 60
  obtain ⟨R, hR⟩ : ∃ R, rooN (evM e M) 60 = R := ⟨_, rfl⟩
  rw [hR] at hroot
  obtain ⟨ra, rb⟩ := hroot
  have q1 : 2 ^ (h + 60) * 2 ^ (h + 60) ≤ evM e M * 4 ^ 60 := by
    rw [hM', show (4 : Nat) ^ 60 = 2 ^ 120 from by decide, ← Nat.pow_add, show h + 60 + (h + 60) = 2 * h + 120 by omega, Nat.pow_add]
    refine Nat.mul_le_mul_right _ ?_
    have a : 2 ^ (2 * h) ≤ 2 ^ fn f := Nat.pow_le_pow_right (by decide) (by omega)
    have b : M * 1 ≤ M * 2 ^ par := Nat.mul_le_mul_left _ (np2 par)
    omega
  have q2 : evM e M * 4 ^ 60 < 2 ^ (h + 62) * 2 ^ (h + 62) := by
    rw [hM', show (4 : Nat) ^ 60 = 2 ^ 120 from by decide, ← Nat.pow_add, show h + 62 + (h + 62) = (2 * h + 4) + 120 by omega, Nat.pow_add 2 (2 * h + 4)]
    refine Nat.mul_lt_mul_of_pos_right ?_ (np2 120)
    have a : 2 ^ (fn f + 2) ≤ 2 ^ (2 * h + 4) := Nat.pow_le_pow_right (by decide) (by omega)
    have b : 2 ^ par ≤ 2 ^ 1 := Nat.pow_le_pow_right (by decide) hpar
    have c : M * 2 ^ par ≤ M * 2 ^ 1 := Nat.mul_le_mul_left _ b
    have d : 2 ^ (fn f + 2) = 4 * 2 ^ fn f := by rw [Nat.pow_add]; omega
    omega
  have R0 : 2 ^ (h + 60) ≤ R := by
    refine Nat.le_of_not_lt fun g => ?_
    have := Nat.mul_le_mul (show R + 1 ≤ 2 ^ (h + 60) from g) (show R + 1 ≤ 2 ^ (h + 60) from g)
    omega
  have R1 : R < 2 ^ (h + 62) := by
    refine Nat.lt_of_not_le fun g => ?_
    have := Nat.mul_le_mul g g
    omega
  have Rn : R ≠ 0 := by have := np2 (h + 60); omega
  have lg0 : h + 60 ≤ R.log2 := (Nat.le_log2 Rn).2 R0
  have lg1 : R.log2 < h + 62 := (Nat.log2_lt Rn).2 R1
  obtain ⟨E, hE⟩ : ∃ E : Nat, evX e - 60 + 10100 = E := ⟨(evX e - 60 + 10100).toNat, by omega⟩
  have hfn := fn_bd f
  have E1 : 1 ≤ E := by omega
  obtain ⟨st, hst⟩ : ∃ st, rooB (evM e M) 60 = st := ⟨_, rfl⟩
  have hlogU := val_log R E st.toNat E1 (Bool.toNat_le _) Rn
  have hlog : luN f + dN f (R * 2 ^ E + st.toNat) + fn f = R.log2 + E ∧ 0 < dN f (R * 2 ^ E + st.toNat) ∧ (luN f : Int) + fn f ≤ ((luN f + dN f (R * 2 ^ E + st.toNat) : Nat) : Int) ∧ ((luN f + dN f (R * 2 ^ E + st.toNat) : Nat) : Int) + 1 ≤ luN f + topx f - 2 := by
    have hd : dN f (R * 2 ^ E + st.toNat) = R.log2 + E - (fn f + luN f) := by unfold dN; rw [hlogU]
    rw [hd]
    clear hlogU hd ra rb q1 q2 R0 R1 hR hst hM' hu M0 M1 hfp hh
    rcases fmt_cases f with ⟨rfl, hf⟩ | ⟨rfl, hf⟩ | ⟨⟨c0, c1⟩, hf⟩ <;> obtain ⟨e1, e2, e3, e4, e5, e6, e7, e8, e9⟩ := hf
    all_goals
      rw [e6] at hlu
      rw [e9] at X0 X1 he
      rw [e2] at he hh2 ⊢
      rw [e4]
      omega
  have hXT : evM e M * 4 ^ 60 * 2 ^ (2 * E) = numN f x * 2 ^ 10100 := by
    have q : ∀ a b c d : Nat, par + 120 + a = b + c → d = par → M * 2 ^ d * 2 ^ 120 * 2 ^ a = M * 2 ^ b * 2 ^ c := by
      intro a b c d g gd
      subst gd
      rw [Nat.mul_assoc, Nat.mul_assoc, Nat.mul_assoc, ← Nat.pow_add, ← Nat.pow_add, ← Nat.pow_add]
      rw [show d + (120 + a) = b + c by omega]
    rw [hM', hu, show (4 : Nat) ^ 60 = 2 ^ 120 from by decide]
    exact q (2 * E) _ 10100 par (by omega) rfl
  refine ⟨R, E, uniN f (R * 2 ^ E + st.toNat), st, E1, Rn, fun m => ?_, rfl, ?_, hlog.2.2.1, hlog.2.2.2, (kept_bd f _).2 (by omega), ?_, ?_, ?_⟩
  · unfold rooE
    rw [hR, hst]
    congr 1
    exact toNat_val _ _ _ _ _ (by rw [clamp_in _ (by omega) (by omega)]; omega) rfl
  · have := hlog.1
    unfold uniN
    omega
  · rw [← hXT]; exact Nat.mul_le_mul_right _ ra
  · rw [← hXT]; exact Nat.mul_lt_mul_of_pos_right rb (np2 _)
  · intro g
    rw [← hXT]
    rw [g] at hst
    unfold rooB at hst
    rw [hR] at hst
    have := of_decide_eq_false hst
    have e2 : R * R = evM e M * 4 ^ 60 := by omega
    rw [e2]

theorem rnd_same (f m : Int) (V W : Nat) (z : Int) (hp : plcN f m false V = plcN f m false W) (h : PackE f m false W = excE z false) : rdV f m false V = z ∧ rdO f m false V = false := by
  obtain ⟨a1, a2⟩ := pack_read f m false W z h
  obtain ⟨b1, b2⟩ := rd_alike f m false V W hp
  exact ⟨b1.trans a1, b2.trans a2⟩

theorem sqr_num (f m x : Int) (hn : nanB f x = false) (hz : nouB f x = false) (hs : fS f x = false) (hi : infB f x = false) : sqrE f m x = rooE f m (unE f x) (unM f x).toNat := by
  unfold sqrE
  rw [hn, hz, hs, hi, if_neg (by decide), if_neg (by decide), if_neg (by decide), if_neg (by decide)]

theorem pow_cancel (a b : Nat) (h : a * 2 ^ 10100 ≤ b * 2 ^ 10100) : a ≤ b := by
  have q : ∀ P : Nat, 0 < P → a * P ≤ b * P → a ≤ b := fun P hP g => Nat.le_of_mul_le_mul_right g hP
  exact q _ (np2 10100) h

/-- All that the law asks of a mild number's root. -/
theorem sides_all (f x Xf F : Int) (hx : x = Xf * hid f + F) (f0 : 0 ≤ F) (f1 : F < hid f) (X0 : bia f - 2 ≤ Xf) (X1 : Xf ≤ bia f + 1) :
    ∃ (lo hi p q : Int) (u1 u2 i p1 p2 p3 p4 p5 q1 q2 q3 q4 q5 : Bool),
      sqrE f 1 x = .returned (.tuple #[.int .u32 lo, .agg #[.bool false, .bool false, .bool false, .bool u1, .bool i]])
      ∧ sqrE f 2 x = .returned (.tuple #[.int .u32 hi, .agg #[.bool false, .bool false, .bool false, .bool u2, .bool i]])
      ∧ (0 ≤ lo ∧ lo ≤ 4294967295) ∧ (0 ≤ hi ∧ hi ≤ 4294967295)
      ∧ mulE f 1 lo lo = .returned (.tuple #[.int .u32 p, .agg #[.bool p1, .bool p2, .bool p3, .bool p4, .bool p5]])
      ∧ mulE f 2 hi hi = .returned (.tuple #[.int .u32 q, .agg #[.bool q1, .bool q2, .bool q3, .bool q4, .bool q5]])
      ∧ (0 ≤ p ∧ p ≤ 4294967295) ∧ (0 ≤ q ∧ q ≤ 4294967295)
      ∧ keyI f p ≤ keyI f x ∧ keyI f x ≤ keyI f q ∧ i = (lo != hi) ∧ (lo = hi ∨ hi = lo + 1) := by
  obtain ⟨l1, l2, l3⟩ := lim_fmt f
  obtain ⟨p1, p2, p3, p4, p5, p6, p7⟩ := parts_make f false Xf F x (by omega) (by omega) f0 f1 (by rw [show zerI f false = 0 from rfl]; omega)
  obtain ⟨r1, r2, r3, r4, r5⟩ := norm_parts f x Xf F p1 p2 (by omega) (by omega)
  obtain ⟨R, E, u, st, hE, hRn, hroo, hu, hEu, hu0, hu1, hk, hR, hR2, hst⟩ := root_place f x Xf F hx f0 f1 X0 X1
  obtain ⟨U, hU⟩ : ∃ U, R * 2 ^ E + st.toNat = U := ⟨_, rfl⟩
  rw [hU] at hroo hu hk
  obtain ⟨k, hkk⟩ : ∃ k, keptN f U = k := ⟨_, rfl⟩
  obtain ⟨g, hg⟩ : ∃ g, (catN f U != 0) = g := ⟨_, rfl⟩
  have hk1 := (kept_bd f U).1
  rw [hkk] at hk hk1
  have hdiv : U / 2 ^ u = k := by rw [← hkk]; unfold keptN; rw [← hu]; rfl
  have hcat := cat_none f U
  rw [hu] at hcat
  rw [← hU] at hdiv
  obtain ⟨s1, s2, s3⟩ := sides_core R E _ u k st hEu hR hR2 hst hE hdiv
  rw [hU] at s2
  have hgn : g.toNat ≤ 1 := Bool.toNat_le _
  obtain ⟨lo, a0, a1, a2, a3, a4, a5, a6, a7, a8⟩ := num_at f 1 k u hk (by omega) hu0 hu1
  obtain ⟨hi, b0, b1, b2, b3, b4, b5, b6, b7, b8⟩ := num_at f 2 (k + g.toNat) u (by omega) (by omega) hu0 hu1
  have c1 := plc_like f 1 false U k hk (by omega)
  have c2 := plc_like f 2 false U (k + g.toNat) (by omega) (by omega)
  rw [hu] at c1 c2
  have d1 : plcN f 1 false U = plcN f 1 false (k * 2 ^ u) := by rw [plc_cut, hkk, c1.1]
  have d2 : plcN f 2 false U = plcN f 2 false ((k + g.toNat) * 2 ^ u) := by rw [plc_up, hkk, hg, c2.1]; omega
  obtain ⟨v1, o1⟩ := rnd_same f 1 U _ lo d1 a8
  obtain ⟨v2, o2⟩ := rnd_same f 2 U _ hi d2 b8
  have w1 := rd_in f 1 U o1
  have w2 := rd_in f 2 U o2
  rw [v1, plc_cut, hkk] at w1
  rw [v2, plc_up, hkk, hg] at w2
  have n1 : sqrE f 1 x = .returned (.tuple #[.int .u32 lo, .agg #[.bool false, .bool false, .bool false, .bool (rdU f U), .bool g]]) := by
    rw [sqr_num f 1 x r1 r3 p3 r2, hroo, ← packE_is, v1, o1]
    unfold rdX
    rw [o1, hg, Bool.false_or]
  have n2 : sqrE f 2 x = .returned (.tuple #[.int .u32 hi, .agg #[.bool false, .bool false, .bool false, .bool (rdU f U), .bool g]]) := by
    rw [sqr_num f 2 x r1 r3 p3 r2, hroo, ← packE_is, v2, o2]
    unfold rdX
    rw [o2, hg, Bool.false_or]
  have sg : ∀ z : Int, sgP f z z = false := fun z => by unfold sgP; cases fS f z <;> rfl
  have m1 : mulE f 1 lo lo = PackE f 1 false (upN (amtP f lo lo)) := by rw [mul_fin f 1 lo lo a5 a5 a6 a6, sg]
  have m2 : mulE f 2 hi hi = PackE f 2 false (upN (amtP f hi hi)) := by rw [mul_fin f 2 hi hi b5 b5 b6 b6, sg]
  have xk : ∀ m : Int, keyI f x = magN f m false (numN f x) := by
    intro m
    have h := num_pack f m x p4 p5 p7
    rw [p3] at h
    have := (pack_read f m false (numN f x) x h).1
    rw [← key_mag, this]
  have lo2 : upN (amtP f lo lo) ≤ numN f x := by
    refine pow_cancel _ _ ?_
    rw [sq_units, a7]
    exact s1
  have hi2 : numN f x ≤ upN (amtP f hi hi) := by
    refine pow_cancel _ _ ?_
    rw [sq_units, b7]
    cases g
    · have hc : catN f U = 0 := by simpa [bne] using hg
      rw [Bool.toNat_false, Nat.add_zero, s2 (hcat.1 hc)]
      exact Nat.le_refl _
    · exact s3
  refine ⟨lo, hi, _, _, _, _, g, _, _, _, _, _, _, _, _, _, _, n1, n2, ⟨a0, a2⟩, ⟨b0, b2⟩, by rw [m1]; rfl, by rw [m2]; rfl, word_bd f 1 false _, word_bd f 2 false _, ?_, ?_, ?_, ?_⟩
  · rw [key_mag, xk 1]
    exact Int.ofNat_le.2 (mag_mono f 1 false lo2)
  · rw [key_mag, xk 2]
    exact Int.ofNat_le.2 (mag_mono f 2 false hi2)
  · rw [w1, w2]
    cases g
    · simp
    · symm
      rw [bne_iff_ne]
      simp
      omega
  · rw [w1, w2]
    cases g
    · exact .inl (by simp)
    · exact .inr (by simp <;> omega)
end Go.Proofs.Ytianheeefhemhaa
