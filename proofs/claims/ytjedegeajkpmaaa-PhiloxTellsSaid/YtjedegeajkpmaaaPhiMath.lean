/- Philox4x32-10 as plain numbers (no program here). -/
import Derived.Test.YtjedegeajkpmaaaFMath
import Derived.Handy
import Derived.OpenShut
namespace Go.Proofs.Ytjedegeajkpmaaa
open Go.RowKit
set_option linter.unusedVariables false
set_option linter.unusedSimpArgs false

/-- A key of two words, a counter of four. -/
structure Ph where
  k0 : Int
  k1 : Int
  c0 : Int
  c1 : Int
  c2 : Int
  c3 : Int

/-- All six are words. -/
structure PhW (s : Ph) : Prop where
  a0 : 0 ≤ s.k0 ∧ s.k0 ≤ 4294967295
  a1 : 0 ≤ s.k1 ∧ s.k1 ≤ 4294967295
  b0 : 0 ≤ s.c0 ∧ s.c0 ≤ 4294967295
  b1 : 0 ≤ s.c1 ∧ s.c1 ≤ 4294967295
  b2 : 0 ≤ s.c2 ∧ s.c2 ≤ 4294967295
  b3 : 0 ≤ s.c3 ∧ s.c3 ≤ 4294967295

def xo (a b : Int) : Int := bits .xor .u32 a b

theorem xo_bd (a b : Int) : 0 ≤ xo a b ∧ xo a b ≤ 4294967295 := bounds_u32 (wf_bits .xor .u32 a b)

/-- One of ten rounds. -/
def phS (s : Ph) : Ph :=
  ⟨(s.k0 + 2654435769) % 4294967296, (s.k1 + 3144134277) % 4294967296,
   xo (xo (s.c2 * 3449720151 / 4294967296) s.c1) s.k0, s.c2 * 3449720151 % 4294967296,
   xo (xo (s.c0 * 3528531795 / 4294967296) s.c3) s.k1, s.c0 * 3528531795 % 4294967296⟩

def phN (s : Ph) : Nat → Ph
  | 0 => s
  | k + 1 => phS (phN s k)

theorem phS_word {s : Ph} (h : PhW s) : PhW (phS s) := by
  unfold phS
  exact ⟨by dsimp only; omega, by dsimp only; omega, xo_bd _ _, by dsimp only; omega, xo_bd _ _, by dsimp only; omega⟩

theorem phN_word {s : Ph} (h : PhW s) : ∀ k, PhW (phN s k)
  | 0 => h
  | k + 1 => phS_word (phN_word h k)

/-- A block's four words. -/
def phV (s : Ph) : Value := .agg #[.int .u32 s.c0, .int .u32 s.c1, .int .u32 s.c2, .int .u32 s.c3]

/-- Where the word n of a stream is. -/
def phA (seed stream n : Int) : Ph := ⟨seed % 4294967296, seed / 4294967296, n / 4 % 4294967296, n / 4 / 4294967296, stream, 0⟩

def phAt (s : Ph) (i : Int) : Int := if i = 0 then s.c0 else if i = 1 then s.c1 else if i = 2 then s.c2 else s.c3

def phWord (seed stream n : Int) : Int := phAt (phN (phA seed stream n) 10) (n % 4)

theorem phA_word (seed stream n : Int) (h0 : 0 ≤ seed) (h1 : seed ≤ 18446744073709551615) (s0 : 0 ≤ stream) (s1 : stream ≤ 4294967295) (n0 : 0 ≤ n) (n1 : n ≤ 18446744073709551615) : PhW (phA seed stream n) := by
  unfold phA
  exact ⟨by dsimp only; omega, by dsimp only; omega, by dsimp only; omega, by dsimp only; omega, ⟨s0, s1⟩, by dsimp only; omega⟩

theorem phAt_bd {s : Ph} (h : PhW s) (i : Int) : 0 ≤ phAt s i ∧ phAt s i ≤ 4294967295 := by
  unfold phAt
  have := h.b0; have := h.b1; have := h.b2; have := h.b3
  (repeat' split) <;> omega

theorem phWord_bd (seed stream n : Int) (h0 : 0 ≤ seed) (h1 : seed ≤ 18446744073709551615) (s0 : 0 ≤ stream) (s1 : stream ≤ 4294967295) (n0 : 0 ≤ n) (n1 : n ≤ 18446744073709551615) : 0 ≤ phWord seed stream n ∧ phWord seed stream n ≤ 4294967295 :=
  phAt_bd (phN_word (phA_word seed stream n h0 h1 s0 s1 n0 n1) 10) _

/-- A number below another. -/
def phBelow (seed stream n most : Int) : Int := phWord seed stream n * most / 4294967296

theorem below_bd (w most : Int) (h0 : 0 ≤ w) (h1 : w ≤ 4294967295) (m0 : 0 ≤ most) (m1 : most ≤ 4294967295) :
    0 ≤ w * most ∧ w * most ≤ 18446744065119617025 ∧ 0 ≤ w * most / 4294967296 ∧ (w * most / 4294967296 < most ∨ (most = 0 ∧ w * most / 4294967296 = 0)) := by
  have a : 0 ≤ w * most := Int.mul_nonneg h0 m0
  have b : w * most ≤ 4294967295 * most := Int.mul_le_mul_of_nonneg_right h1 m0
  refine ⟨a, by omega, Int.ediv_nonneg a (by omega), ?_⟩
  by_cases c : most = 0
  · subst c; right; simp
  · left; omega

/-! A round can be turned back. -/
/-- 'xor' with a word is turned back by itself. -/
theorem xo_nat (a b : Int) (a0 : 0 ≤ a) (a1 : a ≤ 4294967295) (b0 : 0 ≤ b) (b1 : b ≤ 4294967295) : xo a b = ((a.toNat ^^^ b.toNat : Nat) : Int) :=
  u32_xor a b a0 (by omega) b0 (by omega)

theorem xo_cancel (a b c : Int) (a0 : 0 ≤ a) (a1 : a ≤ 4294967295) (b0 : 0 ≤ b) (b1 : b ≤ 4294967295) (c0 : 0 ≤ c) (c1 : c ≤ 4294967295) (h : xo a c = xo b c) : a = b := by
  rw [xo_nat a c a0 a1 c0 c1, xo_nat b c b0 b1 c0 c1] at h
  have h' : a.toNat ^^^ c.toNat = b.toNat ^^^ c.toNat := by omega
  have h2 : (a.toNat ^^^ c.toNat) ^^^ c.toNat = (b.toNat ^^^ c.toNat) ^^^ c.toNat := by rw [h']
  rw [Nat.xor_assoc, Nat.xor_assoc, Nat.xor_self, Nat.xor_zero, Nat.xor_zero] at h2
  omega

theorem xo_cancel' (a b c : Int) (a0 : 0 ≤ a) (a1 : a ≤ 4294967295) (b0 : 0 ≤ b) (b1 : b ≤ 4294967295) (c0 : 0 ≤ c) (c1 : c ≤ 4294967295) (h : xo c a = xo c b) : a = b := by
  rw [xo_nat c a c0 c1 a0 a1, xo_nat c b c0 c1 b0 b1] at h
  have h' : c.toNat ^^^ a.toNat = c.toNat ^^^ b.toNat := by omega
  have h2 : c.toNat ^^^ (c.toNat ^^^ a.toNat) = c.toNat ^^^ (c.toNat ^^^ b.toNat) := by rw [h']
  rw [← Nat.xor_assoc, ← Nat.xor_assoc, Nat.xor_self, Nat.zero_xor, Nat.zero_xor] at h2
  omega

/-- An odd number's product tells the other one. -/
theorem odd_cancel (m i x y : Int) (hm : m * i % 4294967296 = 1) (x0 : 0 ≤ x) (x1 : x ≤ 4294967295) (y0 : 0 ≤ y) (y1 : y ≤ 4294967295) (h : x * m % 4294967296 = y * m % 4294967296) : x = y := by
  have key : ∀ z : Int, z * m % 4294967296 * i % 4294967296 = z % 4294967296 := by
    intro z
    rw [Int.mul_emod (z * m % 4294967296), Int.emod_emod, ← Int.mul_emod, Int.mul_assoc, Int.mul_emod, hm, Int.mul_one, Int.emod_emod]
  have := key x
  rw [h, key y] at this
  omega

/-- 'xor' as a name alone. -/
structure XoIs (x : Int → Int → Int) : Prop where
  bd : ∀ a b, 0 ≤ x a b ∧ x a b ≤ 4294967295
  left : ∀ a b c : Int, 0 ≤ a → a ≤ 4294967295 → 0 ≤ b → b ≤ 4294967295 → 0 ≤ c → c ≤ 4294967295 → x a c = x b c → a = b
  right : ∀ a b c : Int, 0 ≤ a → a ≤ 4294967295 → 0 ≤ b → b ≤ 4294967295 → 0 ≤ c → c ≤ 4294967295 → x c a = x c b → a = b

theorem xo_is : XoIs xo := ⟨xo_bd, xo_cancel, xo_cancel'⟩

theorem half_inj (x : Int → Int → Int) (hx : XoIs x) (q c1 d1 k : Int) (q0 : 0 ≤ q) (q1 : q ≤ 4294967295) (c0 : 0 ≤ c1) (cc : c1 ≤ 4294967295) (d0 : 0 ≤ d1) (dd : d1 ≤ 4294967295) (k0 : 0 ≤ k) (kk : k ≤ 4294967295)
    (h : x (x q c1) k = x (x q d1) k) : c1 = d1 :=
  hx.right c1 d1 q c0 cc d0 dd q0 q1 (hx.left (x q c1) (x q d1) k (hx.bd q c1).1 (hx.bd q c1).2 (hx.bd q d1).1 (hx.bd q d1).2 k0 kk h)

/-- Of one key a round tells the counter that it was made of. -/
theorem phS_inj {s t : Ph} (hs : PhW s) (ht : PhW t) (hk0 : s.k0 = t.k0) (hk1 : s.k1 = t.k1)
    (h0 : (phS s).c0 = (phS t).c0) (h1 : (phS s).c1 = (phS t).c1) (h2 : (phS s).c2 = (phS t).c2) (h3 : (phS s).c3 = (phS t).c3) :
    s.c0 = t.c0 ∧ s.c1 = t.c1 ∧ s.c2 = t.c2 ∧ s.c3 = t.c3 := by
  have b0 := hs.b0
  have b1 := hs.b1
  have b2 := hs.b2
  have b3 := hs.b3
  have a0 := hs.a0
  have a1 := hs.a1
  have d0 := ht.b0
  have d1 := ht.b1
  have d2 := ht.b2
  have d3 := ht.b3
  have hx := xo_is
  simp only [phS] at h0 h1 h2 h3
  generalize xo = x at hx h0 h2
  obtain ⟨m, hm⟩ : ∃ m : Int, m = 3449720151 := ⟨_, rfl⟩
  obtain ⟨n, hn⟩ : ∃ n : Int, n = 3528531795 := ⟨_, rfl⟩
  rw [← hm] at h0 h1
  rw [← hn] at h2 h3
  have e2 : s.c2 = t.c2 := odd_cancel m 1836887655 s.c2 t.c2 (by omega) b2.1 b2.2 d2.1 d2.2 h1
  have e0 : s.c0 = t.c0 := odd_cancel n 2568649947 s.c0 t.c0 (by omega) b0.1 b0.2 d0.1 d0.2 h3
  rw [← e2, ← hk0] at h0
  rw [← e0, ← hk1] at h2
  have q0 : 0 ≤ s.c2 * m / 4294967296 ∧ s.c2 * m / 4294967296 ≤ 4294967295 := by rw [hm]; omega
  have q1 : 0 ≤ s.c0 * n / 4294967296 ∧ s.c0 * n / 4294967296 ≤ 4294967295 := by rw [hn]; omega
  exact ⟨e0, half_inj x hx _ s.c1 t.c1 s.k0 q0.1 q0.2 b1.1 b1.2 d1.1 d1.2 a0.1 a0.2 h0, e2, half_inj x hx _ s.c3 t.c3 s.k1 q1.1 q1.2 b3.1 b3.2 d3.1 d3.2 a1.1 a1.2 h2⟩

theorem phN_key (s t : Ph) (h0 : s.k0 = t.k0) (h1 : s.k1 = t.k1) : ∀ k, (phN s k).k0 = (phN t k).k0 ∧ (phN s k).k1 = (phN t k).k1
  | 0 => ⟨h0, h1⟩
  | k + 1 => by
    obtain ⟨a, b⟩ := phN_key s t h0 h1 k
    exact ⟨by show (_ + _) % _ = (_ + _) % _; rw [a], by show (_ + _) % _ = (_ + _) % _; rw [b]⟩

theorem phN_inj {s t : Ph} (hs : PhW s) (ht : PhW t) (hk0 : s.k0 = t.k0) (hk1 : s.k1 = t.k1) : ∀ k, (phN s k).c0 = (phN t k).c0 → (phN s k).c1 = (phN t k).c1 → (phN s k).c2 = (phN t k).c2 → (phN s k).c3 = (phN t k).c3 →
    s.c0 = t.c0 ∧ s.c1 = t.c1 ∧ s.c2 = t.c2 ∧ s.c3 = t.c3
  | 0 => fun a b c d => ⟨a, b, c, d⟩
  | k + 1 => fun a b c d => by
    obtain ⟨g0, g1⟩ := phN_key s t hk0 hk1 k
    obtain ⟨e0, e1, e2, e3⟩ := phS_inj (phN_word hs k) (phN_word ht k) g0 g1 a b c d
    exact phN_inj hs ht hk0 hk1 k e0 e1 e2 e3
end Go.Proofs.Ytjedegeajkpmaaa
