/- A number below one, of 24 bits (the reference's Uniform; its bits as plain numbers). -/
import Derived.Test.YtjedegeajkpmaaaRows
import Derived.Test.YtjedegeajkpmaaaConMath
import Derived.Test.YtjedegeajkpmaaaPhiMath
import Derived.Test.YtjedegeajkpmaaaRRdT
import Derived.Test.YtjedegeajkpmaaaWorld
import Derived.KernelRfl
namespace Go.Proofs.Ytjedegeajkpmaaa
open Go.RowKit
set_option linter.unusedVariables false
set_option linter.unusedSimpArgs false

/-- q times 2 to -24, as a Single. -/
def uniI (q : Int) : Int := if q = 0 then 0 else (101 + lenI q) * 8388608 + q * 2 ^ (24 - lenI q).toNat

theorem uni_parts (q : Int) (q0 : 0 < q) (q1 : q < 16777216) :
    1 ≤ lenI q ∧ lenI q ≤ 24 ∧ 8388608 ≤ q * 2 ^ (24 - lenI q).toNat ∧ q * 2 ^ (24 - lenI q).toNat < 16777216 := by
  obtain ⟨Q, hQ⟩ : ∃ Q : Nat, q = Q := ⟨q.toNat, by omega⟩
  subst hQ
  have hl := len_log (Q : Int) q0
  rw [Int.toNat_natCast] at hl
  have a := Nat.log2_self_le (n := Q) (by omega)
  have b := Nat.lt_log2_self (n := Q)
  have c : Q.log2 < 24 := (Nat.log2_lt (by omega)).2 (by omega)
  rw [hl]
  have e : (24 - ((Q.log2 : Int) + 1)).toNat = 23 - Q.log2 := by omega
  have p := Nat.mul_le_mul_right (2 ^ (23 - Q.log2)) a
  have p' := Nat.mul_lt_mul_of_pos_right b (p2 (23 - Q.log2))
  rw [← Nat.pow_add, show Q.log2 + (23 - Q.log2) = 23 by omega] at p
  rw [← Nat.pow_add, show Q.log2 + 1 + (23 - Q.log2) = 24 by omega] at p'
  have cast : ((Q * 2 ^ (23 - Q.log2) : Nat) : Int) = (Q : Int) * 2 ^ (24 - ((Q.log2 : Int) + 1)).toNat := by
    rw [e, Int.natCast_mul, ← pow2_cast]
  rw [← cast]
  refine ⟨by omega, by omega, by omega, by omega⟩

theorem uni_num (q : Int) (q0 : 0 ≤ q) (q1 : q < 16777216) : 0 ≤ uniI q ∧ uniI q < 1065353216 ∧ finI 2 (uniI q) = true ∧ fS 2 (uniI q) = false ∧ (uniI q = 0 ↔ q = 0) ∧ numN 2 (uniI q) = q.toNat * 2 ^ (-24 + 10100 : Int).toNat := by
  by_cases c : q = 0
  · subst c
    have h : uniI 0 = 0 := rfl
    rw [h]
    refine ⟨by omega, by omega, by decide, by decide, by simp, ?_⟩
    have : unM 2 0 = 0 := by decide
    have key : ∀ A B : Nat, (0 : Int).toNat * A = (0 : Int).toNat * B := fun A B => by rw [show (0 : Int).toNat = 0 from rfl, Nat.zero_mul, Nat.zero_mul]
    unfold numN; rw [this]
    generalize (2 : Nat) ^ (unE 2 0 + 10100).toNat = A
    generalize (2 : Nat) ^ (-24 + 10100 : Int).toNat = B
    exact key A B
  · obtain ⟨l0, l1, m0, m1⟩ := uni_parts q (by omega) q1
    obtain ⟨L, hL⟩ : ∃ L, lenI q = L := ⟨_, rfl⟩
    rw [hL] at l0 l1 m0 m1
    have hu : uniI q = (101 + L) * 8388608 + q * 2 ^ (24 - L).toNat := by unfold uniI; rw [if_neg c, hL]
    obtain ⟨P, hP⟩ : ∃ P : Int, q * 2 ^ (24 - L).toNat = P := ⟨_, rfl⟩
    rw [hP] at hu m0 m1
    have hh : hid 2 = 8388608 := by decide
    have ht : topx 2 = 255 := by decide
    have hl : lst 2 = -149 := by decide
    obtain ⟨p1, p2', p3, p4, p5, p6, p7⟩ := parts_make 2 false (102 + L) (P - 8388608) (uniI q) (by omega) (by omega) (by omega) (by omega) (by rw [hu, hh]; unfold zerI; simp; omega)
    obtain ⟨r1, r2, r3, r4, r5⟩ := norm_parts 2 _ _ _ p1 p2' (by omega) (by omega)
    refine ⟨p4, by omega, p7, p3, by omega, ?_⟩
    unfold numN
    rw [r4, r5, hh, hl]
    obtain ⟨Q, hQ⟩ : ∃ Q : Nat, q = Q := ⟨q.toNat, by omega⟩
    subst hQ
    have hPn : (P - 8388608 + 8388608).toNat = Q * 2 ^ (24 - L).toNat := by
      rw [Int.sub_add_cancel, ← hP, pow2_cast, ← Int.natCast_mul, Int.toNat_natCast]
    rw [hPn, Nat.mul_assoc, ← Nat.pow_add, Int.toNat_natCast]
    rw [show (24 - L).toNat + (-149 + (102 + L) - 1 + 10100).toNat = (-24 + 10100 : Int).toNat by omega]

/-- What Pack makes of it. -/
theorem uni_pack (q : Int) (q0 : 0 ≤ q) (q1 : q < 16777216) :
    PackE 2 0 false (valN (clampE (-24)) q false) = .returned (.tuple #[.int .u32 (uniI q), .agg #[.bool false, .bool false, .bool false, .bool false, .bool false]]) := by
  obtain ⟨a, b, c, d, e, g⟩ := uni_num q q0 q1
  have hv : valN (clampE (-24)) q false = numN 2 (uniI q) := by
    rw [g]; unfold valN clampE; rw [if_neg (by omega), if_neg (by omega), Bool.toNat_false, Nat.add_zero]
  have hm : msk 2 = 4294967295 := by decide
  have := num_pack 2 0 (uniI q) a (by omega) c
  rw [d] at this
  rw [hv, this]

theorem uni_key (q : Int) (q0 : 0 ≤ q) (q1 : q < 16777216) : lesB 2 (uniI q) 0 = false := by
  obtain ⟨a, b, c, d, e, g⟩ := uni_num q q0 q1
  cases h : lesB 2 (uniI q) 0
  · rfl
  · exfalso
    have := ((les_is 2 (uniI q) 0).1 h).2.2.2
    rw [key_a, key_a, d] at this
    have h0 := (a_bd 2 (uniI q)).1
    have h1 : aN 2 0 = 0 := by decide
    have h2 : fS 2 0 = false := by decide
    rw [h2, h1] at this
    simp at this
    omega

set_option maxHeartbeats 1000000 in
theorem runi_any (v : Int) (w : World) (v0 : 0 ≤ v) (v1 : v ≤ 4294967295) :
    Calls Try.prog 15 #[.int .u32 v] w fun e w' => e = .returned (.int .u32 (uniI (v / 256))) ∧ Grown w w' := by
  have q0 : 0 ≤ v / 256 := by omega
  have q1 : v / 256 < 16777216 := by omega
  have HP := Lib.hid (uni_pack (v / 256) q0 q1)
  have e1 : v / 256 % 18446744073709551616 = v / 256 := by omega
  have e2 : IntKind.u64.wrap (v / 256) = v / 256 := by rw [IntKind.wrap_u64]; omega
  obtain ⟨q, hq⟩ : ∃ q, v / 256 = q := ⟨_, rfl⟩
  rw [hq] at HP q0 q1 e1 e2
  rw [hq]
  go_enter Try.func15, Try.ntmps15
  go_wp2_with fail
  refine (rpack_any 2 0 false (-24) q false _ (by omega) (by omega) (by omega) (by omega)).mono ?_
  rintro e W1 ⟨he, hW⟩
  rw [HP.out] at he
  subst he
  have HG := Lib.hid hW
  clear hW
  go_wp2
  go_ret
  exact ⟨rfl, by repeat (first | with_reducible exact HG.out | with_reducible refine Grown.alloc ?_ _ _)⟩
end Go.Proofs.Ytjedegeajkpmaaa
