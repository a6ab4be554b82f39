/- The contract of annealref13's product. The contracts of annealref13's Plain, Rows, Cols. -/
import Derived.Test.YtmipefapjehkaaaGreatRKern
namespace Go.Proofs.YtmipefapjehkaaaGreat
open Go.RowKit
set_option linter.unusedVariables false
set_option linter.unusedSimpArgs false

/-- Where the numbers of a row or a column lie. -/
def ixI (t : Bool) (C i x : Nat) : Nat := if t then x * C + i else i * C + x

/-- The number at i, j of a product. -/
def prodV (a b : PT) (ta tb : Bool) (k i j : Nat) : Int :=
  dotV (fun x => widV a.F a.g (ixI ta a.C.toNat i x)) (fun x => widV b.F b.g (ixI (!tb) b.C.toNat j x)) k

def prodM (a : PT) (ta : Bool) : Int := if ta then a.C else a.R

def prodK (a : PT) (ta : Bool) : Int := if ta then a.R else a.C

def prodOk (a b : PT) (ta tb : Bool) : Bool := a.right && b.right && (prodK a ta == prodM b tb)

def prodT (a b : PT) (ta tb : Bool) : PT :=
  if prodOk a b ta tb then ⟨prodM a ta, prodK b tb, 2, (prodM a ta).toNat * (prodK b tb).toNat, fun t => prodV a b ta tb (prodK a ta).toNat (t / (prodK b tb).toNat) (t % (prodK b tb).toNat)⟩ else PT.bad

def prodX (a b : PT) (ta tb : Bool) : Int := if prodOk a b ta tb then 0 else 21

/-- What holds of the product's memory: its two tensors', its result's, its own tensor's blocks, its row with k numbers reckoned. -/
structure PS (w : World) (B nb ob M : Nat) (a0 a1 a2 a3 b0 b1 b2 b3 m n fv : Value) (G : Nat → Int) (k : Nat) (W : World) : Prop where
  g : Grown w W
  t1 : TenAt B a0 a1 a2 a3 W
  t2 : TenAt (B + 1) b0 b1 b2 b3 W
  t3 : TenAt (B + 1 + 1) (.int .i64 0) (.int .i64 0) (.int .i64 0) (.slice none 0 0) W
  t4 : TenAt ob m n fv (.slice (some ⟨nb, 0, none⟩) M M) W
  f : Filled nb M G k W
  o : B + 1 + 1 < nb
  o2 : B + 1 + 1 < ob
  ne : nb ≠ ob
  s : w.heap.size ≤ B

section
variable {w : World} {B nb ob M : Nat} {a0 a1 a2 a3 b0 b1 b2 b3 m n fv : Value} {G : Nat → Int} {k : Nat} {W : World}

theorem PS.grown {W' : World} (h : PS w B nb ob M a0 a1 a2 a3 b0 b1 b2 b3 m n fv G k W) (g : Grown W W') : PS w B nb ob M a0 a1 a2 a3 b0 b1 b2 b3 m n fv G k W' :=
  ⟨grown_trans h.g g, h.t1.grown g, h.t2.grown g, h.t3.grown g, h.t4.grown g, h.f.grown g, h.o, h.o2, h.ne, h.s⟩

theorem PS.set (h : PS w B nb ob M a0 a1 a2 a3 b0 b1 b2 b3 m n fv G k W) (hk : k < M) : PS w B nb ob M a0 a1 a2 a3 b0 b1 b2 b3 m n fv G (k + 1) (W.setCell ⟨nb, k, none⟩ (.int .u32 (G k))) :=
  ⟨Grown.setCell h.g (by have := h.o; have := h.s; show w.heap.size ≤ nb; omega) _, h.t1.set (by have := h.o; show B ≠ nb; omega) _, h.t2.set (by have := h.o; show B + 1 ≠ nb; omega) _, h.t3.set (by have := h.o; show B + 1 + 1 ≠ nb; omega) _,
    h.t4.set (by have := h.ne; show ob ≠ nb; omega) _, h.f.set hk, h.o, h.o2, h.ne, h.s⟩
end

def ProdOut (P : Nat → World → Prop) (m n : Nat) (i : Value) (wr : World) : Prop := ∃ I : Nat, I ≤ m ∧ i = .int .i64 I ∧ P (I * n) wr

def ProdIn (P : Nat → World → Prop) (n d : Nat) (j : Value) (wr : World) : Prop := ∃ J : Nat, J ≤ n ∧ j = .int .i64 J ∧ P (d + J) wr

def ProdDot (P : World → Prop) (g h : Nat → Int) (k : Nat) (s x : Value) (wr : World) : Prop :=
  ∃ X : Nat, X ≤ k ∧ x = .int .i64 X ∧ s = .int .u32 (dotV g h X) ∧ 0 ≤ dotV g h X ∧ dotV g h X ≤ 4294967295 ∧ P wr

theorem prod_no (a b : PT) (ta tb : Bool) (h : prodOk a b ta tb = false) : prodT a b ta tb = PT.bad ∧ prodX a b ta tb = 21 := by
  unfold prodT prodX; rw [h]; exact ⟨rfl, rfl⟩

theorem prod_yes (a b : PT) (ta tb : Bool) (h : prodOk a b ta tb = true) (m n k : Nat) (hm : prodM a ta = m) (hn : prodK b tb = n) (hk : prodK a ta = k) :
    prodT a b ta tb = ⟨m, n, 2, m * n, fun t => dotV (fun x => widV a.F a.g (ixI ta a.C.toNat (t / n) x)) (fun x => widV b.F b.g (ixI (!tb) b.C.toNat (t % n) x)) k⟩ ∧ prodX a b ta tb = 0 := by
  unfold prodT prodX; rw [h, hm, hn, hk]; exact ⟨rfl, rfl⟩

end Go.Proofs.YtmipefapjehkaaaGreat
