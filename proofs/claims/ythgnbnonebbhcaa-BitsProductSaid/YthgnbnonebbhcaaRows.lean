/-
  No cell of these rows narrows 'for every input' (looked for: loops, veiled, ifaces, maps, wideKeys, modest, calm, conditions, laid).
  DERIVED. THE GIVEN ROWS OF THIS SEAT. 6 by the template 'for every input the law returns true; each argument reads behind the call as it read before'; 0 by the template 'total and deterministic' (their statements: YthgnbnonebbhcaaTotals.lean).
  GIVEN WITH THE SEED: the statements are not yours to turn. If you find one false, say at which input.
  Laid BY PROGRAM, IN A SANDBOX (cutbox-rows.mjs): the forced cells as the released guide's own fill.sh prints them over the translation c62c135941b2526f… (all of the seat's roots in one cut). By AI agents, Wed Nov 11 2026. No macro, syntax, notation, axiom, sorry.
-/
import Derived.Test.YthgnbnonebbhcaaChecked
import GoSem.Claim
import GoSem.ClaimJoined
import GoSem.ClaimMapViews
import Derived.JoinedTies
import Derived.KernelRfl
namespace Go.Proofs.Ythgnbnonebbhcaa
/- THE CELL 'sum', in the pinned program and in every row, IS THE sha256 OF THE DUMP (.gsa) THAT YthgnbnonebbhcaaProg.lean LOADS. Nothing in Lean hashes anything: it is a label: what it is worth is what the hold of that sum in a sandbox is worth. -/
noncomputable def Try.pinned : Pinned := { name := "ythgnbnonebbhcaa", sum := "c62c135941b2526f2f9c52ab0e6141ce8d77900eaf1836a51f9f5773ef704e9b", checked := Try.checked }
namespace Rows
def none {H : Type} : Left H := { results := [], args := [] }

/-- 'anneallaw1.BitsTell': WHATEVER THE INPUT: true; the input reads as it did. -/
def bitsTellSpec : ChangeSpec := { name := "bitsTell", fn := fun _ => fun
  | [d1, d2, d3] => { results := [.lit (.bool true)], args := [d1, d2, d3] }
  | _ => none }
def bitsTellRow : OpenClaim := { program := "ythgnbnonebbhcaa", sum := "c62c135941b2526f2f9c52ab0e6141ce8d77900eaf1836a51f9f5773ef704e9b", func := "anneal/anneallaw1.BitsTell", spec := "bitsTell", apart := false }
def BitsTellSaid : Prop := bitsTellRow.holds Try.pinned (OpenSpec.ofChange bitsTellSpec)

/-- ITS FALSE NEIGHBOUR: 'it returns false'. Refute it at one input. -/
def bitsTellWrong : ChangeSpec := { name := "bitsTell", fn := fun _ => fun
  | [d1, d2, d3] => { results := [.lit (.bool false)], args := [d1, d2, d3] }
  | _ => none }
def BitsTellWrongFalsely : Prop := bitsTellRow.holds Try.pinned (OpenSpec.ofChange bitsTellWrong)

/-- 'anneallaw1.BitsReckon': WHATEVER THE INPUT: true; the input reads as it did. -/
def bitsReckonSpec : ChangeSpec := { name := "bitsReckon", fn := fun _ => fun
  | [d1, d2, d3, d4, d5] => { results := [.lit (.bool true)], args := [d1, d2, d3, d4, d5] }
  | _ => none }
def bitsReckonRow : OpenClaim := { program := "ythgnbnonebbhcaa", sum := "c62c135941b2526f2f9c52ab0e6141ce8d77900eaf1836a51f9f5773ef704e9b", func := "anneal/anneallaw1.BitsReckon", spec := "bitsReckon", apart := false }
def BitsReckonSaid : Prop := bitsReckonRow.holds Try.pinned (OpenSpec.ofChange bitsReckonSpec)

/-- ITS FALSE NEIGHBOUR: 'it returns false'. Refute it at one input. -/
def bitsReckonWrong : ChangeSpec := { name := "bitsReckon", fn := fun _ => fun
  | [d1, d2, d3, d4, d5] => { results := [.lit (.bool false)], args := [d1, d2, d3, d4, d5] }
  | _ => none }
def BitsReckonWrongFalsely : Prop := bitsReckonRow.holds Try.pinned (OpenSpec.ofChange bitsReckonWrong)

/-- 'anneallaw1.BitsBack': WHATEVER THE INPUT: true; the input reads as it did. -/
def bitsBackSpec : ChangeSpec := { name := "bitsBack", fn := fun _ => fun
  | [d1, d2] => { results := [.lit (.bool true)], args := [d1, d2] }
  | _ => none }
def bitsBackRow : OpenClaim := { program := "ythgnbnonebbhcaa", sum := "c62c135941b2526f2f9c52ab0e6141ce8d77900eaf1836a51f9f5773ef704e9b", func := "anneal/anneallaw1.BitsBack", spec := "bitsBack", apart := false }
def BitsBackSaid : Prop := bitsBackRow.holds Try.pinned (OpenSpec.ofChange bitsBackSpec)

/-- ITS FALSE NEIGHBOUR: 'it returns false'. Refute it at one input. -/
def bitsBackWrong : ChangeSpec := { name := "bitsBack", fn := fun _ => fun
  | [d1, d2] => { results := [.lit (.bool false)], args := [d1, d2] }
  | _ => none }
def BitsBackWrongFalsely : Prop := bitsBackRow.holds Try.pinned (OpenSpec.ofChange bitsBackWrong)

/-- 'anneallaw1.BitsRoot': WHATEVER THE INPUT: true; the input reads as it did. -/
def bitsRootSpec : ChangeSpec := { name := "bitsRoot", fn := fun _ => fun
  | [d1, d2] => { results := [.lit (.bool true)], args := [d1, d2] }
  | _ => none }
def bitsRootRow : OpenClaim := { program := "ythgnbnonebbhcaa", sum := "c62c135941b2526f2f9c52ab0e6141ce8d77900eaf1836a51f9f5773ef704e9b", func := "anneal/anneallaw1.BitsRoot", spec := "bitsRoot", apart := false }
def BitsRootSaid : Prop := bitsRootRow.holds Try.pinned (OpenSpec.ofChange bitsRootSpec)

/-- ITS FALSE NEIGHBOUR: 'it returns false'. Refute it at one input. -/
def bitsRootWrong : ChangeSpec := { name := "bitsRoot", fn := fun _ => fun
  | [d1, d2] => { results := [.lit (.bool false)], args := [d1, d2] }
  | _ => none }
def BitsRootWrongFalsely : Prop := bitsRootRow.holds Try.pinned (OpenSpec.ofChange bitsRootWrong)

/-- 'anneallaw1.BitsTurn': WHATEVER THE INPUT: true; the input reads as it did. -/
def bitsTurnSpec : ChangeSpec := { name := "bitsTurn", fn := fun _ => fun
  | [d1, d2, d3] => { results := [.lit (.bool true)], args := [d1, d2, d3] }
  | _ => none }
def bitsTurnRow : OpenClaim := { program := "ythgnbnonebbhcaa", sum := "c62c135941b2526f2f9c52ab0e6141ce8d77900eaf1836a51f9f5773ef704e9b", func := "anneal/anneallaw1.BitsTurn", spec := "bitsTurn", apart := false }
def BitsTurnSaid : Prop := bitsTurnRow.holds Try.pinned (OpenSpec.ofChange bitsTurnSpec)

/-- ITS FALSE NEIGHBOUR: 'it returns false'. Refute it at one input. -/
def bitsTurnWrong : ChangeSpec := { name := "bitsTurn", fn := fun _ => fun
  | [d1, d2, d3] => { results := [.lit (.bool false)], args := [d1, d2, d3] }
  | _ => none }
def BitsTurnWrongFalsely : Prop := bitsTurnRow.holds Try.pinned (OpenSpec.ofChange bitsTurnWrong)

/-- 'anneallaw1.BitsProduct': WHATEVER THE INPUT: true; the input reads as it did. -/
def bitsProductSpec : ChangeSpec := { name := "bitsProduct", fn := fun _ => fun
  | [d1, d2] => { results := [.lit (.bool true)], args := [d1, d2] }
  | _ => none }
def bitsProductRow : OpenClaim := { program := "ythgnbnonebbhcaa", sum := "c62c135941b2526f2f9c52ab0e6141ce8d77900eaf1836a51f9f5773ef704e9b", func := "anneal/anneallaw1.BitsProduct", spec := "bitsProduct", apart := false }
def BitsProductSaid : Prop := bitsProductRow.holds Try.pinned (OpenSpec.ofChange bitsProductSpec)

/-- ITS FALSE NEIGHBOUR: 'it returns false'. Refute it at one input. -/
def bitsProductWrong : ChangeSpec := { name := "bitsProduct", fn := fun _ => fun
  | [d1, d2] => { results := [.lit (.bool false)], args := [d1, d2] }
  | _ => none }
def BitsProductWrongFalsely : Prop := bitsProductRow.holds Try.pinned (OpenSpec.ofChange bitsProductWrong)

/- THE SECOND FORM. 'bulk': how many values and letters a reading holds, each counted each time it is reached (what is shared counts as often as it is met; a slice's spare places count too). A statement '..UptoSaid' is the law's where the arguments, and the package variables that the reading takes, are together of bulk at most 1048576: NARROWER than '..Said'. Prove '..Said' where nothing that the law and all that it calls make is longer than what came in: it says more and counts as full. Else prove '..UptoSaid'. A law counts once. -/
mutual
def uptoBulk {H : Type} : DataW H → Nat
  | .lit (.string bytes) => bytes.length + 1
  | .lit _ => 1
  | .nil => 1
  | .ptr d => uptoBulk d + 1
  | .slice elems spare => uptoBulkAll elems + uptoBulkAll spare + 1
  | .agg parts => uptoBulkAll parts + 1
  | .iface _ d => uptoBulk d + 1
  | .map entries => uptoBulkEntries entries + 1
  | .held _ => 1
def uptoBulkAll {H : Type} : List (DataW H) → Nat
  | [] => 0
  | d :: r => uptoBulk d + uptoBulkAll r
def uptoBulkEntries {H : Type} : List (Lit × DataW H) → Nat
  | [] => 0
  | x :: r => uptoBulkEntry x + uptoBulkEntries r
def uptoBulkEntry {H : Type} : Lit × DataW H → Nat
  | (.string bytes, d) => bytes.length + uptoBulk d + 1
  | (_, d) => uptoBulk d + 1
 end
def uptoSmall : (H : Type) → List (DataW H) → Bool := fun _ ds => decide (uptoBulkAll ds ≤ 1048576)
def OpenSpec.upto (s : _root_.Go.ChangeSpec) : _root_.Go.OpenSpec := { _root_.Go.OpenSpec.ofChange s with cond := some uptoSmall }

/-- 'anneallaw1.BitsTell', WHERE WHAT IT READS IS OF BULK AT MOST 1048576: true; the input reads as it did. -/
def bitsTellUptoRow : OpenClaim := { program := "ythgnbnonebbhcaa", sum := "c62c135941b2526f2f9c52ab0e6141ce8d77900eaf1836a51f9f5773ef704e9b", func := "anneal/anneallaw1.BitsTell", spec := "bitsTell", apart := false, narrowed := true }
def BitsTellUptoSaid : Prop := bitsTellUptoRow.holds Try.pinned (OpenSpec.upto bitsTellSpec)

/-- 'anneallaw1.BitsReckon', WHERE WHAT IT READS IS OF BULK AT MOST 1048576: true; the input reads as it did. -/
def bitsReckonUptoRow : OpenClaim := { program := "ythgnbnonebbhcaa", sum := "c62c135941b2526f2f9c52ab0e6141ce8d77900eaf1836a51f9f5773ef704e9b", func := "anneal/anneallaw1.BitsReckon", spec := "bitsReckon", apart := false, narrowed := true }
def BitsReckonUptoSaid : Prop := bitsReckonUptoRow.holds Try.pinned (OpenSpec.upto bitsReckonSpec)

/-- 'anneallaw1.BitsBack', WHERE WHAT IT READS IS OF BULK AT MOST 1048576: true; the input reads as it did. -/
def bitsBackUptoRow : OpenClaim := { program := "ythgnbnonebbhcaa", sum := "c62c135941b2526f2f9c52ab0e6141ce8d77900eaf1836a51f9f5773ef704e9b", func := "anneal/anneallaw1.BitsBack", spec := "bitsBack", apart := false, narrowed := true }
def BitsBackUptoSaid : Prop := bitsBackUptoRow.holds Try.pinned (OpenSpec.upto bitsBackSpec)

/-- 'anneallaw1.BitsRoot', WHERE WHAT IT READS IS OF BULK AT MOST 1048576: true; the input reads as it did. -/
def bitsRootUptoRow : OpenClaim := { program := "ythgnbnonebbhcaa", sum := "c62c135941b2526f2f9c52ab0e6141ce8d77900eaf1836a51f9f5773ef704e9b", func := "anneal/anneallaw1.BitsRoot", spec := "bitsRoot", apart := false, narrowed := true }
def BitsRootUptoSaid : Prop := bitsRootUptoRow.holds Try.pinned (OpenSpec.upto bitsRootSpec)

/-- 'anneallaw1.BitsTurn', WHERE WHAT IT READS IS OF BULK AT MOST 1048576: true; the input reads as it did. -/
def bitsTurnUptoRow : OpenClaim := { program := "ythgnbnonebbhcaa", sum := "c62c135941b2526f2f9c52ab0e6141ce8d77900eaf1836a51f9f5773ef704e9b", func := "anneal/anneallaw1.BitsTurn", spec := "bitsTurn", apart := false, narrowed := true }
def BitsTurnUptoSaid : Prop := bitsTurnUptoRow.holds Try.pinned (OpenSpec.upto bitsTurnSpec)

/-- 'anneallaw1.BitsProduct', WHERE WHAT IT READS IS OF BULK AT MOST 1048576: true; the input reads as it did. -/
def bitsProductUptoRow : OpenClaim := { program := "ythgnbnonebbhcaa", sum := "c62c135941b2526f2f9c52ab0e6141ce8d77900eaf1836a51f9f5773ef704e9b", func := "anneal/anneallaw1.BitsProduct", spec := "bitsProduct", apart := false, narrowed := true }
def BitsProductUptoSaid : Prop := bitsProductUptoRow.holds Try.pinned (OpenSpec.upto bitsProductSpec)

end Rows
end Go.Proofs.Ythgnbnonebbhcaa
