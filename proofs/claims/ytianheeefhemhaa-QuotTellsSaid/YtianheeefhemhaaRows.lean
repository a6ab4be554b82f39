/-
  No cell of these rows narrows 'for every input' (looked for: loops, veiled, ifaces, maps, wideKeys, modest, calm, conditions, laid).
  DERIVED. THE GIVEN ROWS OF THIS SEAT. 4 by the template 'for every input the law returns true; each argument reads behind the call as it read before'; 0 by the template 'total and deterministic' (their statements: YtianheeefhemhaaTotals.lean).
  GIVEN WITH THE SEED: the statements are not yours to turn. If you find one false, say at which input.
  Laid BY PROGRAM, IN A SANDBOX (cutbox-rows.mjs): the forced cells as the released guide's own fill.sh prints them over the translation 29604e32b5a3cb20… (all of the seat's roots in one cut). By AI agents, Wed Nov 11 2026. No macro, syntax, notation, axiom, sorry.
-/
import Derived.Test.YtianheeefhemhaaChecked
import GoSem.Claim
import GoSem.ClaimJoined
import GoSem.ClaimMapViews
import Derived.JoinedTies
import Derived.KernelRfl
namespace Go.Proofs.Ytianheeefhemhaa
/- THE CELL 'sum', in the pinned program and in every row, IS THE sha256 OF THE DUMP (.gsa) THAT YtianheeefhemhaaProg.lean LOADS. Nothing in Lean hashes anything: it is a label: what it is worth is what the hold of that sum in a sandbox is worth. -/
noncomputable def Try.pinned : Pinned := { name := "ytianheeefhemhaa", sum := "29604e32b5a3cb2018074e307c7ba104b763adeb3b27b380268ef185dda6a750", checked := Try.checked }
namespace Rows
def none {H : Type} : Left H := { results := [], args := [] }

/-- 'anneallaw6.QuotTells': WHATEVER THE INPUT: true; the input reads as it did. -/
def quotTellsSpec : ChangeSpec := { name := "quotTells", fn := fun _ => fun
  | [d1, d2, d3, d4, d5, d6] => { results := [.lit (.bool true)], args := [d1, d2, d3, d4, d5, d6] }
  | _ => none }
def quotTellsRow : OpenClaim := { program := "ytianheeefhemhaa", sum := "29604e32b5a3cb2018074e307c7ba104b763adeb3b27b380268ef185dda6a750", func := "anneal/anneallaw6.QuotTells", spec := "quotTells", apart := false }
def QuotTellsSaid : Prop := quotTellsRow.holds Try.pinned (OpenSpec.ofChange quotTellsSpec)

/-- ITS FALSE NEIGHBOUR: 'it returns false'. Refute it at one input. -/
def quotTellsWrong : ChangeSpec := { name := "quotTells", fn := fun _ => fun
  | [d1, d2, d3, d4, d5, d6] => { results := [.lit (.bool false)], args := [d1, d2, d3, d4, d5, d6] }
  | _ => none }
def QuotTellsWrongFalsely : Prop := quotTellsRow.holds Try.pinned (OpenSpec.ofChange quotTellsWrong)

/-- 'anneallaw6.QuotBack': WHATEVER THE INPUT: true; the input reads as it did. -/
def quotBackSpec : ChangeSpec := { name := "quotBack", fn := fun _ => fun
  | [d1, d2, d3, d4] => { results := [.lit (.bool true)], args := [d1, d2, d3, d4] }
  | _ => none }
def quotBackRow : OpenClaim := { program := "ytianheeefhemhaa", sum := "29604e32b5a3cb2018074e307c7ba104b763adeb3b27b380268ef185dda6a750", func := "anneal/anneallaw6.QuotBack", spec := "quotBack", apart := false }
def QuotBackSaid : Prop := quotBackRow.holds Try.pinned (OpenSpec.ofChange quotBackSpec)

/-- ITS FALSE NEIGHBOUR: 'it returns false'. Refute it at one input. -/
def quotBackWrong : ChangeSpec := { name := "quotBack", fn := fun _ => fun
  | [d1, d2, d3, d4] => { results := [.lit (.bool false)], args := [d1, d2, d3, d4] }
  | _ => none }
def QuotBackWrongFalsely : Prop := quotBackRow.holds Try.pinned (OpenSpec.ofChange quotBackWrong)

/-- 'anneallaw6.QuotOnes': WHATEVER THE INPUT: true; the input reads as it did. -/
def quotOnesSpec : ChangeSpec := { name := "quotOnes", fn := fun _ => fun
  | [d1, d2, d3, d4] => { results := [.lit (.bool true)], args := [d1, d2, d3, d4] }
  | _ => none }
def quotOnesRow : OpenClaim := { program := "ytianheeefhemhaa", sum := "29604e32b5a3cb2018074e307c7ba104b763adeb3b27b380268ef185dda6a750", func := "anneal/anneallaw6.QuotOnes", spec := "quotOnes", apart := false }
def QuotOnesSaid : Prop := quotOnesRow.holds Try.pinned (OpenSpec.ofChange quotOnesSpec)

/-- ITS FALSE NEIGHBOUR: 'it returns false'. Refute it at one input. -/
def quotOnesWrong : ChangeSpec := { name := "quotOnes", fn := fun _ => fun
  | [d1, d2, d3, d4] => { results := [.lit (.bool false)], args := [d1, d2, d3, d4] }
  | _ => none }
def QuotOnesWrongFalsely : Prop := quotOnesRow.holds Try.pinned (OpenSpec.ofChange quotOnesWrong)

/-- 'anneallaw6.QuotSides': WHATEVER THE INPUT: true; the input reads as it did. -/
def quotSidesSpec : ChangeSpec := { name := "quotSides", fn := fun _ => fun
  | [d1, d2] => { results := [.lit (.bool true)], args := [d1, d2] }
  | _ => none }
def quotSidesRow : OpenClaim := { program := "ytianheeefhemhaa", sum := "29604e32b5a3cb2018074e307c7ba104b763adeb3b27b380268ef185dda6a750", func := "anneal/anneallaw6.QuotSides", spec := "quotSides", apart := false }
def QuotSidesSaid : Prop := quotSidesRow.holds Try.pinned (OpenSpec.ofChange quotSidesSpec)

/-- ITS FALSE NEIGHBOUR: 'it returns false'. Refute it at one input. -/
def quotSidesWrong : ChangeSpec := { name := "quotSides", fn := fun _ => fun
  | [d1, d2] => { results := [.lit (.bool false)], args := [d1, d2] }
  | _ => none }
def QuotSidesWrongFalsely : Prop := quotSidesRow.holds Try.pinned (OpenSpec.ofChange quotSidesWrong)

/- THE SECOND FORM. 'bulk': how many values and letters a reading holds, each counted each time it is reached (what is shared counts as often as it is met; a slice's spare places count too). A statement '..UptoSaid' is the law's where the arguments, and the package variables that the reading takes, are together of bulk at most 1048576: NARROWER than '..Said'. Prove '..Said' where nothing that the law and all that it calls make is longer than what came in: it says more and counts as full. Else prove '..UptoSaid'. A law counts once. -/
mutual
def uptoBulk {H : Type} : DataW H → Nat
  | .lit (.string bytes) => bytes.length + 1
  | .lit _ => 1
  | .nil => 1
  | .ptr d => uptoBulk d + 1
  | .slice elems spare => uptoBulkAll elems + uptoBulkAll spare + 1
  | .agg parts => uptoBulkAll parts + 1
  | .iface _ d => uptoBulk d + 1
  | .map entries => uptoBulkEntries entries + 1
  | .held _ => 1
def uptoBulkAll {H : Type} : List (DataW H) → Nat
  | [] => 0
  | d :: r => uptoBulk d + uptoBulkAll r
def uptoBulkEntries {H : Type} : List (Lit × DataW H) → Nat
  | [] => 0
  | x :: r => uptoBulkEntry x + uptoBulkEntries r
def uptoBulkEntry {H : Type} : Lit × DataW H → Nat
  | (.string bytes, d) => bytes.length + uptoBulk d + 1
  | (_, d) => uptoBulk d + 1
 end
def uptoSmall : (H : Type) → List (DataW H) → Bool := fun _ ds => decide (uptoBulkAll ds ≤ 1048576)
def OpenSpec.upto (s : _root_.Go.ChangeSpec) : _root_.Go.OpenSpec := { _root_.Go.OpenSpec.ofChange s with cond := some uptoSmall }

/-- 'anneallaw6.QuotTells', WHERE WHAT IT READS IS OF BULK AT MOST 1048576: true; the input reads as it did. -/
def quotTellsUptoRow : OpenClaim := { program := "ytianheeefhemhaa", sum := "29604e32b5a3cb2018074e307c7ba104b763adeb3b27b380268ef185dda6a750", func := "anneal/anneallaw6.QuotTells", spec := "quotTells", apart := false, narrowed := true }
def QuotTellsUptoSaid : Prop := quotTellsUptoRow.holds Try.pinned (OpenSpec.upto quotTellsSpec)

/-- 'anneallaw6.QuotBack', WHERE WHAT IT READS IS OF BULK AT MOST 1048576: true; the input reads as it did. -/
def quotBackUptoRow : OpenClaim := { program := "ytianheeefhemhaa", sum := "29604e32b5a3cb2018074e307c7ba104b763adeb3b27b380268ef185dda6a750", func := "anneal/anneallaw6.QuotBack", spec := "quotBack", apart := false, narrowed := true }
def QuotBackUptoSaid : Prop := quotBackUptoRow.holds Try.pinned (OpenSpec.upto quotBackSpec)

/-- 'anneallaw6.QuotOnes', WHERE WHAT IT READS IS OF BULK AT MOST 1048576: true; the input reads as it did. -/
def quotOnesUptoRow : OpenClaim := { program := "ytianheeefhemhaa", sum := "29604e32b5a3cb2018074e307c7ba104b763adeb3b27b380268ef185dda6a750", func := "anneal/anneallaw6.QuotOnes", spec := "quotOnes", apart := false, narrowed := true }
def QuotOnesUptoSaid : Prop := quotOnesUptoRow.holds Try.pinned (OpenSpec.upto quotOnesSpec)

/-- 'anneallaw6.QuotSides', WHERE WHAT IT READS IS OF BULK AT MOST 1048576: true; the input reads as it did. -/
def quotSidesUptoRow : OpenClaim := { program := "ytianheeefhemhaa", sum := "29604e32b5a3cb2018074e307c7ba104b763adeb3b27b380268ef185dda6a750", func := "anneal/anneallaw6.QuotSides", spec := "quotSides", apart := false, narrowed := true }
def QuotSidesUptoSaid : Prop := quotSidesUptoRow.holds Try.pinned (OpenSpec.upto quotSidesSpec)

end Rows
end Go.Proofs.Ytianheeefhemhaa
