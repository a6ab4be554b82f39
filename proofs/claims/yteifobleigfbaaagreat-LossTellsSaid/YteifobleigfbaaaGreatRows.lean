/-
  No cell of these rows narrows 'for every input' (looked for: loops, veiled, ifaces, maps, wideKeys, modest, calm, conditions, laid).
  DERIVED. THE GIVEN ROWS OF THIS SEAT. 4 by the template 'for every input the law returns true; each argument reads behind the call as it read before'; 0 by the template 'total and deterministic' (their statements: YteifobleigfbaaaGreatTotals.lean).
  GIVEN WITH THE SEED: the statements are not yours to turn. If you find one false, say at which input.
  Laid BY PROGRAM, IN A SANDBOX (cutbox-rows.mjs): the forced cells as the released guide's own fill.sh prints them over the translation 14ce3261ab3ec041… (all of the seat's roots in one cut). By AI agents, Wed Nov 11 2026. No macro, syntax, notation, axiom, sorry.
-/
import Derived.Test.YteifobleigfbaaaGreatChecked
import GoSem.Claim
import GoSem.ClaimJoined
import GoSem.ClaimMapViews
import Derived.JoinedTies
import Derived.KernelRfl
namespace Go.Proofs.YteifobleigfbaaaGreat
/- THE CELL 'sum', in the pinned program and in every row, IS THE sha256 OF THE DUMP (.gsa) THAT YteifobleigfbaaaGreatProg.lean LOADS. Nothing in Lean hashes anything: it is a label: what it is worth is what the hold of that sum in a sandbox is worth. -/
noncomputable def Tryz.pinned : Pinned := { name := "yteifobleigfbaaagreat", sum := "14ce3261ab3ec041d98f4bff3892dec99b3a8cabebf52f5a933f7c1169526aa4", checked := Tryz.checked }
namespace Rows
def none {H : Type} : Left H := { results := [], args := [] }

/-- 'anneallaw16.LossTells': WHATEVER THE INPUT: true; the input reads as it did. -/
def lossTellsSpec : ChangeSpec := { name := "lossTells", fn := fun _ => fun
  | [d1, d2, d3, d4, d5, d6, d7, d8] => { results := [.lit (.bool true)], args := [d1, d2, d3, d4, d5, d6, d7, d8] }
  | _ => none }
def lossTellsRow : OpenClaim := { program := "yteifobleigfbaaagreat", sum := "14ce3261ab3ec041d98f4bff3892dec99b3a8cabebf52f5a933f7c1169526aa4", func := "anneal/anneallaw16.LossTells", spec := "lossTells", unfollowed := true, recurses := true, apart := false }
def LossTellsSaid : Prop := lossTellsRow.holds Tryz.pinned (OpenSpec.ofChange lossTellsSpec)

/-- ITS FALSE NEIGHBOUR: 'it returns false'. Refute it at one input. -/
def lossTellsWrong : ChangeSpec := { name := "lossTells", fn := fun _ => fun
  | [d1, d2, d3, d4, d5, d6, d7, d8] => { results := [.lit (.bool false)], args := [d1, d2, d3, d4, d5, d6, d7, d8] }
  | _ => none }
def LossTellsWrongFalsely : Prop := lossTellsRow.holds Tryz.pinned (OpenSpec.ofChange lossTellsWrong)

/-- 'anneallaw16.LossWays': WHATEVER THE INPUT: true; the input reads as it did. -/
def lossWaysSpec : ChangeSpec := { name := "lossWays", fn := fun _ => fun
  | [d1, d2, d3] => { results := [.lit (.bool true)], args := [d1, d2, d3] }
  | _ => none }
def lossWaysRow : OpenClaim := { program := "yteifobleigfbaaagreat", sum := "14ce3261ab3ec041d98f4bff3892dec99b3a8cabebf52f5a933f7c1169526aa4", func := "anneal/anneallaw16.LossWays", spec := "lossWays", unfollowed := true, recurses := true, apart := false }
def LossWaysSaid : Prop := lossWaysRow.holds Tryz.pinned (OpenSpec.ofChange lossWaysSpec)

/-- ITS FALSE NEIGHBOUR: 'it returns false'. Refute it at one input. -/
def lossWaysWrong : ChangeSpec := { name := "lossWays", fn := fun _ => fun
  | [d1, d2, d3] => { results := [.lit (.bool false)], args := [d1, d2, d3] }
  | _ => none }
def LossWaysWrongFalsely : Prop := lossWaysRow.holds Tryz.pinned (OpenSpec.ofChange lossWaysWrong)

/-- 'anneallaw16.LossMse': WHATEVER THE INPUT: true; the input reads as it did. -/
def lossMseSpec : ChangeSpec := { name := "lossMse", fn := fun _ => fun
  | [d1, d2, d3, d4] => { results := [.lit (.bool true)], args := [d1, d2, d3, d4] }
  | _ => none }
def lossMseRow : OpenClaim := { program := "yteifobleigfbaaagreat", sum := "14ce3261ab3ec041d98f4bff3892dec99b3a8cabebf52f5a933f7c1169526aa4", func := "anneal/anneallaw16.LossMse", spec := "lossMse", unfollowed := true, recurses := true, apart := false }
def LossMseSaid : Prop := lossMseRow.holds Tryz.pinned (OpenSpec.ofChange lossMseSpec)

/-- ITS FALSE NEIGHBOUR: 'it returns false'. Refute it at one input. -/
def lossMseWrong : ChangeSpec := { name := "lossMse", fn := fun _ => fun
  | [d1, d2, d3, d4] => { results := [.lit (.bool false)], args := [d1, d2, d3, d4] }
  | _ => none }
def LossMseWrongFalsely : Prop := lossMseRow.holds Tryz.pinned (OpenSpec.ofChange lossMseWrong)

/-- 'anneallaw16.LossRefuses': WHATEVER THE INPUT: true; the input reads as it did. -/
def lossRefusesSpec : ChangeSpec := { name := "lossRefuses", fn := fun _ => fun
  | [d1, d2, d3, d4] => { results := [.lit (.bool true)], args := [d1, d2, d3, d4] }
  | _ => none }
def lossRefusesRow : OpenClaim := { program := "yteifobleigfbaaagreat", sum := "14ce3261ab3ec041d98f4bff3892dec99b3a8cabebf52f5a933f7c1169526aa4", func := "anneal/anneallaw16.LossRefuses", spec := "lossRefuses", unfollowed := true, recurses := true, apart := false }
def LossRefusesSaid : Prop := lossRefusesRow.holds Tryz.pinned (OpenSpec.ofChange lossRefusesSpec)

/-- ITS FALSE NEIGHBOUR: 'it returns false'. Refute it at one input. -/
def lossRefusesWrong : ChangeSpec := { name := "lossRefuses", fn := fun _ => fun
  | [d1, d2, d3, d4] => { results := [.lit (.bool false)], args := [d1, d2, d3, d4] }
  | _ => none }
def LossRefusesWrongFalsely : Prop := lossRefusesRow.holds Tryz.pinned (OpenSpec.ofChange lossRefusesWrong)

/- THE SECOND FORM. 'bulk': how many values and letters a reading holds, each counted each time it is reached (what is shared counts as often as it is met; a slice's spare places count too). A statement '..UptoSaid' is the law's where the arguments, and the package variables that the reading takes, are together of bulk at most 1048576: NARROWER than '..Said'. Prove '..Said' where nothing that the law and all that it calls make is longer than what came in: it says more and counts as full. Else prove '..UptoSaid'. A law counts once. -/
mutual
def uptoBulk {H : Type} : DataW H → Nat
  | .lit (.string bytes) => bytes.length + 1
  | .lit _ => 1
  | .nil => 1
  | .ptr d => uptoBulk d + 1
  | .slice elems spare => uptoBulkAll elems + uptoBulkAll spare + 1
  | .agg parts => uptoBulkAll parts + 1
  | .iface _ d => uptoBulk d + 1
  | .map entries => uptoBulkEntries entries + 1
  | .held _ => 1
def uptoBulkAll {H : Type} : List (DataW H) → Nat
  | [] => 0
  | d :: r => uptoBulk d + uptoBulkAll r
def uptoBulkEntries {H : Type} : List (Lit × DataW H) → Nat
  | [] => 0
  | x :: r => uptoBulkEntry x + uptoBulkEntries r
def uptoBulkEntry {H : Type} : Lit × DataW H → Nat
  | (.string bytes, d) => bytes.length + uptoBulk d + 1
  | (_, d) => uptoBulk d + 1
 end
def uptoSmall : (H : Type) → List (DataW H) → Bool := fun _ ds => decide (uptoBulkAll ds ≤ 1048576)
def OpenSpec.upto (s : _root_.Go.ChangeSpec) : _root_.Go.OpenSpec := { _root_.Go.OpenSpec.ofChange s with cond := some uptoSmall }

/-- 'anneallaw16.LossTells', WHERE WHAT IT READS IS OF BULK AT MOST 1048576: true; the input reads as it did. -/
def lossTellsUptoRow : OpenClaim := { program := "yteifobleigfbaaagreat", sum := "14ce3261ab3ec041d98f4bff3892dec99b3a8cabebf52f5a933f7c1169526aa4", func := "anneal/anneallaw16.LossTells", spec := "lossTells", unfollowed := true, recurses := true, apart := false, narrowed := true }
def LossTellsUptoSaid : Prop := lossTellsUptoRow.holds Tryz.pinned (OpenSpec.upto lossTellsSpec)

/-- 'anneallaw16.LossWays', WHERE WHAT IT READS IS OF BULK AT MOST 1048576: true; the input reads as it did. -/
def lossWaysUptoRow : OpenClaim := { program := "yteifobleigfbaaagreat", sum := "14ce3261ab3ec041d98f4bff3892dec99b3a8cabebf52f5a933f7c1169526aa4", func := "anneal/anneallaw16.LossWays", spec := "lossWays", unfollowed := true, recurses := true, apart := false, narrowed := true }
def LossWaysUptoSaid : Prop := lossWaysUptoRow.holds Tryz.pinned (OpenSpec.upto lossWaysSpec)

/-- 'anneallaw16.LossMse', WHERE WHAT IT READS IS OF BULK AT MOST 1048576: true; the input reads as it did. -/
def lossMseUptoRow : OpenClaim := { program := "yteifobleigfbaaagreat", sum := "14ce3261ab3ec041d98f4bff3892dec99b3a8cabebf52f5a933f7c1169526aa4", func := "anneal/anneallaw16.LossMse", spec := "lossMse", unfollowed := true, recurses := true, apart := false, narrowed := true }
def LossMseUptoSaid : Prop := lossMseUptoRow.holds Tryz.pinned (OpenSpec.upto lossMseSpec)

/-- 'anneallaw16.LossRefuses', WHERE WHAT IT READS IS OF BULK AT MOST 1048576: true; the input reads as it did. -/
def lossRefusesUptoRow : OpenClaim := { program := "yteifobleigfbaaagreat", sum := "14ce3261ab3ec041d98f4bff3892dec99b3a8cabebf52f5a933f7c1169526aa4", func := "anneal/anneallaw16.LossRefuses", spec := "lossRefuses", unfollowed := true, recurses := true, apart := false, narrowed := true }
def LossRefusesUptoSaid : Prop := lossRefusesUptoRow.holds Tryz.pinned (OpenSpec.upto lossRefusesSpec)

end Rows
end Go.Proofs.YteifobleigfbaaaGreat
