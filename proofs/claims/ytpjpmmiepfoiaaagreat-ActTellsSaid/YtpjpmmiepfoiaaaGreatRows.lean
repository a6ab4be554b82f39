/-
  No cell of these rows narrows 'for every input' (looked for: loops, veiled, ifaces, maps, wideKeys, modest, calm, conditions, laid).
  DERIVED. THE GIVEN ROWS OF THIS SEAT. 5 by the template 'for every input the law returns true; each argument reads behind the call as it read before'; 0 by the template 'total and deterministic' (their statements: YtpjpmmiepfoiaaaGreatTotals.lean).
  GIVEN WITH THE SEED: the statements are not yours to turn. If you find one false, say at which input.
  Laid BY PROGRAM, IN A SANDBOX (cutbox-rows.mjs): the forced cells as the released guide's own fill.sh prints them over the translation 3c3a140735380463… (all of the seat's roots in one cut). By AI agents, Wed Nov 11 2026. No macro, syntax, notation, axiom, sorry.
-/
import Derived.Test.YtpjpmmiepfoiaaaGreatChecked
import GoSem.Claim
import GoSem.ClaimJoined
import GoSem.ClaimMapViews
import Derived.JoinedTies
import Derived.KernelRfl
namespace Go.Proofs.YtpjpmmiepfoiaaaGreat
/- THE CELL 'sum', in the pinned program and in every row, IS THE sha256 OF THE DUMP (.gsa) THAT YtpjpmmiepfoiaaaGreatProg.lean LOADS. Nothing in Lean hashes anything: it is a label: what it is worth is what the hold of that sum in a sandbox is worth. -/
noncomputable def Tryz.pinned : Pinned := { name := "ytpjpmmiepfoiaaagreat", sum := "3c3a1407353804635e82b7fc9a95a11ba517a729e574921a3f00b1a23211a00d", checked := Tryz.checked }
namespace Rows
def none {H : Type} : Left H := { results := [], args := [] }

/-- 'anneallaw15.ActTells': WHATEVER THE INPUT: true; the input reads as it did. -/
def actTellsSpec : ChangeSpec := { name := "actTells", fn := fun _ => fun
  | [d1, d2, d3, d4, d5, d6, d7, d8, d9, d10] => { results := [.lit (.bool true)], args := [d1, d2, d3, d4, d5, d6, d7, d8, d9, d10] }
  | _ => none }
def actTellsRow : OpenClaim := { program := "ytpjpmmiepfoiaaagreat", sum := "3c3a1407353804635e82b7fc9a95a11ba517a729e574921a3f00b1a23211a00d", func := "anneal/anneallaw15.ActTells", spec := "actTells", unfollowed := true, recurses := true, apart := false }
def ActTellsSaid : Prop := actTellsRow.holds Tryz.pinned (OpenSpec.ofChange actTellsSpec)

/-- ITS FALSE NEIGHBOUR: 'it returns false'. Refute it at one input. -/
def actTellsWrong : ChangeSpec := { name := "actTells", fn := fun _ => fun
  | [d1, d2, d3, d4, d5, d6, d7, d8, d9, d10] => { results := [.lit (.bool false)], args := [d1, d2, d3, d4, d5, d6, d7, d8, d9, d10] }
  | _ => none }
def ActTellsWrongFalsely : Prop := actTellsRow.holds Tryz.pinned (OpenSpec.ofChange actTellsWrong)

/-- 'anneallaw15.ActMasks': WHATEVER THE INPUT: true; the input reads as it did. -/
def actMasksSpec : ChangeSpec := { name := "actMasks", fn := fun _ => fun
  | [d1, d2, d3, d4, d5, d6, d7] => { results := [.lit (.bool true)], args := [d1, d2, d3, d4, d5, d6, d7] }
  | _ => none }
def actMasksRow : OpenClaim := { program := "ytpjpmmiepfoiaaagreat", sum := "3c3a1407353804635e82b7fc9a95a11ba517a729e574921a3f00b1a23211a00d", func := "anneal/anneallaw15.ActMasks", spec := "actMasks", unfollowed := true, recurses := true, apart := false }
def ActMasksSaid : Prop := actMasksRow.holds Tryz.pinned (OpenSpec.ofChange actMasksSpec)

/-- ITS FALSE NEIGHBOUR: 'it returns false'. Refute it at one input. -/
def actMasksWrong : ChangeSpec := { name := "actMasks", fn := fun _ => fun
  | [d1, d2, d3, d4, d5, d6, d7] => { results := [.lit (.bool false)], args := [d1, d2, d3, d4, d5, d6, d7] }
  | _ => none }
def ActMasksWrongFalsely : Prop := actMasksRow.holds Tryz.pinned (OpenSpec.ofChange actMasksWrong)

/-- 'anneallaw15.ActRelus': WHATEVER THE INPUT: true; the input reads as it did. -/
def actRelusSpec : ChangeSpec := { name := "actRelus", fn := fun _ => fun
  | [d] => { results := [.lit (.bool true)], args := [d] }
  | _ => none }
def actRelusRow : OpenClaim := { program := "ytpjpmmiepfoiaaagreat", sum := "3c3a1407353804635e82b7fc9a95a11ba517a729e574921a3f00b1a23211a00d", func := "anneal/anneallaw15.ActRelus", spec := "actRelus", unfollowed := true, recurses := true, apart := false }
def ActRelusSaid : Prop := actRelusRow.holds Tryz.pinned (OpenSpec.ofChange actRelusSpec)

/-- ITS FALSE NEIGHBOUR: 'it returns false'. Refute it at one input. -/
def actRelusWrong : ChangeSpec := { name := "actRelus", fn := fun _ => fun
  | [d] => { results := [.lit (.bool false)], args := [d] }
  | _ => none }
def ActRelusWrongFalsely : Prop := actRelusRow.holds Tryz.pinned (OpenSpec.ofChange actRelusWrong)

/-- 'anneallaw15.ActShapes': WHATEVER THE INPUT: true; the input reads as it did. -/
def actShapesSpec : ChangeSpec := { name := "actShapes", fn := fun _ => fun
  | [d1, d2, d3, d4, d5] => { results := [.lit (.bool true)], args := [d1, d2, d3, d4, d5] }
  | _ => none }
def actShapesRow : OpenClaim := { program := "ytpjpmmiepfoiaaagreat", sum := "3c3a1407353804635e82b7fc9a95a11ba517a729e574921a3f00b1a23211a00d", func := "anneal/anneallaw15.ActShapes", spec := "actShapes", unfollowed := true, recurses := true, apart := false }
def ActShapesSaid : Prop := actShapesRow.holds Tryz.pinned (OpenSpec.ofChange actShapesSpec)

/-- ITS FALSE NEIGHBOUR: 'it returns false'. Refute it at one input. -/
def actShapesWrong : ChangeSpec := { name := "actShapes", fn := fun _ => fun
  | [d1, d2, d3, d4, d5] => { results := [.lit (.bool false)], args := [d1, d2, d3, d4, d5] }
  | _ => none }
def ActShapesWrongFalsely : Prop := actShapesRow.holds Tryz.pinned (OpenSpec.ofChange actShapesWrong)

/-- 'anneallaw15.ActDrops': WHATEVER THE INPUT: true; the input reads as it did. -/
def actDropsSpec : ChangeSpec := { name := "actDrops", fn := fun _ => fun
  | [d1, d2, d3, d4, d5] => { results := [.lit (.bool true)], args := [d1, d2, d3, d4, d5] }
  | _ => none }
def actDropsRow : OpenClaim := { program := "ytpjpmmiepfoiaaagreat", sum := "3c3a1407353804635e82b7fc9a95a11ba517a729e574921a3f00b1a23211a00d", func := "anneal/anneallaw15.ActDrops", spec := "actDrops", unfollowed := true, recurses := true, apart := false }
def ActDropsSaid : Prop := actDropsRow.holds Tryz.pinned (OpenSpec.ofChange actDropsSpec)

/-- ITS FALSE NEIGHBOUR: 'it returns false'. Refute it at one input. -/
def actDropsWrong : ChangeSpec := { name := "actDrops", fn := fun _ => fun
  | [d1, d2, d3, d4, d5] => { results := [.lit (.bool false)], args := [d1, d2, d3, d4, d5] }
  | _ => none }
def ActDropsWrongFalsely : Prop := actDropsRow.holds Tryz.pinned (OpenSpec.ofChange actDropsWrong)

/- THE SECOND FORM. 'bulk': how many values and letters a reading holds, each counted each time it is reached (what is shared counts as often as it is met; a slice's spare places count too). A statement '..UptoSaid' is the law's where the arguments, and the package variables that the reading takes, are together of bulk at most 1048576: NARROWER than '..Said'. Prove '..Said' where nothing that the law and all that it calls make is longer than what came in: it says more and counts as full. Else prove '..UptoSaid'. A law counts once. -/
mutual
def uptoBulk {H : Type} : DataW H → Nat
  | .lit (.string bytes) => bytes.length + 1
  | .lit _ => 1
  | .nil => 1
  | .ptr d => uptoBulk d + 1
  | .slice elems spare => uptoBulkAll elems + uptoBulkAll spare + 1
  | .agg parts => uptoBulkAll parts + 1
  | .iface _ d => uptoBulk d + 1
  | .map entries => uptoBulkEntries entries + 1
  | .held _ => 1
def uptoBulkAll {H : Type} : List (DataW H) → Nat
  | [] => 0
  | d :: r => uptoBulk d + uptoBulkAll r
def uptoBulkEntries {H : Type} : List (Lit × DataW H) → Nat
  | [] => 0
  | x :: r => uptoBulkEntry x + uptoBulkEntries r
def uptoBulkEntry {H : Type} : Lit × DataW H → Nat
  | (.string bytes, d) => bytes.length + uptoBulk d + 1
  | (_, d) => uptoBulk d + 1
 end
def uptoSmall : (H : Type) → List (DataW H) → Bool := fun _ ds => decide (uptoBulkAll ds ≤ 1048576)
def OpenSpec.upto (s : _root_.Go.ChangeSpec) : _root_.Go.OpenSpec := { _root_.Go.OpenSpec.ofChange s with cond := some uptoSmall }

/-- 'anneallaw15.ActTells', WHERE WHAT IT READS IS OF BULK AT MOST 1048576: true; the input reads as it did. -/
def actTellsUptoRow : OpenClaim := { program := "ytpjpmmiepfoiaaagreat", sum := "3c3a1407353804635e82b7fc9a95a11ba517a729e574921a3f00b1a23211a00d", func := "anneal/anneallaw15.ActTells", spec := "actTells", unfollowed := true, recurses := true, apart := false, narrowed := true }
def ActTellsUptoSaid : Prop := actTellsUptoRow.holds Tryz.pinned (OpenSpec.upto actTellsSpec)

/-- 'anneallaw15.ActMasks', WHERE WHAT IT READS IS OF BULK AT MOST 1048576: true; the input reads as it did. -/
def actMasksUptoRow : OpenClaim := { program := "ytpjpmmiepfoiaaagreat", sum := "3c3a1407353804635e82b7fc9a95a11ba517a729e574921a3f00b1a23211a00d", func := "anneal/anneallaw15.ActMasks", spec := "actMasks", unfollowed := true, recurses := true, apart := false, narrowed := true }
def ActMasksUptoSaid : Prop := actMasksUptoRow.holds Tryz.pinned (OpenSpec.upto actMasksSpec)

/-- 'anneallaw15.ActRelus', WHERE WHAT IT READS IS OF BULK AT MOST 1048576: true; the input reads as it did. -/
def actRelusUptoRow : OpenClaim := { program := "ytpjpmmiepfoiaaagreat", sum := "3c3a1407353804635e82b7fc9a95a11ba517a729e574921a3f00b1a23211a00d", func := "anneal/anneallaw15.ActRelus", spec := "actRelus", unfollowed := true, recurses := true, apart := false, narrowed := true }
def ActRelusUptoSaid : Prop := actRelusUptoRow.holds Tryz.pinned (OpenSpec.upto actRelusSpec)

/-- 'anneallaw15.ActShapes', WHERE WHAT IT READS IS OF BULK AT MOST 1048576: true; the input reads as it did. -/
def actShapesUptoRow : OpenClaim := { program := "ytpjpmmiepfoiaaagreat", sum := "3c3a1407353804635e82b7fc9a95a11ba517a729e574921a3f00b1a23211a00d", func := "anneal/anneallaw15.ActShapes", spec := "actShapes", unfollowed := true, recurses := true, apart := false, narrowed := true }
def ActShapesUptoSaid : Prop := actShapesUptoRow.holds Tryz.pinned (OpenSpec.upto actShapesSpec)

/-- 'anneallaw15.ActDrops', WHERE WHAT IT READS IS OF BULK AT MOST 1048576: true; the input reads as it did. -/
def actDropsUptoRow : OpenClaim := { program := "ytpjpmmiepfoiaaagreat", sum := "3c3a1407353804635e82b7fc9a95a11ba517a729e574921a3f00b1a23211a00d", func := "anneal/anneallaw15.ActDrops", spec := "actDrops", unfollowed := true, recurses := true, apart := false, narrowed := true }
def ActDropsUptoSaid : Prop := actDropsUptoRow.holds Tryz.pinned (OpenSpec.upto actDropsSpec)

end Rows
end Go.Proofs.YtpjpmmiepfoiaaaGreat
