/-
  No cell of these rows narrows 'for every input' (looked for: loops, veiled, ifaces, maps, wideKeys, modest, calm, conditions, laid).
  DERIVED. THE GIVEN ROWS OF THIS SEAT. 8 by the template 'for every input the law returns true; each argument reads behind the call as it read before'; 0 by the template 'total and deterministic' (their statements: YtphmemopabgaeaaTotals.lean).
  GIVEN WITH THE SEED: the statements are not yours to turn. If you find one false, say at which input.
  Laid BY PROGRAM, IN A SANDBOX (cutbox-rows.mjs): the forced cells as the released guide's own fill.sh prints them over the translation daf66b3d0ed23e37… (all of the seat's roots in one cut). By AI agents, Wed Nov 11 2026. No macro, syntax, notation, axiom, sorry.
-/
import Derived.Test.YtphmemopabgaeaaChecked
import GoSem.Claim
import GoSem.ClaimJoined
import GoSem.ClaimMapViews
import Derived.JoinedTies
import Derived.KernelRfl
namespace Go.Proofs.Ytphmemopabgaeaa
/- THE CELL 'sum', in the pinned program and in every row, IS THE sha256 OF THE DUMP (.gsa) THAT YtphmemopabgaeaaProg.lean LOADS. Nothing in Lean hashes anything: it is a label: what it is worth is what the hold of that sum in a sandbox is worth. -/
noncomputable def Try.pinned : Pinned := { name := "ytphmemopabgaeaa", sum := "daf66b3d0ed23e379eda9f1d5f62ab18791f1bb030d50ccd7d0e6243ae590607", checked := Try.checked }
namespace Rows
def none {H : Type} : Left H := { results := [], args := [] }

/-- 'counterfoillaw07.VolsShapes': WHATEVER THE INPUT: true; the input reads as it did. -/
def volsShapesSpec : ChangeSpec := { name := "volsShapes", fn := fun _ => fun
  | [d1, d2, d3] => { results := [.lit (.bool true)], args := [d1, d2, d3] }
  | _ => none }
def volsShapesRow : OpenClaim := { program := "ytphmemopabgaeaa", sum := "daf66b3d0ed23e379eda9f1d5f62ab18791f1bb030d50ccd7d0e6243ae590607", func := "counterfoil/counterfoillaw07.VolsShapes", spec := "volsShapes", inPlace := ["slices.overlaps[counterfoil/api.Vol]"], unfollowed := true, recurses := true, apart := false }
def VolsShapesSaid : Prop := volsShapesRow.holds Try.pinned (OpenSpec.ofChange volsShapesSpec)

/-- ITS FALSE NEIGHBOUR: 'it returns false'. Refute it at one input. -/
def volsShapesWrong : ChangeSpec := { name := "volsShapes", fn := fun _ => fun
  | [d1, d2, d3] => { results := [.lit (.bool false)], args := [d1, d2, d3] }
  | _ => none }
def VolsShapesWrongFalsely : Prop := volsShapesRow.holds Try.pinned (OpenSpec.ofChange volsShapesWrong)

/-- 'counterfoillaw07.VolsGets': WHATEVER THE INPUT: true; the input reads as it did. -/
def volsGetsSpec : ChangeSpec := { name := "volsGets", fn := fun _ => fun
  | [d1, d2, d3] => { results := [.lit (.bool true)], args := [d1, d2, d3] }
  | _ => none }
def volsGetsRow : OpenClaim := { program := "ytphmemopabgaeaa", sum := "daf66b3d0ed23e379eda9f1d5f62ab18791f1bb030d50ccd7d0e6243ae590607", func := "counterfoil/counterfoillaw07.VolsGets", spec := "volsGets", inPlace := ["slices.overlaps[counterfoil/api.Vol]"], unfollowed := true, recurses := true, apart := false }
def VolsGetsSaid : Prop := volsGetsRow.holds Try.pinned (OpenSpec.ofChange volsGetsSpec)

/-- ITS FALSE NEIGHBOUR: 'it returns false'. Refute it at one input. -/
def volsGetsWrong : ChangeSpec := { name := "volsGets", fn := fun _ => fun
  | [d1, d2, d3] => { results := [.lit (.bool false)], args := [d1, d2, d3] }
  | _ => none }
def VolsGetsWrongFalsely : Prop := volsGetsRow.holds Try.pinned (OpenSpec.ofChange volsGetsWrong)

/-- 'counterfoillaw07.VolsApplies': WHATEVER THE INPUT: true; the input reads as it did. -/
def volsAppliesSpec : ChangeSpec := { name := "volsApplies", fn := fun _ => fun
  | [d1, d2] => { results := [.lit (.bool true)], args := [d1, d2] }
  | _ => none }
def volsAppliesRow : OpenClaim := { program := "ytphmemopabgaeaa", sum := "daf66b3d0ed23e379eda9f1d5f62ab18791f1bb030d50ccd7d0e6243ae590607", func := "counterfoil/counterfoillaw07.VolsApplies", spec := "volsApplies", inPlace := ["slices.overlaps[counterfoil/api.Vol]"], unfollowed := true, recurses := true, apart := false }
def VolsAppliesSaid : Prop := volsAppliesRow.holds Try.pinned (OpenSpec.ofChange volsAppliesSpec)

/-- ITS FALSE NEIGHBOUR: 'it returns false'. Refute it at one input. -/
def volsAppliesWrong : ChangeSpec := { name := "volsApplies", fn := fun _ => fun
  | [d1, d2] => { results := [.lit (.bool false)], args := [d1, d2] }
  | _ => none }
def VolsAppliesWrongFalsely : Prop := volsAppliesRow.holds Try.pinned (OpenSpec.ofChange volsAppliesWrong)

/-- 'counterfoillaw07.VolsSizes': WHATEVER THE INPUT: true; the input reads as it did. -/
def volsSizesSpec : ChangeSpec := { name := "volsSizes", fn := fun _ => fun
  | [d1, d2] => { results := [.lit (.bool true)], args := [d1, d2] }
  | _ => none }
def volsSizesRow : OpenClaim := { program := "ytphmemopabgaeaa", sum := "daf66b3d0ed23e379eda9f1d5f62ab18791f1bb030d50ccd7d0e6243ae590607", func := "counterfoil/counterfoillaw07.VolsSizes", spec := "volsSizes", inPlace := ["slices.overlaps[counterfoil/api.Vol]"], unfollowed := true, recurses := true, apart := false }
def VolsSizesSaid : Prop := volsSizesRow.holds Try.pinned (OpenSpec.ofChange volsSizesSpec)

/-- ITS FALSE NEIGHBOUR: 'it returns false'. Refute it at one input. -/
def volsSizesWrong : ChangeSpec := { name := "volsSizes", fn := fun _ => fun
  | [d1, d2] => { results := [.lit (.bool false)], args := [d1, d2] }
  | _ => none }
def VolsSizesWrongFalsely : Prop := volsSizesRow.holds Try.pinned (OpenSpec.ofChange volsSizesWrong)

/-- 'counterfoillaw07.VolsSame': WHATEVER THE INPUT: true; the input reads as it did. -/
def volsSameSpec : ChangeSpec := { name := "volsSame", fn := fun _ => fun
  | [d1, d2] => { results := [.lit (.bool true)], args := [d1, d2] }
  | _ => none }
def volsSameRow : OpenClaim := { program := "ytphmemopabgaeaa", sum := "daf66b3d0ed23e379eda9f1d5f62ab18791f1bb030d50ccd7d0e6243ae590607", func := "counterfoil/counterfoillaw07.VolsSame", spec := "volsSame", inPlace := ["slices.overlaps[counterfoil/api.Vol]"], unfollowed := true, recurses := true, apart := false }
def VolsSameSaid : Prop := volsSameRow.holds Try.pinned (OpenSpec.ofChange volsSameSpec)

/-- ITS FALSE NEIGHBOUR: 'it returns false'. Refute it at one input. -/
def volsSameWrong : ChangeSpec := { name := "volsSame", fn := fun _ => fun
  | [d1, d2] => { results := [.lit (.bool false)], args := [d1, d2] }
  | _ => none }
def VolsSameWrongFalsely : Prop := volsSameRow.holds Try.pinned (OpenSpec.ofChange volsSameWrong)

/-- 'counterfoillaw07.VolsStay': WHATEVER THE INPUT: true; the input reads as it did. -/
def volsStaySpec : ChangeSpec := { name := "volsStay", fn := fun _ => fun
  | [d1, d2, d3, d4] => { results := [.lit (.bool true)], args := [d1, d2, d3, d4] }
  | _ => none }
def volsStayRow : OpenClaim := { program := "ytphmemopabgaeaa", sum := "daf66b3d0ed23e379eda9f1d5f62ab18791f1bb030d50ccd7d0e6243ae590607", func := "counterfoil/counterfoillaw07.VolsStay", spec := "volsStay", inPlace := ["slices.overlaps[counterfoil/api.Vol]"], unfollowed := true, recurses := true, apart := false }
def VolsStaySaid : Prop := volsStayRow.holds Try.pinned (OpenSpec.ofChange volsStaySpec)

/-- ITS FALSE NEIGHBOUR: 'it returns false'. Refute it at one input. -/
def volsStayWrong : ChangeSpec := { name := "volsStay", fn := fun _ => fun
  | [d1, d2, d3, d4] => { results := [.lit (.bool false)], args := [d1, d2, d3, d4] }
  | _ => none }
def VolsStayWrongFalsely : Prop := volsStayRow.holds Try.pinned (OpenSpec.ofChange volsStayWrong)

/-- 'counterfoillaw07.VolsParts': WHATEVER THE INPUT: true; the input reads as it did. -/
def volsPartsSpec : ChangeSpec := { name := "volsParts", fn := fun _ => fun
  | [d1, d2, d3] => { results := [.lit (.bool true)], args := [d1, d2, d3] }
  | _ => none }
def volsPartsRow : OpenClaim := { program := "ytphmemopabgaeaa", sum := "daf66b3d0ed23e379eda9f1d5f62ab18791f1bb030d50ccd7d0e6243ae590607", func := "counterfoil/counterfoillaw07.VolsParts", spec := "volsParts", inPlace := ["slices.overlaps[counterfoil/api.Vol]"], unfollowed := true, recurses := true, apart := false }
def VolsPartsSaid : Prop := volsPartsRow.holds Try.pinned (OpenSpec.ofChange volsPartsSpec)

/-- ITS FALSE NEIGHBOUR: 'it returns false'. Refute it at one input. -/
def volsPartsWrong : ChangeSpec := { name := "volsParts", fn := fun _ => fun
  | [d1, d2, d3] => { results := [.lit (.bool false)], args := [d1, d2, d3] }
  | _ => none }
def VolsPartsWrongFalsely : Prop := volsPartsRow.holds Try.pinned (OpenSpec.ofChange volsPartsWrong)

/-- 'counterfoillaw07.VolsUndo': WHATEVER THE INPUT: true; the input reads as it did. -/
def volsUndoSpec : ChangeSpec := { name := "volsUndo", fn := fun _ => fun
  | [d1, d2, d3] => { results := [.lit (.bool true)], args := [d1, d2, d3] }
  | _ => none }
def volsUndoRow : OpenClaim := { program := "ytphmemopabgaeaa", sum := "daf66b3d0ed23e379eda9f1d5f62ab18791f1bb030d50ccd7d0e6243ae590607", func := "counterfoil/counterfoillaw07.VolsUndo", spec := "volsUndo", inPlace := ["slices.overlaps[counterfoil/api.Vol]"], unfollowed := true, recurses := true, apart := false }
def VolsUndoSaid : Prop := volsUndoRow.holds Try.pinned (OpenSpec.ofChange volsUndoSpec)

/-- ITS FALSE NEIGHBOUR: 'it returns false'. Refute it at one input. -/
def volsUndoWrong : ChangeSpec := { name := "volsUndo", fn := fun _ => fun
  | [d1, d2, d3] => { results := [.lit (.bool false)], args := [d1, d2, d3] }
  | _ => none }
def VolsUndoWrongFalsely : Prop := volsUndoRow.holds Try.pinned (OpenSpec.ofChange volsUndoWrong)

/- THE SECOND FORM. 'bulk': how many values and letters a reading holds, each counted each time it is reached (what is shared counts as often as it is met; a slice's spare places count too). A statement '..UptoSaid' is the law's where the arguments, and the package variables that the reading takes, are together of bulk at most 1048576: NARROWER than '..Said'. Prove '..Said' where nothing that the law and all that it calls make is longer than what came in: it says more and counts as full. Else prove '..UptoSaid'. A law counts once. -/
mutual
def uptoBulk {H : Type} : DataW H → Nat
  | .lit (.string bytes) => bytes.length + 1
  | .lit _ => 1
  | .nil => 1
  | .ptr d => uptoBulk d + 1
  | .slice elems spare => uptoBulkAll elems + uptoBulkAll spare + 1
  | .agg parts => uptoBulkAll parts + 1
  | .iface _ d => uptoBulk d + 1
  | .map entries => uptoBulkEntries entries + 1
  | .held _ => 1
def uptoBulkAll {H : Type} : List (DataW H) → Nat
  | [] => 0
  | d :: r => uptoBulk d + uptoBulkAll r
def uptoBulkEntries {H : Type} : List (Lit × DataW H) → Nat
  | [] => 0
  | x :: r => uptoBulkEntry x + uptoBulkEntries r
def uptoBulkEntry {H : Type} : Lit × DataW H → Nat
  | (.string bytes, d) => bytes.length + uptoBulk d + 1
  | (_, d) => uptoBulk d + 1
 end
def uptoSmall : (H : Type) → List (DataW H) → Bool := fun _ ds => decide (uptoBulkAll ds ≤ 1048576)
def OpenSpec.upto (s : _root_.Go.ChangeSpec) : _root_.Go.OpenSpec := { _root_.Go.OpenSpec.ofChange s with cond := some uptoSmall }

/-- 'counterfoillaw07.VolsShapes', WHERE WHAT IT READS IS OF BULK AT MOST 1048576: true; the input reads as it did. -/
def volsShapesUptoRow : OpenClaim := { program := "ytphmemopabgaeaa", sum := "daf66b3d0ed23e379eda9f1d5f62ab18791f1bb030d50ccd7d0e6243ae590607", func := "counterfoil/counterfoillaw07.VolsShapes", spec := "volsShapes", inPlace := ["slices.overlaps[counterfoil/api.Vol]"], unfollowed := true, recurses := true, apart := false, narrowed := true }
def VolsShapesUptoSaid : Prop := volsShapesUptoRow.holds Try.pinned (OpenSpec.upto volsShapesSpec)

/-- 'counterfoillaw07.VolsGets', WHERE WHAT IT READS IS OF BULK AT MOST 1048576: true; the input reads as it did. -/
def volsGetsUptoRow : OpenClaim := { program := "ytphmemopabgaeaa", sum := "daf66b3d0ed23e379eda9f1d5f62ab18791f1bb030d50ccd7d0e6243ae590607", func := "counterfoil/counterfoillaw07.VolsGets", spec := "volsGets", inPlace := ["slices.overlaps[counterfoil/api.Vol]"], unfollowed := true, recurses := true, apart := false, narrowed := true }
def VolsGetsUptoSaid : Prop := volsGetsUptoRow.holds Try.pinned (OpenSpec.upto volsGetsSpec)

/-- 'counterfoillaw07.VolsApplies', WHERE WHAT IT READS IS OF BULK AT MOST 1048576: true; the input reads as it did. -/
def volsAppliesUptoRow : OpenClaim := { program := "ytphmemopabgaeaa", sum := "daf66b3d0ed23e379eda9f1d5f62ab18791f1bb030d50ccd7d0e6243ae590607", func := "counterfoil/counterfoillaw07.VolsApplies", spec := "volsApplies", inPlace := ["slices.overlaps[counterfoil/api.Vol]"], unfollowed := true, recurses := true, apart := false, narrowed := true }
def VolsAppliesUptoSaid : Prop := volsAppliesUptoRow.holds Try.pinned (OpenSpec.upto volsAppliesSpec)

/-- 'counterfoillaw07.VolsSizes', WHERE WHAT IT READS IS OF BULK AT MOST 1048576: true; the input reads as it did. -/
def volsSizesUptoRow : OpenClaim := { program := "ytphmemopabgaeaa", sum := "daf66b3d0ed23e379eda9f1d5f62ab18791f1bb030d50ccd7d0e6243ae590607", func := "counterfoil/counterfoillaw07.VolsSizes", spec := "volsSizes", inPlace := ["slices.overlaps[counterfoil/api.Vol]"], unfollowed := true, recurses := true, apart := false, narrowed := true }
def VolsSizesUptoSaid : Prop := volsSizesUptoRow.holds Try.pinned (OpenSpec.upto volsSizesSpec)

/-- 'counterfoillaw07.VolsSame', WHERE WHAT IT READS IS OF BULK AT MOST 1048576: true; the input reads as it did. -/
def volsSameUptoRow : OpenClaim := { program := "ytphmemopabgaeaa", sum := "daf66b3d0ed23e379eda9f1d5f62ab18791f1bb030d50ccd7d0e6243ae590607", func := "counterfoil/counterfoillaw07.VolsSame", spec := "volsSame", inPlace := ["slices.overlaps[counterfoil/api.Vol]"], unfollowed := true, recurses := true, apart := false, narrowed := true }
def VolsSameUptoSaid : Prop := volsSameUptoRow.holds Try.pinned (OpenSpec.upto volsSameSpec)

/-- 'counterfoillaw07.VolsStay', WHERE WHAT IT READS IS OF BULK AT MOST 1048576: true; the input reads as it did. -/
def volsStayUptoRow : OpenClaim := { program := "ytphmemopabgaeaa", sum := "daf66b3d0ed23e379eda9f1d5f62ab18791f1bb030d50ccd7d0e6243ae590607", func := "counterfoil/counterfoillaw07.VolsStay", spec := "volsStay", inPlace := ["slices.overlaps[counterfoil/api.Vol]"], unfollowed := true, recurses := true, apart := false, narrowed := true }
def VolsStayUptoSaid : Prop := volsStayUptoRow.holds Try.pinned (OpenSpec.upto volsStaySpec)

/-- 'counterfoillaw07.VolsParts', WHERE WHAT IT READS IS OF BULK AT MOST 1048576: true; the input reads as it did. -/
def volsPartsUptoRow : OpenClaim := { program := "ytphmemopabgaeaa", sum := "daf66b3d0ed23e379eda9f1d5f62ab18791f1bb030d50ccd7d0e6243ae590607", func := "counterfoil/counterfoillaw07.VolsParts", spec := "volsParts", inPlace := ["slices.overlaps[counterfoil/api.Vol]"], unfollowed := true, recurses := true, apart := false, narrowed := true }
def VolsPartsUptoSaid : Prop := volsPartsUptoRow.holds Try.pinned (OpenSpec.upto volsPartsSpec)

/-- 'counterfoillaw07.VolsUndo', WHERE WHAT IT READS IS OF BULK AT MOST 1048576: true; the input reads as it did. -/
def volsUndoUptoRow : OpenClaim := { program := "ytphmemopabgaeaa", sum := "daf66b3d0ed23e379eda9f1d5f62ab18791f1bb030d50ccd7d0e6243ae590607", func := "counterfoil/counterfoillaw07.VolsUndo", spec := "volsUndo", inPlace := ["slices.overlaps[counterfoil/api.Vol]"], unfollowed := true, recurses := true, apart := false, narrowed := true }
def VolsUndoUptoSaid : Prop := volsUndoUptoRow.holds Try.pinned (OpenSpec.upto volsUndoSpec)

end Rows
end Go.Proofs.Ytphmemopabgaeaa
