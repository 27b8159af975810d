/-
  No cell of these rows narrows 'for every input' (looked for: loops, veiled, ifaces, maps, wideKeys, modest, calm, conditions, laid).
  DERIVED. THE GIVEN ROWS OF THIS SEAT. 5 by the template 'for every input the law returns true; each argument reads behind the call as it read before'; 0 by the template 'total and deterministic' (their statements: YtaenlcokgplgkaaTotals.lean).
  GIVEN WITH THE SEED: the statements are not yours to turn. If you find one false, say at which input.
  Laid BY PROGRAM, IN A SANDBOX (cutbox-rows.mjs): the forced cells as the released guide's own fill.sh prints them over the translation 2f4e51edf45230c5… (all of the seat's roots in one cut). By AI agents, Wed Nov 11 2026. No macro, syntax, notation, axiom, sorry.
-/
import Derived.Test.YtaenlcokgplgkaaChecked
import GoSem.Claim
import GoSem.ClaimJoined
import GoSem.ClaimMapViews
import Derived.JoinedTies
import Derived.KernelRfl
namespace Go.Proofs.Ytaenlcokgplgkaa
/- THE CELL 'sum', in the pinned program and in every row, IS THE sha256 OF THE DUMP (.gsa) THAT YtaenlcokgplgkaaProg.lean LOADS. Nothing in Lean hashes anything: it is a label: what it is worth is what the hold of that sum in a sandbox is worth. -/
noncomputable def Try.pinned : Pinned := { name := "ytaenlcokgplgkaa", sum := "2f4e51edf45230c51d110b68c4cfe7c40b101ba70fa89f299a62e0f432709048", checked := Try.checked }
namespace Rows
def none {H : Type} : Left H := { results := [], args := [] }

/-- 'counterfoillaw09.SnapNotes': WHATEVER THE INPUT: true; the input reads as it did. -/
def snapNotesSpec : ChangeSpec := { name := "snapNotes", fn := fun _ => fun
  | [d1, d2, d3, d4] => { results := [.lit (.bool true)], args := [d1, d2, d3, d4] }
  | _ => none }
def snapNotesRow : OpenClaim := { program := "ytaenlcokgplgkaa", sum := "2f4e51edf45230c51d110b68c4cfe7c40b101ba70fa89f299a62e0f432709048", func := "counterfoil/counterfoillaw09.SnapNotes", spec := "snapNotes", unfollowed := true, recurses := true, apart := false }
def SnapNotesSaid : Prop := snapNotesRow.holds Try.pinned (OpenSpec.ofChange snapNotesSpec)

/-- ITS FALSE NEIGHBOUR: 'it returns false'. Refute it at one input. -/
def snapNotesWrong : ChangeSpec := { name := "snapNotes", fn := fun _ => fun
  | [d1, d2, d3, d4] => { results := [.lit (.bool false)], args := [d1, d2, d3, d4] }
  | _ => none }
def SnapNotesWrongFalsely : Prop := snapNotesRow.holds Try.pinned (OpenSpec.ofChange snapNotesWrong)

/-- 'counterfoillaw09.SnapReads': WHATEVER THE INPUT: true; the input reads as it did. -/
def snapReadsSpec : ChangeSpec := { name := "snapReads", fn := fun _ => fun
  | [d1, d2, d3, d4] => { results := [.lit (.bool true)], args := [d1, d2, d3, d4] }
  | _ => none }
def snapReadsRow : OpenClaim := { program := "ytaenlcokgplgkaa", sum := "2f4e51edf45230c51d110b68c4cfe7c40b101ba70fa89f299a62e0f432709048", func := "counterfoil/counterfoillaw09.SnapReads", spec := "snapReads", unfollowed := true, recurses := true, apart := false }
def SnapReadsSaid : Prop := snapReadsRow.holds Try.pinned (OpenSpec.ofChange snapReadsSpec)

/-- ITS FALSE NEIGHBOUR: 'it returns false'. Refute it at one input. -/
def snapReadsWrong : ChangeSpec := { name := "snapReads", fn := fun _ => fun
  | [d1, d2, d3, d4] => { results := [.lit (.bool false)], args := [d1, d2, d3, d4] }
  | _ => none }
def SnapReadsWrongFalsely : Prop := snapReadsRow.holds Try.pinned (OpenSpec.ofChange snapReadsWrong)

/-- 'counterfoillaw09.SnapStays': WHATEVER THE INPUT: true; the input reads as it did. -/
def snapStaysSpec : ChangeSpec := { name := "snapStays", fn := fun _ => fun
  | [d1, d2, d3] => { results := [.lit (.bool true)], args := [d1, d2, d3] }
  | _ => none }
def snapStaysRow : OpenClaim := { program := "ytaenlcokgplgkaa", sum := "2f4e51edf45230c51d110b68c4cfe7c40b101ba70fa89f299a62e0f432709048", func := "counterfoil/counterfoillaw09.SnapStays", spec := "snapStays", unfollowed := true, recurses := true, apart := false }
def SnapStaysSaid : Prop := snapStaysRow.holds Try.pinned (OpenSpec.ofChange snapStaysSpec)

/-- ITS FALSE NEIGHBOUR: 'it returns false'. Refute it at one input. -/
def snapStaysWrong : ChangeSpec := { name := "snapStays", fn := fun _ => fun
  | [d1, d2, d3] => { results := [.lit (.bool false)], args := [d1, d2, d3] }
  | _ => none }
def SnapStaysWrongFalsely : Prop := snapStaysRow.holds Try.pinned (OpenSpec.ofChange snapStaysWrong)

/-- 'counterfoillaw09.SnapRoom': WHATEVER THE INPUT: true; the input reads as it did. -/
def snapRoomSpec : ChangeSpec := { name := "snapRoom", fn := fun _ => fun
  | [d1, d2, d3] => { results := [.lit (.bool true)], args := [d1, d2, d3] }
  | _ => none }
def snapRoomRow : OpenClaim := { program := "ytaenlcokgplgkaa", sum := "2f4e51edf45230c51d110b68c4cfe7c40b101ba70fa89f299a62e0f432709048", func := "counterfoil/counterfoillaw09.SnapRoom", spec := "snapRoom", unfollowed := true, recurses := true, apart := false }
def SnapRoomSaid : Prop := snapRoomRow.holds Try.pinned (OpenSpec.ofChange snapRoomSpec)

/-- ITS FALSE NEIGHBOUR: 'it returns false'. Refute it at one input. -/
def snapRoomWrong : ChangeSpec := { name := "snapRoom", fn := fun _ => fun
  | [d1, d2, d3] => { results := [.lit (.bool false)], args := [d1, d2, d3] }
  | _ => none }
def SnapRoomWrongFalsely : Prop := snapRoomRow.holds Try.pinned (OpenSpec.ofChange snapRoomWrong)

/-- 'counterfoillaw09.SnapAlike': WHATEVER THE INPUT: true; the input reads as it did. -/
def snapAlikeSpec : ChangeSpec := { name := "snapAlike", fn := fun _ => fun
  | [d1, d2, d3, d4] => { results := [.lit (.bool true)], args := [d1, d2, d3, d4] }
  | _ => none }
def snapAlikeRow : OpenClaim := { program := "ytaenlcokgplgkaa", sum := "2f4e51edf45230c51d110b68c4cfe7c40b101ba70fa89f299a62e0f432709048", func := "counterfoil/counterfoillaw09.SnapAlike", spec := "snapAlike", unfollowed := true, recurses := true, apart := false }
def SnapAlikeSaid : Prop := snapAlikeRow.holds Try.pinned (OpenSpec.ofChange snapAlikeSpec)

/-- ITS FALSE NEIGHBOUR: 'it returns false'. Refute it at one input. -/
def snapAlikeWrong : ChangeSpec := { name := "snapAlike", fn := fun _ => fun
  | [d1, d2, d3, d4] => { results := [.lit (.bool false)], args := [d1, d2, d3, d4] }
  | _ => none }
def SnapAlikeWrongFalsely : Prop := snapAlikeRow.holds Try.pinned (OpenSpec.ofChange snapAlikeWrong)

/- THE SECOND FORM. 'bulk': how many values and letters a reading holds, each counted each time it is reached (what is shared counts as often as it is met; a slice's spare places count too). A statement '..UptoSaid' is the law's where the arguments, and the package variables that the reading takes, are together of bulk at most 1048576: NARROWER than '..Said'. Prove '..Said' where nothing that the law and all that it calls make is longer than what came in: it says more and counts as full. Else prove '..UptoSaid'. A law counts once. -/
mutual
def uptoBulk {H : Type} : DataW H → Nat
  | .lit (.string bytes) => bytes.length + 1
  | .lit _ => 1
  | .nil => 1
  | .ptr d => uptoBulk d + 1
  | .slice elems spare => uptoBulkAll elems + uptoBulkAll spare + 1
  | .agg parts => uptoBulkAll parts + 1
  | .iface _ d => uptoBulk d + 1
  | .map entries => uptoBulkEntries entries + 1
  | .held _ => 1
def uptoBulkAll {H : Type} : List (DataW H) → Nat
  | [] => 0
  | d :: r => uptoBulk d + uptoBulkAll r
def uptoBulkEntries {H : Type} : List (Lit × DataW H) → Nat
  | [] => 0
  | x :: r => uptoBulkEntry x + uptoBulkEntries r
def uptoBulkEntry {H : Type} : Lit × DataW H → Nat
  | (.string bytes, d) => bytes.length + uptoBulk d + 1
  | (_, d) => uptoBulk d + 1
 end
def uptoSmall : (H : Type) → List (DataW H) → Bool := fun _ ds => decide (uptoBulkAll ds ≤ 1048576)
def OpenSpec.upto (s : _root_.Go.ChangeSpec) : _root_.Go.OpenSpec := { _root_.Go.OpenSpec.ofChange s with cond := some uptoSmall }

/-- 'counterfoillaw09.SnapNotes', WHERE WHAT IT READS IS OF BULK AT MOST 1048576: true; the input reads as it did. -/
def snapNotesUptoRow : OpenClaim := { program := "ytaenlcokgplgkaa", sum := "2f4e51edf45230c51d110b68c4cfe7c40b101ba70fa89f299a62e0f432709048", func := "counterfoil/counterfoillaw09.SnapNotes", spec := "snapNotes", unfollowed := true, recurses := true, apart := false, narrowed := true }
def SnapNotesUptoSaid : Prop := snapNotesUptoRow.holds Try.pinned (OpenSpec.upto snapNotesSpec)

/-- 'counterfoillaw09.SnapReads', WHERE WHAT IT READS IS OF BULK AT MOST 1048576: true; the input reads as it did. -/
def snapReadsUptoRow : OpenClaim := { program := "ytaenlcokgplgkaa", sum := "2f4e51edf45230c51d110b68c4cfe7c40b101ba70fa89f299a62e0f432709048", func := "counterfoil/counterfoillaw09.SnapReads", spec := "snapReads", unfollowed := true, recurses := true, apart := false, narrowed := true }
def SnapReadsUptoSaid : Prop := snapReadsUptoRow.holds Try.pinned (OpenSpec.upto snapReadsSpec)

/-- 'counterfoillaw09.SnapStays', WHERE WHAT IT READS IS OF BULK AT MOST 1048576: true; the input reads as it did. -/
def snapStaysUptoRow : OpenClaim := { program := "ytaenlcokgplgkaa", sum := "2f4e51edf45230c51d110b68c4cfe7c40b101ba70fa89f299a62e0f432709048", func := "counterfoil/counterfoillaw09.SnapStays", spec := "snapStays", unfollowed := true, recurses := true, apart := false, narrowed := true }
def SnapStaysUptoSaid : Prop := snapStaysUptoRow.holds Try.pinned (OpenSpec.upto snapStaysSpec)

/-- 'counterfoillaw09.SnapRoom', WHERE WHAT IT READS IS OF BULK AT MOST 1048576: true; the input reads as it did. -/
def snapRoomUptoRow : OpenClaim := { program := "ytaenlcokgplgkaa", sum := "2f4e51edf45230c51d110b68c4cfe7c40b101ba70fa89f299a62e0f432709048", func := "counterfoil/counterfoillaw09.SnapRoom", spec := "snapRoom", unfollowed := true, recurses := true, apart := false, narrowed := true }
def SnapRoomUptoSaid : Prop := snapRoomUptoRow.holds Try.pinned (OpenSpec.upto snapRoomSpec)

/-- 'counterfoillaw09.SnapAlike', WHERE WHAT IT READS IS OF BULK AT MOST 1048576: true; the input reads as it did. -/
def snapAlikeUptoRow : OpenClaim := { program := "ytaenlcokgplgkaa", sum := "2f4e51edf45230c51d110b68c4cfe7c40b101ba70fa89f299a62e0f432709048", func := "counterfoil/counterfoillaw09.SnapAlike", spec := "snapAlike", unfollowed := true, recurses := true, apart := false, narrowed := true }
def SnapAlikeUptoSaid : Prop := snapAlikeUptoRow.holds Try.pinned (OpenSpec.upto snapAlikeSpec)

end Rows
end Go.Proofs.Ytaenlcokgplgkaa
