/-
  No cell of these rows narrows 'for every input' (looked for: loops, veiled, ifaces, maps, wideKeys, modest, calm, conditions, laid).
  DERIVED. THE GIVEN ROWS OF THIS SEAT. 7 by the template 'for every input the law returns true; each argument reads behind the call as it read before'; 0 by the template 'total and deterministic' (their statements: YtdhmkcomngbmaaaTotals.lean).
  GIVEN WITH THE SEED: the statements are not yours to turn. If you find one false, say at which input.
  Laid BY PROGRAM, IN A SANDBOX (cutbox-rows.mjs): the forced cells as the released guide's own fill.sh prints them over the translation 840468cfd40f3f25… (all of the seat's roots in one cut). By AI agents, Wed Nov 11 2026. No macro, syntax, notation, axiom, sorry.
-/
import Derived.Test.YtdhmkcomngbmaaaChecked
import GoSem.Claim
import GoSem.ClaimJoined
import GoSem.ClaimMapViews
import Derived.JoinedTies
import Derived.KernelRfl
namespace Go.Proofs.Ytdhmkcomngbmaaa
/- THE CELL 'sum', in the pinned program and in every row, IS THE sha256 OF THE DUMP (.gsa) THAT YtdhmkcomngbmaaaProg.lean LOADS. Nothing in Lean hashes anything: it is a label: what it is worth is what the hold of that sum in a sandbox is worth. -/
noncomputable def Try.pinned : Pinned := { name := "ytdhmkcomngbmaaa", sum := "840468cfd40f3f259f776b185a7a8ba28687bd84efa587d1e53c5ebc83af202e", checked := Try.checked }
namespace Rows
def none {H : Type} : Left H := { results := [], args := [] }

/-- 'counterfoillaw15.LinkPuts': WHATEVER THE INPUT: true; the input reads as it did. -/
def linkPutsSpec : ChangeSpec := { name := "linkPuts", fn := fun _ => fun
  | [d1, d2] => { results := [.lit (.bool true)], args := [d1, d2] }
  | _ => none }
def linkPutsRow : OpenClaim := { program := "ytdhmkcomngbmaaa", sum := "840468cfd40f3f259f776b185a7a8ba28687bd84efa587d1e53c5ebc83af202e", func := "counterfoil/counterfoillaw15.LinkPuts", spec := "linkPuts", unfollowed := true, recurses := true, apart := false }
def LinkPutsSaid : Prop := linkPutsRow.holds Try.pinned (OpenSpec.ofChange linkPutsSpec)

/-- ITS FALSE NEIGHBOUR: 'it returns false'. Refute it at one input. -/
def linkPutsWrong : ChangeSpec := { name := "linkPuts", fn := fun _ => fun
  | [d1, d2] => { results := [.lit (.bool false)], args := [d1, d2] }
  | _ => none }
def LinkPutsWrongFalsely : Prop := linkPutsRow.holds Try.pinned (OpenSpec.ofChange linkPutsWrong)

/-- 'counterfoillaw15.LinkTakes': WHATEVER THE INPUT: true; the input reads as it did. -/
def linkTakesSpec : ChangeSpec := { name := "linkTakes", fn := fun _ => fun
  | [d1, d2] => { results := [.lit (.bool true)], args := [d1, d2] }
  | _ => none }
def linkTakesRow : OpenClaim := { program := "ytdhmkcomngbmaaa", sum := "840468cfd40f3f259f776b185a7a8ba28687bd84efa587d1e53c5ebc83af202e", func := "counterfoil/counterfoillaw15.LinkTakes", spec := "linkTakes", unfollowed := true, recurses := true, apart := false }
def LinkTakesSaid : Prop := linkTakesRow.holds Try.pinned (OpenSpec.ofChange linkTakesSpec)

/-- ITS FALSE NEIGHBOUR: 'it returns false'. Refute it at one input. -/
def linkTakesWrong : ChangeSpec := { name := "linkTakes", fn := fun _ => fun
  | [d1, d2] => { results := [.lit (.bool false)], args := [d1, d2] }
  | _ => none }
def LinkTakesWrongFalsely : Prop := linkTakesRow.holds Try.pinned (OpenSpec.ofChange linkTakesWrong)

/-- 'counterfoillaw15.LinkNews': WHATEVER THE INPUT: true; the input reads as it did. -/
def linkNewsSpec : ChangeSpec := { name := "linkNews", fn := fun _ => fun
  | [d] => { results := [.lit (.bool true)], args := [d] }
  | _ => none }
def linkNewsRow : OpenClaim := { program := "ytdhmkcomngbmaaa", sum := "840468cfd40f3f259f776b185a7a8ba28687bd84efa587d1e53c5ebc83af202e", func := "counterfoil/counterfoillaw15.LinkNews", spec := "linkNews", unfollowed := true, recurses := true, apart := false }
def LinkNewsSaid : Prop := linkNewsRow.holds Try.pinned (OpenSpec.ofChange linkNewsSpec)

/-- ITS FALSE NEIGHBOUR: 'it returns false'. Refute it at one input. -/
def linkNewsWrong : ChangeSpec := { name := "linkNews", fn := fun _ => fun
  | [d] => { results := [.lit (.bool false)], args := [d] }
  | _ => none }
def LinkNewsWrongFalsely : Prop := linkNewsRow.holds Try.pinned (OpenSpec.ofChange linkNewsWrong)

/-- 'counterfoillaw15.LinkOnce': WHATEVER THE INPUT: true; the input reads as it did. -/
def linkOnceSpec : ChangeSpec := { name := "linkOnce", fn := fun _ => fun
  | [d] => { results := [.lit (.bool true)], args := [d] }
  | _ => none }
def linkOnceRow : OpenClaim := { program := "ytdhmkcomngbmaaa", sum := "840468cfd40f3f259f776b185a7a8ba28687bd84efa587d1e53c5ebc83af202e", func := "counterfoil/counterfoillaw15.LinkOnce", spec := "linkOnce", unfollowed := true, recurses := true, apart := false }
def LinkOnceSaid : Prop := linkOnceRow.holds Try.pinned (OpenSpec.ofChange linkOnceSpec)

/-- ITS FALSE NEIGHBOUR: 'it returns false'. Refute it at one input. -/
def linkOnceWrong : ChangeSpec := { name := "linkOnce", fn := fun _ => fun
  | [d] => { results := [.lit (.bool false)], args := [d] }
  | _ => none }
def LinkOnceWrongFalsely : Prop := linkOnceRow.holds Try.pinned (OpenSpec.ofChange linkOnceWrong)

/-- 'counterfoillaw15.LinkAll': WHATEVER THE INPUT: true; the input reads as it did. -/
def linkAllSpec : ChangeSpec := { name := "linkAll", fn := fun _ => fun
  | [d] => { results := [.lit (.bool true)], args := [d] }
  | _ => none }
def linkAllRow : OpenClaim := { program := "ytdhmkcomngbmaaa", sum := "840468cfd40f3f259f776b185a7a8ba28687bd84efa587d1e53c5ebc83af202e", func := "counterfoil/counterfoillaw15.LinkAll", spec := "linkAll", unfollowed := true, recurses := true, apart := false }
def LinkAllSaid : Prop := linkAllRow.holds Try.pinned (OpenSpec.ofChange linkAllSpec)

/-- ITS FALSE NEIGHBOUR: 'it returns false'. Refute it at one input. -/
def linkAllWrong : ChangeSpec := { name := "linkAll", fn := fun _ => fun
  | [d] => { results := [.lit (.bool false)], args := [d] }
  | _ => none }
def LinkAllWrongFalsely : Prop := linkAllRow.holds Try.pinned (OpenSpec.ofChange linkAllWrong)

/-- 'counterfoillaw15.LinkStays': WHATEVER THE INPUT: true; the input reads as it did. -/
def linkStaysSpec : ChangeSpec := { name := "linkStays", fn := fun _ => fun
  | [d1, d2, d3] => { results := [.lit (.bool true)], args := [d1, d2, d3] }
  | _ => none }
def linkStaysRow : OpenClaim := { program := "ytdhmkcomngbmaaa", sum := "840468cfd40f3f259f776b185a7a8ba28687bd84efa587d1e53c5ebc83af202e", func := "counterfoil/counterfoillaw15.LinkStays", spec := "linkStays", unfollowed := true, recurses := true, apart := false }
def LinkStaysSaid : Prop := linkStaysRow.holds Try.pinned (OpenSpec.ofChange linkStaysSpec)

/-- ITS FALSE NEIGHBOUR: 'it returns false'. Refute it at one input. -/
def linkStaysWrong : ChangeSpec := { name := "linkStays", fn := fun _ => fun
  | [d1, d2, d3] => { results := [.lit (.bool false)], args := [d1, d2, d3] }
  | _ => none }
def LinkStaysWrongFalsely : Prop := linkStaysRow.holds Try.pinned (OpenSpec.ofChange linkStaysWrong)

/-- 'counterfoillaw15.LinkOld': WHATEVER THE INPUT: true; the input reads as it did. -/
def linkOldSpec : ChangeSpec := { name := "linkOld", fn := fun _ => fun
  | [d1, d2] => { results := [.lit (.bool true)], args := [d1, d2] }
  | _ => none }
def linkOldRow : OpenClaim := { program := "ytdhmkcomngbmaaa", sum := "840468cfd40f3f259f776b185a7a8ba28687bd84efa587d1e53c5ebc83af202e", func := "counterfoil/counterfoillaw15.LinkOld", spec := "linkOld", unfollowed := true, recurses := true, apart := false }
def LinkOldSaid : Prop := linkOldRow.holds Try.pinned (OpenSpec.ofChange linkOldSpec)

/-- ITS FALSE NEIGHBOUR: 'it returns false'. Refute it at one input. -/
def linkOldWrong : ChangeSpec := { name := "linkOld", fn := fun _ => fun
  | [d1, d2] => { results := [.lit (.bool false)], args := [d1, d2] }
  | _ => none }
def LinkOldWrongFalsely : Prop := linkOldRow.holds Try.pinned (OpenSpec.ofChange linkOldWrong)

/- THE SECOND FORM. 'bulk': how many values and letters a reading holds, each counted each time it is reached (what is shared counts as often as it is met; a slice's spare places count too). A statement '..UptoSaid' is the law's where the arguments, and the package variables that the reading takes, are together of bulk at most 1048576: NARROWER than '..Said'. Prove '..Said' where nothing that the law and all that it calls make is longer than what came in: it says more and counts as full. Else prove '..UptoSaid'. A law counts once. -/
mutual
def uptoBulk {H : Type} : DataW H → Nat
  | .lit (.string bytes) => bytes.length + 1
  | .lit _ => 1
  | .nil => 1
  | .ptr d => uptoBulk d + 1
  | .slice elems spare => uptoBulkAll elems + uptoBulkAll spare + 1
  | .agg parts => uptoBulkAll parts + 1
  | .iface _ d => uptoBulk d + 1
  | .map entries => uptoBulkEntries entries + 1
  | .held _ => 1
def uptoBulkAll {H : Type} : List (DataW H) → Nat
  | [] => 0
  | d :: r => uptoBulk d + uptoBulkAll r
def uptoBulkEntries {H : Type} : List (Lit × DataW H) → Nat
  | [] => 0
  | x :: r => uptoBulkEntry x + uptoBulkEntries r
def uptoBulkEntry {H : Type} : Lit × DataW H → Nat
  | (.string bytes, d) => bytes.length + uptoBulk d + 1
  | (_, d) => uptoBulk d + 1
 end
def uptoSmall : (H : Type) → List (DataW H) → Bool := fun _ ds => decide (uptoBulkAll ds ≤ 1048576)
def OpenSpec.upto (s : _root_.Go.ChangeSpec) : _root_.Go.OpenSpec := { _root_.Go.OpenSpec.ofChange s with cond := some uptoSmall }

/-- 'counterfoillaw15.LinkPuts', WHERE WHAT IT READS IS OF BULK AT MOST 1048576: true; the input reads as it did. -/
def linkPutsUptoRow : OpenClaim := { program := "ytdhmkcomngbmaaa", sum := "840468cfd40f3f259f776b185a7a8ba28687bd84efa587d1e53c5ebc83af202e", func := "counterfoil/counterfoillaw15.LinkPuts", spec := "linkPuts", unfollowed := true, recurses := true, apart := false, narrowed := true }
def LinkPutsUptoSaid : Prop := linkPutsUptoRow.holds Try.pinned (OpenSpec.upto linkPutsSpec)

/-- 'counterfoillaw15.LinkTakes', WHERE WHAT IT READS IS OF BULK AT MOST 1048576: true; the input reads as it did. -/
def linkTakesUptoRow : OpenClaim := { program := "ytdhmkcomngbmaaa", sum := "840468cfd40f3f259f776b185a7a8ba28687bd84efa587d1e53c5ebc83af202e", func := "counterfoil/counterfoillaw15.LinkTakes", spec := "linkTakes", unfollowed := true, recurses := true, apart := false, narrowed := true }
def LinkTakesUptoSaid : Prop := linkTakesUptoRow.holds Try.pinned (OpenSpec.upto linkTakesSpec)

/-- 'counterfoillaw15.LinkNews', WHERE WHAT IT READS IS OF BULK AT MOST 1048576: true; the input reads as it did. -/
def linkNewsUptoRow : OpenClaim := { program := "ytdhmkcomngbmaaa", sum := "840468cfd40f3f259f776b185a7a8ba28687bd84efa587d1e53c5ebc83af202e", func := "counterfoil/counterfoillaw15.LinkNews", spec := "linkNews", unfollowed := true, recurses := true, apart := false, narrowed := true }
def LinkNewsUptoSaid : Prop := linkNewsUptoRow.holds Try.pinned (OpenSpec.upto linkNewsSpec)

/-- 'counterfoillaw15.LinkOnce', WHERE WHAT IT READS IS OF BULK AT MOST 1048576: true; the input reads as it did. -/
def linkOnceUptoRow : OpenClaim := { program := "ytdhmkcomngbmaaa", sum := "840468cfd40f3f259f776b185a7a8ba28687bd84efa587d1e53c5ebc83af202e", func := "counterfoil/counterfoillaw15.LinkOnce", spec := "linkOnce", unfollowed := true, recurses := true, apart := false, narrowed := true }
def LinkOnceUptoSaid : Prop := linkOnceUptoRow.holds Try.pinned (OpenSpec.upto linkOnceSpec)

/-- 'counterfoillaw15.LinkAll', WHERE WHAT IT READS IS OF BULK AT MOST 1048576: true; the input reads as it did. -/
def linkAllUptoRow : OpenClaim := { program := "ytdhmkcomngbmaaa", sum := "840468cfd40f3f259f776b185a7a8ba28687bd84efa587d1e53c5ebc83af202e", func := "counterfoil/counterfoillaw15.LinkAll", spec := "linkAll", unfollowed := true, recurses := true, apart := false, narrowed := true }
def LinkAllUptoSaid : Prop := linkAllUptoRow.holds Try.pinned (OpenSpec.upto linkAllSpec)

/-- 'counterfoillaw15.LinkStays', WHERE WHAT IT READS IS OF BULK AT MOST 1048576: true; the input reads as it did. -/
def linkStaysUptoRow : OpenClaim := { program := "ytdhmkcomngbmaaa", sum := "840468cfd40f3f259f776b185a7a8ba28687bd84efa587d1e53c5ebc83af202e", func := "counterfoil/counterfoillaw15.LinkStays", spec := "linkStays", unfollowed := true, recurses := true, apart := false, narrowed := true }
def LinkStaysUptoSaid : Prop := linkStaysUptoRow.holds Try.pinned (OpenSpec.upto linkStaysSpec)

/-- 'counterfoillaw15.LinkOld', WHERE WHAT IT READS IS OF BULK AT MOST 1048576: true; the input reads as it did. -/
def linkOldUptoRow : OpenClaim := { program := "ytdhmkcomngbmaaa", sum := "840468cfd40f3f259f776b185a7a8ba28687bd84efa587d1e53c5ebc83af202e", func := "counterfoil/counterfoillaw15.LinkOld", spec := "linkOld", unfollowed := true, recurses := true, apart := false, narrowed := true }
def LinkOldUptoSaid : Prop := linkOldUptoRow.holds Try.pinned (OpenSpec.upto linkOldSpec)

end Rows
end Go.Proofs.Ytdhmkcomngbmaaa
