/-
  No cell of these rows narrows 'for every input' (looked for: loops, veiled, ifaces, maps, wideKeys, modest, calm, conditions, laid).
  DERIVED. THE GIVEN ROWS OF THIS SEAT. 5 by the template 'for every input the law returns true; each argument reads behind the call as it read before'; 0 by the template 'total and deterministic' (their statements: YtpmllckfijfehaaTotals.lean).
  GIVEN WITH THE SEED: the statements are not yours to turn. If you find one false, say at which input.
  Laid BY PROGRAM, IN A SANDBOX (cutbox-rows.mjs): the forced cells as the released guide's own fill.sh prints them over the translation bf08412a1393fe30… (all of the seat's roots in one cut). By AI agents, Wed Nov 11 2026. No macro, syntax, notation, axiom, sorry.
-/
import Derived.Test.YtpmllckfijfehaaChecked
import GoSem.Claim
import GoSem.ClaimJoined
import GoSem.ClaimMapViews
import Derived.JoinedTies
import Derived.KernelRfl
namespace Go.Proofs.Ytpmllckfijfehaa
/- THE CELL 'sum', in the pinned program and in every row, IS THE sha256 OF THE DUMP (.gsa) THAT YtpmllckfijfehaaProg.lean LOADS. Nothing in Lean hashes anything: it is a label: what it is worth is what the hold of that sum in a sandbox is worth. -/
noncomputable def Try.pinned : Pinned := { name := "ytpmllckfijfehaa", sum := "bf08412a1393fe304d68fea0992ebaea0268856a10ebafdd2fd29426a6ac8d8d", checked := Try.checked }
namespace Rows
def none {H : Type} : Left H := { results := [], args := [] }

/-- 'counterfoillaw12.QueueAdds': WHATEVER THE INPUT: true; the input reads as it did. -/
def queueAddsSpec : ChangeSpec := { name := "queueAdds", fn := fun _ => fun
  | [d1, d2] => { results := [.lit (.bool true)], args := [d1, d2] }
  | _ => none }
def queueAddsRow : OpenClaim := { program := "ytpmllckfijfehaa", sum := "bf08412a1393fe304d68fea0992ebaea0268856a10ebafdd2fd29426a6ac8d8d", func := "counterfoil/counterfoillaw12.QueueAdds", spec := "queueAdds", unfollowed := true, recurses := true, apart := false }
def QueueAddsSaid : Prop := queueAddsRow.holds Try.pinned (OpenSpec.ofChange queueAddsSpec)

/-- ITS FALSE NEIGHBOUR: 'it returns false'. Refute it at one input. -/
def queueAddsWrong : ChangeSpec := { name := "queueAdds", fn := fun _ => fun
  | [d1, d2] => { results := [.lit (.bool false)], args := [d1, d2] }
  | _ => none }
def QueueAddsWrongFalsely : Prop := queueAddsRow.holds Try.pinned (OpenSpec.ofChange queueAddsWrong)

/-- 'counterfoillaw12.QueueDone': WHATEVER THE INPUT: true; the input reads as it did. -/
def queueDoneSpec : ChangeSpec := { name := "queueDone", fn := fun _ => fun
  | [d1, d2] => { results := [.lit (.bool true)], args := [d1, d2] }
  | _ => none }
def queueDoneRow : OpenClaim := { program := "ytpmllckfijfehaa", sum := "bf08412a1393fe304d68fea0992ebaea0268856a10ebafdd2fd29426a6ac8d8d", func := "counterfoil/counterfoillaw12.QueueDone", spec := "queueDone", unfollowed := true, recurses := true, apart := false }
def QueueDoneSaid : Prop := queueDoneRow.holds Try.pinned (OpenSpec.ofChange queueDoneSpec)

/-- ITS FALSE NEIGHBOUR: 'it returns false'. Refute it at one input. -/
def queueDoneWrong : ChangeSpec := { name := "queueDone", fn := fun _ => fun
  | [d1, d2] => { results := [.lit (.bool false)], args := [d1, d2] }
  | _ => none }
def QueueDoneWrongFalsely : Prop := queueDoneRow.holds Try.pinned (OpenSpec.ofChange queueDoneWrong)

/-- 'counterfoillaw12.QueueNews': WHATEVER THE INPUT: true; the input reads as it did. -/
def queueNewsSpec : ChangeSpec := { name := "queueNews", fn := fun _ => fun
  | [d] => { results := [.lit (.bool true)], args := [d] }
  | _ => none }
def queueNewsRow : OpenClaim := { program := "ytpmllckfijfehaa", sum := "bf08412a1393fe304d68fea0992ebaea0268856a10ebafdd2fd29426a6ac8d8d", func := "counterfoil/counterfoillaw12.QueueNews", spec := "queueNews", unfollowed := true, recurses := true, apart := false }
def QueueNewsSaid : Prop := queueNewsRow.holds Try.pinned (OpenSpec.ofChange queueNewsSpec)

/-- ITS FALSE NEIGHBOUR: 'it returns false'. Refute it at one input. -/
def queueNewsWrong : ChangeSpec := { name := "queueNews", fn := fun _ => fun
  | [d] => { results := [.lit (.bool false)], args := [d] }
  | _ => none }
def QueueNewsWrongFalsely : Prop := queueNewsRow.holds Try.pinned (OpenSpec.ofChange queueNewsWrong)

/-- 'counterfoillaw12.QueueCarries': WHATEVER THE INPUT: true; the input reads as it did. -/
def queueCarriesSpec : ChangeSpec := { name := "queueCarries", fn := fun _ => fun
  | [d1, d2, d3, d4] => { results := [.lit (.bool true)], args := [d1, d2, d3, d4] }
  | _ => none }
def queueCarriesRow : OpenClaim := { program := "ytpmllckfijfehaa", sum := "bf08412a1393fe304d68fea0992ebaea0268856a10ebafdd2fd29426a6ac8d8d", func := "counterfoil/counterfoillaw12.QueueCarries", spec := "queueCarries", unfollowed := true, recurses := true, apart := false }
def QueueCarriesSaid : Prop := queueCarriesRow.holds Try.pinned (OpenSpec.ofChange queueCarriesSpec)

/-- ITS FALSE NEIGHBOUR: 'it returns false'. Refute it at one input. -/
def queueCarriesWrong : ChangeSpec := { name := "queueCarries", fn := fun _ => fun
  | [d1, d2, d3, d4] => { results := [.lit (.bool false)], args := [d1, d2, d3, d4] }
  | _ => none }
def QueueCarriesWrongFalsely : Prop := queueCarriesRow.holds Try.pinned (OpenSpec.ofChange queueCarriesWrong)

/-- 'counterfoillaw12.QueueTwice': WHATEVER THE INPUT: true; the input reads as it did. -/
def queueTwiceSpec : ChangeSpec := { name := "queueTwice", fn := fun _ => fun
  | [d1, d2, d3] => { results := [.lit (.bool true)], args := [d1, d2, d3] }
  | _ => none }
def queueTwiceRow : OpenClaim := { program := "ytpmllckfijfehaa", sum := "bf08412a1393fe304d68fea0992ebaea0268856a10ebafdd2fd29426a6ac8d8d", func := "counterfoil/counterfoillaw12.QueueTwice", spec := "queueTwice", unfollowed := true, recurses := true, apart := false }
def QueueTwiceSaid : Prop := queueTwiceRow.holds Try.pinned (OpenSpec.ofChange queueTwiceSpec)

/-- ITS FALSE NEIGHBOUR: 'it returns false'. Refute it at one input. -/
def queueTwiceWrong : ChangeSpec := { name := "queueTwice", fn := fun _ => fun
  | [d1, d2, d3] => { results := [.lit (.bool false)], args := [d1, d2, d3] }
  | _ => none }
def QueueTwiceWrongFalsely : Prop := queueTwiceRow.holds Try.pinned (OpenSpec.ofChange queueTwiceWrong)

/- THE SECOND FORM. 'bulk': how many values and letters a reading holds, each counted each time it is reached (what is shared counts as often as it is met; a slice's spare places count too). A statement '..UptoSaid' is the law's where the arguments, and the package variables that the reading takes, are together of bulk at most 1048576: NARROWER than '..Said'. Prove '..Said' where nothing that the law and all that it calls make is longer than what came in: it says more and counts as full. Else prove '..UptoSaid'. A law counts once. -/
mutual
def uptoBulk {H : Type} : DataW H → Nat
  | .lit (.string bytes) => bytes.length + 1
  | .lit _ => 1
  | .nil => 1
  | .ptr d => uptoBulk d + 1
  | .slice elems spare => uptoBulkAll elems + uptoBulkAll spare + 1
  | .agg parts => uptoBulkAll parts + 1
  | .iface _ d => uptoBulk d + 1
  | .map entries => uptoBulkEntries entries + 1
  | .held _ => 1
def uptoBulkAll {H : Type} : List (DataW H) → Nat
  | [] => 0
  | d :: r => uptoBulk d + uptoBulkAll r
def uptoBulkEntries {H : Type} : List (Lit × DataW H) → Nat
  | [] => 0
  | x :: r => uptoBulkEntry x + uptoBulkEntries r
def uptoBulkEntry {H : Type} : Lit × DataW H → Nat
  | (.string bytes, d) => bytes.length + uptoBulk d + 1
  | (_, d) => uptoBulk d + 1
 end
def uptoSmall : (H : Type) → List (DataW H) → Bool := fun _ ds => decide (uptoBulkAll ds ≤ 1048576)
def OpenSpec.upto (s : _root_.Go.ChangeSpec) : _root_.Go.OpenSpec := { _root_.Go.OpenSpec.ofChange s with cond := some uptoSmall }

/-- 'counterfoillaw12.QueueAdds', WHERE WHAT IT READS IS OF BULK AT MOST 1048576: true; the input reads as it did. -/
def queueAddsUptoRow : OpenClaim := { program := "ytpmllckfijfehaa", sum := "bf08412a1393fe304d68fea0992ebaea0268856a10ebafdd2fd29426a6ac8d8d", func := "counterfoil/counterfoillaw12.QueueAdds", spec := "queueAdds", unfollowed := true, recurses := true, apart := false, narrowed := true }
def QueueAddsUptoSaid : Prop := queueAddsUptoRow.holds Try.pinned (OpenSpec.upto queueAddsSpec)

/-- 'counterfoillaw12.QueueDone', WHERE WHAT IT READS IS OF BULK AT MOST 1048576: true; the input reads as it did. -/
def queueDoneUptoRow : OpenClaim := { program := "ytpmllckfijfehaa", sum := "bf08412a1393fe304d68fea0992ebaea0268856a10ebafdd2fd29426a6ac8d8d", func := "counterfoil/counterfoillaw12.QueueDone", spec := "queueDone", unfollowed := true, recurses := true, apart := false, narrowed := true }
def QueueDoneUptoSaid : Prop := queueDoneUptoRow.holds Try.pinned (OpenSpec.upto queueDoneSpec)

/-- 'counterfoillaw12.QueueNews', WHERE WHAT IT READS IS OF BULK AT MOST 1048576: true; the input reads as it did. -/
def queueNewsUptoRow : OpenClaim := { program := "ytpmllckfijfehaa", sum := "bf08412a1393fe304d68fea0992ebaea0268856a10ebafdd2fd29426a6ac8d8d", func := "counterfoil/counterfoillaw12.QueueNews", spec := "queueNews", unfollowed := true, recurses := true, apart := false, narrowed := true }
def QueueNewsUptoSaid : Prop := queueNewsUptoRow.holds Try.pinned (OpenSpec.upto queueNewsSpec)

/-- 'counterfoillaw12.QueueCarries', WHERE WHAT IT READS IS OF BULK AT MOST 1048576: true; the input reads as it did. -/
def queueCarriesUptoRow : OpenClaim := { program := "ytpmllckfijfehaa", sum := "bf08412a1393fe304d68fea0992ebaea0268856a10ebafdd2fd29426a6ac8d8d", func := "counterfoil/counterfoillaw12.QueueCarries", spec := "queueCarries", unfollowed := true, recurses := true, apart := false, narrowed := true }
def QueueCarriesUptoSaid : Prop := queueCarriesUptoRow.holds Try.pinned (OpenSpec.upto queueCarriesSpec)

/-- 'counterfoillaw12.QueueTwice', WHERE WHAT IT READS IS OF BULK AT MOST 1048576: true; the input reads as it did. -/
def queueTwiceUptoRow : OpenClaim := { program := "ytpmllckfijfehaa", sum := "bf08412a1393fe304d68fea0992ebaea0268856a10ebafdd2fd29426a6ac8d8d", func := "counterfoil/counterfoillaw12.QueueTwice", spec := "queueTwice", unfollowed := true, recurses := true, apart := false, narrowed := true }
def QueueTwiceUptoSaid : Prop := queueTwiceUptoRow.holds Try.pinned (OpenSpec.upto queueTwiceSpec)

end Rows
end Go.Proofs.Ytpmllckfijfehaa
