/-
  No cell of these rows narrows 'for every input' (looked for: loops, veiled, ifaces, maps, wideKeys, modest, calm, conditions, laid).
  DERIVED. THE GIVEN ROWS OF THIS SEAT. 7 by the template 'for every input the law returns true; each argument reads behind the call as it read before'; 0 by the template 'total and deterministic' (their statements: YtpefhocjnkbklaaTotals.lean).
  GIVEN WITH THE SEED: the statements are not yours to turn. If you find one false, say at which input.
  Laid BY PROGRAM, IN A SANDBOX (cutbox-rows.mjs): the forced cells as the released guide's own fill.sh prints them over the translation 828969068765d9eb… (all of the seat's roots in one cut). By AI agents, Wed Nov 11 2026. No macro, syntax, notation, axiom, sorry.
-/
import Derived.Test.YtpefhocjnkbklaaChecked
import GoSem.Claim
import GoSem.ClaimJoined
import GoSem.ClaimMapViews
import Derived.JoinedTies
import Derived.KernelRfl
namespace Go.Proofs.Ytpefhocjnkbklaa
/- THE CELL 'sum', in the pinned program and in every row, IS THE sha256 OF THE DUMP (.gsa) THAT YtpefhocjnkbklaaProg.lean LOADS. Nothing in Lean hashes anything: it is a label: what it is worth is what the hold of that sum in a sandbox is worth. -/
noncomputable def Try.pinned : Pinned := { name := "ytpefhocjnkbklaa", sum := "828969068765d9eb3af73c487bc044603f695e79419628dfdc690f2332ac179b", checked := Try.checked }
namespace Rows
def none {H : Type} : Left H := { results := [], args := [] }

/-- 'counterfoillaw10.DirtySets': WHATEVER THE INPUT: true; the input reads as it did. -/
def dirtySetsSpec : ChangeSpec := { name := "dirtySets", fn := fun _ => fun
  | [d1, d2, d3] => { results := [.lit (.bool true)], args := [d1, d2, d3] }
  | _ => none }
def dirtySetsRow : OpenClaim := { program := "ytpefhocjnkbklaa", sum := "828969068765d9eb3af73c487bc044603f695e79419628dfdc690f2332ac179b", func := "counterfoil/counterfoillaw10.DirtySets", spec := "dirtySets", apart := false }
def DirtySetsSaid : Prop := dirtySetsRow.holds Try.pinned (OpenSpec.ofChange dirtySetsSpec)

/-- ITS FALSE NEIGHBOUR: 'it returns false'. Refute it at one input. -/
def dirtySetsWrong : ChangeSpec := { name := "dirtySets", fn := fun _ => fun
  | [d1, d2, d3] => { results := [.lit (.bool false)], args := [d1, d2, d3] }
  | _ => none }
def DirtySetsWrongFalsely : Prop := dirtySetsRow.holds Try.pinned (OpenSpec.ofChange dirtySetsWrong)

/-- 'counterfoillaw10.DirtyJoins': WHATEVER THE INPUT: true; the input reads as it did. -/
def dirtyJoinsSpec : ChangeSpec := { name := "dirtyJoins", fn := fun _ => fun
  | [d1, d2] => { results := [.lit (.bool true)], args := [d1, d2] }
  | _ => none }
def dirtyJoinsRow : OpenClaim := { program := "ytpefhocjnkbklaa", sum := "828969068765d9eb3af73c487bc044603f695e79419628dfdc690f2332ac179b", func := "counterfoil/counterfoillaw10.DirtyJoins", spec := "dirtyJoins", apart := false }
def DirtyJoinsSaid : Prop := dirtyJoinsRow.holds Try.pinned (OpenSpec.ofChange dirtyJoinsSpec)

/-- ITS FALSE NEIGHBOUR: 'it returns false'. Refute it at one input. -/
def dirtyJoinsWrong : ChangeSpec := { name := "dirtyJoins", fn := fun _ => fun
  | [d1, d2] => { results := [.lit (.bool false)], args := [d1, d2] }
  | _ => none }
def DirtyJoinsWrongFalsely : Prop := dirtyJoinsRow.holds Try.pinned (OpenSpec.ofChange dirtyJoinsWrong)

/-- 'counterfoillaw10.DirtyNames': WHATEVER THE INPUT: true; the input reads as it did. -/
def dirtyNamesSpec : ChangeSpec := { name := "dirtyNames", fn := fun _ => fun
  | [d1, d2] => { results := [.lit (.bool true)], args := [d1, d2] }
  | _ => none }
def dirtyNamesRow : OpenClaim := { program := "ytpefhocjnkbklaa", sum := "828969068765d9eb3af73c487bc044603f695e79419628dfdc690f2332ac179b", func := "counterfoil/counterfoillaw10.DirtyNames", spec := "dirtyNames", unfollowed := true, recurses := true, apart := false }
def DirtyNamesSaid : Prop := dirtyNamesRow.holds Try.pinned (OpenSpec.ofChange dirtyNamesSpec)

/-- ITS FALSE NEIGHBOUR: 'it returns false'. Refute it at one input. -/
def dirtyNamesWrong : ChangeSpec := { name := "dirtyNames", fn := fun _ => fun
  | [d1, d2] => { results := [.lit (.bool false)], args := [d1, d2] }
  | _ => none }
def DirtyNamesWrongFalsely : Prop := dirtyNamesRow.holds Try.pinned (OpenSpec.ofChange dirtyNamesWrong)

/-- 'counterfoillaw10.DirtyLists': WHATEVER THE INPUT: true; the input reads as it did. -/
def dirtyListsSpec : ChangeSpec := { name := "dirtyLists", fn := fun _ => fun
  | [d1, d2] => { results := [.lit (.bool true)], args := [d1, d2] }
  | _ => none }
def dirtyListsRow : OpenClaim := { program := "ytpefhocjnkbklaa", sum := "828969068765d9eb3af73c487bc044603f695e79419628dfdc690f2332ac179b", func := "counterfoil/counterfoillaw10.DirtyLists", spec := "dirtyLists", unfollowed := true, recurses := true, apart := false }
def DirtyListsSaid : Prop := dirtyListsRow.holds Try.pinned (OpenSpec.ofChange dirtyListsSpec)

/-- ITS FALSE NEIGHBOUR: 'it returns false'. Refute it at one input. -/
def dirtyListsWrong : ChangeSpec := { name := "dirtyLists", fn := fun _ => fun
  | [d1, d2] => { results := [.lit (.bool false)], args := [d1, d2] }
  | _ => none }
def DirtyListsWrongFalsely : Prop := dirtyListsRow.holds Try.pinned (OpenSpec.ofChange dirtyListsWrong)

/-- 'counterfoillaw10.DirtyBytes': WHATEVER THE INPUT: true; the input reads as it did. -/
def dirtyBytesSpec : ChangeSpec := { name := "dirtyBytes", fn := fun _ => fun
  | [d1, d2] => { results := [.lit (.bool true)], args := [d1, d2] }
  | _ => none }
def dirtyBytesRow : OpenClaim := { program := "ytpefhocjnkbklaa", sum := "828969068765d9eb3af73c487bc044603f695e79419628dfdc690f2332ac179b", func := "counterfoil/counterfoillaw10.DirtyBytes", spec := "dirtyBytes", inPlace := ["internal/abi.NoEscape"], apart := false }
def DirtyBytesSaid : Prop := dirtyBytesRow.holds Try.pinned (OpenSpec.ofChange dirtyBytesSpec)

/-- ITS FALSE NEIGHBOUR: 'it returns false'. Refute it at one input. -/
def dirtyBytesWrong : ChangeSpec := { name := "dirtyBytes", fn := fun _ => fun
  | [d1, d2] => { results := [.lit (.bool false)], args := [d1, d2] }
  | _ => none }
def DirtyBytesWrongFalsely : Prop := dirtyBytesRow.holds Try.pinned (OpenSpec.ofChange dirtyBytesWrong)

/-- 'counterfoillaw10.DirtyParses': WHATEVER THE INPUT: true; the input reads as it did. -/
def dirtyParsesSpec : ChangeSpec := { name := "dirtyParses", fn := fun _ => fun
  | [d] => { results := [.lit (.bool true)], args := [d] }
  | _ => none }
def dirtyParsesRow : OpenClaim := { program := "ytpefhocjnkbklaa", sum := "828969068765d9eb3af73c487bc044603f695e79419628dfdc690f2332ac179b", func := "counterfoil/counterfoillaw10.DirtyParses", spec := "dirtyParses", apart := false }
def DirtyParsesSaid : Prop := dirtyParsesRow.holds Try.pinned (OpenSpec.ofChange dirtyParsesSpec)

/-- ITS FALSE NEIGHBOUR: 'it returns false'. Refute it at one input. -/
def dirtyParsesWrong : ChangeSpec := { name := "dirtyParses", fn := fun _ => fun
  | [d] => { results := [.lit (.bool false)], args := [d] }
  | _ => none }
def DirtyParsesWrongFalsely : Prop := dirtyParsesRow.holds Try.pinned (OpenSpec.ofChange dirtyParsesWrong)

/-- 'counterfoillaw10.DirtyMore': WHATEVER THE INPUT: true; the input reads as it did. -/
def dirtyMoreSpec : ChangeSpec := { name := "dirtyMore", fn := fun _ => fun
  | [d1, d2, d3, d4] => { results := [.lit (.bool true)], args := [d1, d2, d3, d4] }
  | _ => none }
def dirtyMoreRow : OpenClaim := { program := "ytpefhocjnkbklaa", sum := "828969068765d9eb3af73c487bc044603f695e79419628dfdc690f2332ac179b", func := "counterfoil/counterfoillaw10.DirtyMore", spec := "dirtyMore", apart := false }
def DirtyMoreSaid : Prop := dirtyMoreRow.holds Try.pinned (OpenSpec.ofChange dirtyMoreSpec)

/-- ITS FALSE NEIGHBOUR: 'it returns false'. Refute it at one input. -/
def dirtyMoreWrong : ChangeSpec := { name := "dirtyMore", fn := fun _ => fun
  | [d1, d2, d3, d4] => { results := [.lit (.bool false)], args := [d1, d2, d3, d4] }
  | _ => none }
def DirtyMoreWrongFalsely : Prop := dirtyMoreRow.holds Try.pinned (OpenSpec.ofChange dirtyMoreWrong)

/- THE SECOND FORM. 'bulk': how many values and letters a reading holds, each counted each time it is reached (what is shared counts as often as it is met; a slice's spare places count too). A statement '..UptoSaid' is the law's where the arguments, and the package variables that the reading takes, are together of bulk at most 1048576: NARROWER than '..Said'. Prove '..Said' where nothing that the law and all that it calls make is longer than what came in: it says more and counts as full. Else prove '..UptoSaid'. A law counts once. -/
mutual
def uptoBulk {H : Type} : DataW H → Nat
  | .lit (.string bytes) => bytes.length + 1
  | .lit _ => 1
  | .nil => 1
  | .ptr d => uptoBulk d + 1
  | .slice elems spare => uptoBulkAll elems + uptoBulkAll spare + 1
  | .agg parts => uptoBulkAll parts + 1
  | .iface _ d => uptoBulk d + 1
  | .map entries => uptoBulkEntries entries + 1
  | .held _ => 1
def uptoBulkAll {H : Type} : List (DataW H) → Nat
  | [] => 0
  | d :: r => uptoBulk d + uptoBulkAll r
def uptoBulkEntries {H : Type} : List (Lit × DataW H) → Nat
  | [] => 0
  | x :: r => uptoBulkEntry x + uptoBulkEntries r
def uptoBulkEntry {H : Type} : Lit × DataW H → Nat
  | (.string bytes, d) => bytes.length + uptoBulk d + 1
  | (_, d) => uptoBulk d + 1
 end
def uptoSmall : (H : Type) → List (DataW H) → Bool := fun _ ds => decide (uptoBulkAll ds ≤ 1048576)
def OpenSpec.upto (s : _root_.Go.ChangeSpec) : _root_.Go.OpenSpec := { _root_.Go.OpenSpec.ofChange s with cond := some uptoSmall }

/-- 'counterfoillaw10.DirtySets', WHERE WHAT IT READS IS OF BULK AT MOST 1048576: true; the input reads as it did. -/
def dirtySetsUptoRow : OpenClaim := { program := "ytpefhocjnkbklaa", sum := "828969068765d9eb3af73c487bc044603f695e79419628dfdc690f2332ac179b", func := "counterfoil/counterfoillaw10.DirtySets", spec := "dirtySets", apart := false, narrowed := true }
def DirtySetsUptoSaid : Prop := dirtySetsUptoRow.holds Try.pinned (OpenSpec.upto dirtySetsSpec)

/-- 'counterfoillaw10.DirtyJoins', WHERE WHAT IT READS IS OF BULK AT MOST 1048576: true; the input reads as it did. -/
def dirtyJoinsUptoRow : OpenClaim := { program := "ytpefhocjnkbklaa", sum := "828969068765d9eb3af73c487bc044603f695e79419628dfdc690f2332ac179b", func := "counterfoil/counterfoillaw10.DirtyJoins", spec := "dirtyJoins", apart := false, narrowed := true }
def DirtyJoinsUptoSaid : Prop := dirtyJoinsUptoRow.holds Try.pinned (OpenSpec.upto dirtyJoinsSpec)

/-- 'counterfoillaw10.DirtyNames', WHERE WHAT IT READS IS OF BULK AT MOST 1048576: true; the input reads as it did. -/
def dirtyNamesUptoRow : OpenClaim := { program := "ytpefhocjnkbklaa", sum := "828969068765d9eb3af73c487bc044603f695e79419628dfdc690f2332ac179b", func := "counterfoil/counterfoillaw10.DirtyNames", spec := "dirtyNames", unfollowed := true, recurses := true, apart := false, narrowed := true }
def DirtyNamesUptoSaid : Prop := dirtyNamesUptoRow.holds Try.pinned (OpenSpec.upto dirtyNamesSpec)

/-- 'counterfoillaw10.DirtyLists', WHERE WHAT IT READS IS OF BULK AT MOST 1048576: true; the input reads as it did. -/
def dirtyListsUptoRow : OpenClaim := { program := "ytpefhocjnkbklaa", sum := "828969068765d9eb3af73c487bc044603f695e79419628dfdc690f2332ac179b", func := "counterfoil/counterfoillaw10.DirtyLists", spec := "dirtyLists", unfollowed := true, recurses := true, apart := false, narrowed := true }
def DirtyListsUptoSaid : Prop := dirtyListsUptoRow.holds Try.pinned (OpenSpec.upto dirtyListsSpec)

/-- 'counterfoillaw10.DirtyBytes', WHERE WHAT IT READS IS OF BULK AT MOST 1048576: true; the input reads as it did. -/
def dirtyBytesUptoRow : OpenClaim := { program := "ytpefhocjnkbklaa", sum := "828969068765d9eb3af73c487bc044603f695e79419628dfdc690f2332ac179b", func := "counterfoil/counterfoillaw10.DirtyBytes", spec := "dirtyBytes", inPlace := ["internal/abi.NoEscape"], apart := false, narrowed := true }
def DirtyBytesUptoSaid : Prop := dirtyBytesUptoRow.holds Try.pinned (OpenSpec.upto dirtyBytesSpec)

/-- 'counterfoillaw10.DirtyParses', WHERE WHAT IT READS IS OF BULK AT MOST 1048576: true; the input reads as it did. -/
def dirtyParsesUptoRow : OpenClaim := { program := "ytpefhocjnkbklaa", sum := "828969068765d9eb3af73c487bc044603f695e79419628dfdc690f2332ac179b", func := "counterfoil/counterfoillaw10.DirtyParses", spec := "dirtyParses", apart := false, narrowed := true }
def DirtyParsesUptoSaid : Prop := dirtyParsesUptoRow.holds Try.pinned (OpenSpec.upto dirtyParsesSpec)

/-- 'counterfoillaw10.DirtyMore', WHERE WHAT IT READS IS OF BULK AT MOST 1048576: true; the input reads as it did. -/
def dirtyMoreUptoRow : OpenClaim := { program := "ytpefhocjnkbklaa", sum := "828969068765d9eb3af73c487bc044603f695e79419628dfdc690f2332ac179b", func := "counterfoil/counterfoillaw10.DirtyMore", spec := "dirtyMore", apart := false, narrowed := true }
def DirtyMoreUptoSaid : Prop := dirtyMoreUptoRow.holds Try.pinned (OpenSpec.upto dirtyMoreSpec)

end Rows
end Go.Proofs.Ytpefhocjnkbklaa
