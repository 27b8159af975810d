/-
  No cell of these rows narrows 'for every input' (looked for: loops, veiled, ifaces, maps, wideKeys, modest, calm, conditions, laid).
  DERIVED. THE GIVEN ROWS OF THIS SEAT. 8 by the template 'for every input the law returns true; each argument reads behind the call as it read before'; 0 by the template 'total and deterministic' (their statements: YtokdicaoonjimaaTotals.lean).
  GIVEN WITH THE SEED: the statements are not yours to turn. If you find one false, say at which input.
  Laid BY PROGRAM, IN A SANDBOX (cutbox-rows.mjs): the forced cells as the released guide's own fill.sh prints them over the translation 5abe154f2377afe8… (all of the seat's roots in one cut). By AI agents, Wed Nov 11 2026. No macro, syntax, notation, axiom, sorry.
-/
import Derived.Test.YtokdicaoonjimaaChecked
import GoSem.Claim
import GoSem.ClaimJoined
import GoSem.ClaimMapViews
import Derived.JoinedTies
import Derived.KernelRfl
namespace Go.Proofs.Ytokdicaoonjimaa
/- THE CELL 'sum', in the pinned program and in every row, IS THE sha256 OF THE DUMP (.gsa) THAT YtokdicaoonjimaaProg.lean LOADS. Nothing in Lean hashes anything: it is a label: what it is worth is what the hold of that sum in a sandbox is worth. -/
noncomputable def Try.pinned : Pinned := { name := "ytokdicaoonjimaa", sum := "5abe154f2377afe83f726467baed0ec516f33bff10c5d3187befdc5edf8e4544", checked := Try.checked }
namespace Rows
def none {H : Type} : Left H := { results := [], args := [] }

/-- 'counterfoillaw11.LineGrows': WHATEVER THE INPUT: true; the input reads as it did. -/
def lineGrowsSpec : ChangeSpec := { name := "lineGrows", fn := fun _ => fun
  | [d1, d2, d3] => { results := [.lit (.bool true)], args := [d1, d2, d3] }
  | _ => none }
def lineGrowsRow : OpenClaim := { program := "ytokdicaoonjimaa", sum := "5abe154f2377afe83f726467baed0ec516f33bff10c5d3187befdc5edf8e4544", func := "counterfoil/counterfoillaw11.LineGrows", spec := "lineGrows", apart := false }
def LineGrowsSaid : Prop := lineGrowsRow.holds Try.pinned (OpenSpec.ofChange lineGrowsSpec)

/-- ITS FALSE NEIGHBOUR: 'it returns false'. Refute it at one input. -/
def lineGrowsWrong : ChangeSpec := { name := "lineGrows", fn := fun _ => fun
  | [d1, d2, d3] => { results := [.lit (.bool false)], args := [d1, d2, d3] }
  | _ => none }
def LineGrowsWrongFalsely : Prop := lineGrowsRow.holds Try.pinned (OpenSpec.ofChange lineGrowsWrong)

/-- 'counterfoillaw11.LineEpochs': WHATEVER THE INPUT: true; the input reads as it did. -/
def lineEpochsSpec : ChangeSpec := { name := "lineEpochs", fn := fun _ => fun
  | [d1, d2] => { results := [.lit (.bool true)], args := [d1, d2] }
  | _ => none }
def lineEpochsRow : OpenClaim := { program := "ytokdicaoonjimaa", sum := "5abe154f2377afe83f726467baed0ec516f33bff10c5d3187befdc5edf8e4544", func := "counterfoil/counterfoillaw11.LineEpochs", spec := "lineEpochs", apart := false }
def LineEpochsSaid : Prop := lineEpochsRow.holds Try.pinned (OpenSpec.ofChange lineEpochsSpec)

/-- ITS FALSE NEIGHBOUR: 'it returns false'. Refute it at one input. -/
def lineEpochsWrong : ChangeSpec := { name := "lineEpochs", fn := fun _ => fun
  | [d1, d2] => { results := [.lit (.bool false)], args := [d1, d2] }
  | _ => none }
def LineEpochsWrongFalsely : Prop := lineEpochsRow.holds Try.pinned (OpenSpec.ofChange lineEpochsWrong)

/-- 'counterfoillaw11.LineCommon': WHATEVER THE INPUT: true; the input reads as it did. -/
def lineCommonSpec : ChangeSpec := { name := "lineCommon", fn := fun _ => fun
  | [d1, d2] => { results := [.lit (.bool true)], args := [d1, d2] }
  | _ => none }
def lineCommonRow : OpenClaim := { program := "ytokdicaoonjimaa", sum := "5abe154f2377afe83f726467baed0ec516f33bff10c5d3187befdc5edf8e4544", func := "counterfoil/counterfoillaw11.LineCommon", spec := "lineCommon", apart := false }
def LineCommonSaid : Prop := lineCommonRow.holds Try.pinned (OpenSpec.ofChange lineCommonSpec)

/-- ITS FALSE NEIGHBOUR: 'it returns false'. Refute it at one input. -/
def lineCommonWrong : ChangeSpec := { name := "lineCommon", fn := fun _ => fun
  | [d1, d2] => { results := [.lit (.bool false)], args := [d1, d2] }
  | _ => none }
def LineCommonWrongFalsely : Prop := lineCommonRow.holds Try.pinned (OpenSpec.ofChange lineCommonWrong)

/-- 'counterfoillaw11.LineAgrees': WHATEVER THE INPUT: true; the input reads as it did. -/
def lineAgreesSpec : ChangeSpec := { name := "lineAgrees", fn := fun _ => fun
  | [d1, d2, d3] => { results := [.lit (.bool true)], args := [d1, d2, d3] }
  | _ => none }
def lineAgreesRow : OpenClaim := { program := "ytokdicaoonjimaa", sum := "5abe154f2377afe83f726467baed0ec516f33bff10c5d3187befdc5edf8e4544", func := "counterfoil/counterfoillaw11.LineAgrees", spec := "lineAgrees", apart := false }
def LineAgreesSaid : Prop := lineAgreesRow.holds Try.pinned (OpenSpec.ofChange lineAgreesSpec)

/-- ITS FALSE NEIGHBOUR: 'it returns false'. Refute it at one input. -/
def lineAgreesWrong : ChangeSpec := { name := "lineAgrees", fn := fun _ => fun
  | [d1, d2, d3] => { results := [.lit (.bool false)], args := [d1, d2, d3] }
  | _ => none }
def LineAgreesWrongFalsely : Prop := lineAgreesRow.holds Try.pinned (OpenSpec.ofChange lineAgreesWrong)

/-- 'counterfoillaw11.LineGoes': WHATEVER THE INPUT: true; the input reads as it did. -/
def lineGoesSpec : ChangeSpec := { name := "lineGoes", fn := fun _ => fun
  | [d1, d2, d3] => { results := [.lit (.bool true)], args := [d1, d2, d3] }
  | _ => none }
def lineGoesRow : OpenClaim := { program := "ytokdicaoonjimaa", sum := "5abe154f2377afe83f726467baed0ec516f33bff10c5d3187befdc5edf8e4544", func := "counterfoil/counterfoillaw11.LineGoes", spec := "lineGoes", apart := false }
def LineGoesSaid : Prop := lineGoesRow.holds Try.pinned (OpenSpec.ofChange lineGoesSpec)

/-- ITS FALSE NEIGHBOUR: 'it returns false'. Refute it at one input. -/
def lineGoesWrong : ChangeSpec := { name := "lineGoes", fn := fun _ => fun
  | [d1, d2, d3] => { results := [.lit (.bool false)], args := [d1, d2, d3] }
  | _ => none }
def LineGoesWrongFalsely : Prop := lineGoesRow.holds Try.pinned (OpenSpec.ofChange lineGoesWrong)

/-- 'counterfoillaw11.LineNext': WHATEVER THE INPUT: true; the input reads as it did. -/
def lineNextSpec : ChangeSpec := { name := "lineNext", fn := fun _ => fun
  | [d1, d2] => { results := [.lit (.bool true)], args := [d1, d2] }
  | _ => none }
def lineNextRow : OpenClaim := { program := "ytokdicaoonjimaa", sum := "5abe154f2377afe83f726467baed0ec516f33bff10c5d3187befdc5edf8e4544", func := "counterfoil/counterfoillaw11.LineNext", spec := "lineNext", apart := false }
def LineNextSaid : Prop := lineNextRow.holds Try.pinned (OpenSpec.ofChange lineNextSpec)

/-- ITS FALSE NEIGHBOUR: 'it returns false'. Refute it at one input. -/
def lineNextWrong : ChangeSpec := { name := "lineNext", fn := fun _ => fun
  | [d1, d2] => { results := [.lit (.bool false)], args := [d1, d2] }
  | _ => none }
def LineNextWrongFalsely : Prop := lineNextRow.holds Try.pinned (OpenSpec.ofChange lineNextWrong)

/-- 'counterfoillaw11.LineSelf': WHATEVER THE INPUT: true; the input reads as it did. -/
def lineSelfSpec : ChangeSpec := { name := "lineSelf", fn := fun _ => fun
  | [d] => { results := [.lit (.bool true)], args := [d] }
  | _ => none }
def lineSelfRow : OpenClaim := { program := "ytokdicaoonjimaa", sum := "5abe154f2377afe83f726467baed0ec516f33bff10c5d3187befdc5edf8e4544", func := "counterfoil/counterfoillaw11.LineSelf", spec := "lineSelf", apart := false }
def LineSelfSaid : Prop := lineSelfRow.holds Try.pinned (OpenSpec.ofChange lineSelfSpec)

/-- ITS FALSE NEIGHBOUR: 'it returns false'. Refute it at one input. -/
def lineSelfWrong : ChangeSpec := { name := "lineSelf", fn := fun _ => fun
  | [d] => { results := [.lit (.bool false)], args := [d] }
  | _ => none }
def LineSelfWrongFalsely : Prop := lineSelfRow.holds Try.pinned (OpenSpec.ofChange lineSelfWrong)

/-- 'counterfoillaw11.LineChain': WHATEVER THE INPUT: true; the input reads as it did. -/
def lineChainSpec : ChangeSpec := { name := "lineChain", fn := fun _ => fun
  | [d1, d2, d3] => { results := [.lit (.bool true)], args := [d1, d2, d3] }
  | _ => none }
def lineChainRow : OpenClaim := { program := "ytokdicaoonjimaa", sum := "5abe154f2377afe83f726467baed0ec516f33bff10c5d3187befdc5edf8e4544", func := "counterfoil/counterfoillaw11.LineChain", spec := "lineChain", apart := false }
def LineChainSaid : Prop := lineChainRow.holds Try.pinned (OpenSpec.ofChange lineChainSpec)

/-- ITS FALSE NEIGHBOUR: 'it returns false'. Refute it at one input. -/
def lineChainWrong : ChangeSpec := { name := "lineChain", fn := fun _ => fun
  | [d1, d2, d3] => { results := [.lit (.bool false)], args := [d1, d2, d3] }
  | _ => none }
def LineChainWrongFalsely : Prop := lineChainRow.holds Try.pinned (OpenSpec.ofChange lineChainWrong)

/- THE SECOND FORM. 'bulk': how many values and letters a reading holds, each counted each time it is reached (what is shared counts as often as it is met; a slice's spare places count too). A statement '..UptoSaid' is the law's where the arguments, and the package variables that the reading takes, are together of bulk at most 1048576: NARROWER than '..Said'. Prove '..Said' where nothing that the law and all that it calls make is longer than what came in: it says more and counts as full. Else prove '..UptoSaid'. A law counts once. -/
mutual
def uptoBulk {H : Type} : DataW H → Nat
  | .lit (.string bytes) => bytes.length + 1
  | .lit _ => 1
  | .nil => 1
  | .ptr d => uptoBulk d + 1
  | .slice elems spare => uptoBulkAll elems + uptoBulkAll spare + 1
  | .agg parts => uptoBulkAll parts + 1
  | .iface _ d => uptoBulk d + 1
  | .map entries => uptoBulkEntries entries + 1
  | .held _ => 1
def uptoBulkAll {H : Type} : List (DataW H) → Nat
  | [] => 0
  | d :: r => uptoBulk d + uptoBulkAll r
def uptoBulkEntries {H : Type} : List (Lit × DataW H) → Nat
  | [] => 0
  | x :: r => uptoBulkEntry x + uptoBulkEntries r
def uptoBulkEntry {H : Type} : Lit × DataW H → Nat
  | (.string bytes, d) => bytes.length + uptoBulk d + 1
  | (_, d) => uptoBulk d + 1
 end
def uptoSmall : (H : Type) → List (DataW H) → Bool := fun _ ds => decide (uptoBulkAll ds ≤ 1048576)
def OpenSpec.upto (s : _root_.Go.ChangeSpec) : _root_.Go.OpenSpec := { _root_.Go.OpenSpec.ofChange s with cond := some uptoSmall }

/-- 'counterfoillaw11.LineGrows', WHERE WHAT IT READS IS OF BULK AT MOST 1048576: true; the input reads as it did. -/
def lineGrowsUptoRow : OpenClaim := { program := "ytokdicaoonjimaa", sum := "5abe154f2377afe83f726467baed0ec516f33bff10c5d3187befdc5edf8e4544", func := "counterfoil/counterfoillaw11.LineGrows", spec := "lineGrows", apart := false, narrowed := true }
def LineGrowsUptoSaid : Prop := lineGrowsUptoRow.holds Try.pinned (OpenSpec.upto lineGrowsSpec)

/-- 'counterfoillaw11.LineEpochs', WHERE WHAT IT READS IS OF BULK AT MOST 1048576: true; the input reads as it did. -/
def lineEpochsUptoRow : OpenClaim := { program := "ytokdicaoonjimaa", sum := "5abe154f2377afe83f726467baed0ec516f33bff10c5d3187befdc5edf8e4544", func := "counterfoil/counterfoillaw11.LineEpochs", spec := "lineEpochs", apart := false, narrowed := true }
def LineEpochsUptoSaid : Prop := lineEpochsUptoRow.holds Try.pinned (OpenSpec.upto lineEpochsSpec)

/-- 'counterfoillaw11.LineCommon', WHERE WHAT IT READS IS OF BULK AT MOST 1048576: true; the input reads as it did. -/
def lineCommonUptoRow : OpenClaim := { program := "ytokdicaoonjimaa", sum := "5abe154f2377afe83f726467baed0ec516f33bff10c5d3187befdc5edf8e4544", func := "counterfoil/counterfoillaw11.LineCommon", spec := "lineCommon", apart := false, narrowed := true }
def LineCommonUptoSaid : Prop := lineCommonUptoRow.holds Try.pinned (OpenSpec.upto lineCommonSpec)

/-- 'counterfoillaw11.LineAgrees', WHERE WHAT IT READS IS OF BULK AT MOST 1048576: true; the input reads as it did. -/
def lineAgreesUptoRow : OpenClaim := { program := "ytokdicaoonjimaa", sum := "5abe154f2377afe83f726467baed0ec516f33bff10c5d3187befdc5edf8e4544", func := "counterfoil/counterfoillaw11.LineAgrees", spec := "lineAgrees", apart := false, narrowed := true }
def LineAgreesUptoSaid : Prop := lineAgreesUptoRow.holds Try.pinned (OpenSpec.upto lineAgreesSpec)

/-- 'counterfoillaw11.LineGoes', WHERE WHAT IT READS IS OF BULK AT MOST 1048576: true; the input reads as it did. -/
def lineGoesUptoRow : OpenClaim := { program := "ytokdicaoonjimaa", sum := "5abe154f2377afe83f726467baed0ec516f33bff10c5d3187befdc5edf8e4544", func := "counterfoil/counterfoillaw11.LineGoes", spec := "lineGoes", apart := false, narrowed := true }
def LineGoesUptoSaid : Prop := lineGoesUptoRow.holds Try.pinned (OpenSpec.upto lineGoesSpec)

/-- 'counterfoillaw11.LineNext', WHERE WHAT IT READS IS OF BULK AT MOST 1048576: true; the input reads as it did. -/
def lineNextUptoRow : OpenClaim := { program := "ytokdicaoonjimaa", sum := "5abe154f2377afe83f726467baed0ec516f33bff10c5d3187befdc5edf8e4544", func := "counterfoil/counterfoillaw11.LineNext", spec := "lineNext", apart := false, narrowed := true }
def LineNextUptoSaid : Prop := lineNextUptoRow.holds Try.pinned (OpenSpec.upto lineNextSpec)

/-- 'counterfoillaw11.LineSelf', WHERE WHAT IT READS IS OF BULK AT MOST 1048576: true; the input reads as it did. -/
def lineSelfUptoRow : OpenClaim := { program := "ytokdicaoonjimaa", sum := "5abe154f2377afe83f726467baed0ec516f33bff10c5d3187befdc5edf8e4544", func := "counterfoil/counterfoillaw11.LineSelf", spec := "lineSelf", apart := false, narrowed := true }
def LineSelfUptoSaid : Prop := lineSelfUptoRow.holds Try.pinned (OpenSpec.upto lineSelfSpec)

/-- 'counterfoillaw11.LineChain', WHERE WHAT IT READS IS OF BULK AT MOST 1048576: true; the input reads as it did. -/
def lineChainUptoRow : OpenClaim := { program := "ytokdicaoonjimaa", sum := "5abe154f2377afe83f726467baed0ec516f33bff10c5d3187befdc5edf8e4544", func := "counterfoil/counterfoillaw11.LineChain", spec := "lineChain", apart := false, narrowed := true }
def LineChainUptoSaid : Prop := lineChainUptoRow.holds Try.pinned (OpenSpec.upto lineChainSpec)

end Rows
end Go.Proofs.Ytokdicaoonjimaa
