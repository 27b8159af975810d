/-
  No cell of these rows narrows 'for every input' (looked for: loops, veiled, ifaces, maps, wideKeys, modest, calm, conditions, laid).
  DERIVED. THE GIVEN ROWS OF THIS SEAT. 6 by the template 'for every input the law returns true; each argument reads behind the call as it read before'; 0 by the template 'total and deterministic' (their statements: YtlncedjgpndlpaaTotals.lean).
  GIVEN WITH THE SEED: the statements are not yours to turn. If you find one false, say at which input.
  Laid BY PROGRAM, IN A SANDBOX (cutbox-rows.mjs): the forced cells as the released guide's own fill.sh prints them over the translation 0b750b795fb44e48… (all of the seat's roots in one cut). By AI agents, Wed Nov 11 2026. No macro, syntax, notation, axiom, sorry.
-/
import Derived.Test.YtlncedjgpndlpaaChecked
import GoSem.Claim
import GoSem.ClaimJoined
import GoSem.ClaimMapViews
import Derived.JoinedTies
import Derived.KernelRfl
namespace Go.Proofs.Ytlncedjgpndlpaa
/- THE CELL 'sum', in the pinned program and in every row, IS THE sha256 OF THE DUMP (.gsa) THAT YtlncedjgpndlpaaProg.lean LOADS. Nothing in Lean hashes anything: it is a label: what it is worth is what the hold of that sum in a sandbox is worth. -/
noncomputable def Try.pinned : Pinned := { name := "ytlncedjgpndlpaa", sum := "0b750b795fb44e48da21bc915f823141229f1180f214bfb56e9219a524e9a83d", checked := Try.checked }
namespace Rows
def none {H : Type} : Left H := { results := [], args := [] }

/-- 'counterfoillaw14.SegCuts': WHATEVER THE INPUT: true; the input reads as it did. -/
def segCutsSpec : ChangeSpec := { name := "segCuts", fn := fun _ => fun
  | [d1, d2] => { results := [.lit (.bool true)], args := [d1, d2] }
  | _ => none }
def segCutsRow : OpenClaim := { program := "ytlncedjgpndlpaa", sum := "0b750b795fb44e48da21bc915f823141229f1180f214bfb56e9219a524e9a83d", func := "counterfoil/counterfoillaw14.SegCuts", spec := "segCuts", apart := false }
def SegCutsSaid : Prop := segCutsRow.holds Try.pinned (OpenSpec.ofChange segCutsSpec)

/-- ITS FALSE NEIGHBOUR: 'it returns false'. Refute it at one input. -/
def segCutsWrong : ChangeSpec := { name := "segCuts", fn := fun _ => fun
  | [d1, d2] => { results := [.lit (.bool false)], args := [d1, d2] }
  | _ => none }
def SegCutsWrongFalsely : Prop := segCutsRow.holds Try.pinned (OpenSpec.ofChange segCutsWrong)

/-- 'counterfoillaw14.SegLong': WHATEVER THE INPUT: true; the input reads as it did. -/
def segLongSpec : ChangeSpec := { name := "segLong", fn := fun _ => fun
  | [d] => { results := [.lit (.bool true)], args := [d] }
  | _ => none }
def segLongRow : OpenClaim := { program := "ytlncedjgpndlpaa", sum := "0b750b795fb44e48da21bc915f823141229f1180f214bfb56e9219a524e9a83d", func := "counterfoil/counterfoillaw14.SegLong", spec := "segLong", apart := false }
def SegLongSaid : Prop := segLongRow.holds Try.pinned (OpenSpec.ofChange segLongSpec)

/-- ITS FALSE NEIGHBOUR: 'it returns false'. Refute it at one input. -/
def segLongWrong : ChangeSpec := { name := "segLong", fn := fun _ => fun
  | [d] => { results := [.lit (.bool false)], args := [d] }
  | _ => none }
def SegLongWrongFalsely : Prop := segLongRow.holds Try.pinned (OpenSpec.ofChange segLongWrong)

/-- 'counterfoillaw14.SegFeeds': WHATEVER THE INPUT: true; the input reads as it did. -/
def segFeedsSpec : ChangeSpec := { name := "segFeeds", fn := fun _ => fun
  | [d1, d2, d3] => { results := [.lit (.bool true)], args := [d1, d2, d3] }
  | _ => none }
def segFeedsRow : OpenClaim := { program := "ytlncedjgpndlpaa", sum := "0b750b795fb44e48da21bc915f823141229f1180f214bfb56e9219a524e9a83d", func := "counterfoil/counterfoillaw14.SegFeeds", spec := "segFeeds", inPlace := ["internal/abi.NoEscape", "internal/bytealg.MakeNoZero"], apart := false }
def SegFeedsSaid : Prop := segFeedsRow.holds Try.pinned (OpenSpec.ofChange segFeedsSpec)

/-- ITS FALSE NEIGHBOUR: 'it returns false'. Refute it at one input. -/
def segFeedsWrong : ChangeSpec := { name := "segFeeds", fn := fun _ => fun
  | [d1, d2, d3] => { results := [.lit (.bool false)], args := [d1, d2, d3] }
  | _ => none }
def SegFeedsWrongFalsely : Prop := segFeedsRow.holds Try.pinned (OpenSpec.ofChange segFeedsWrong)

/-- 'counterfoillaw14.SegBack': WHATEVER THE INPUT: true; the input reads as it did. -/
def segBackSpec : ChangeSpec := { name := "segBack", fn := fun _ => fun
  | [d1, d2, d3] => { results := [.lit (.bool true)], args := [d1, d2, d3] }
  | _ => none }
def segBackRow : OpenClaim := { program := "ytlncedjgpndlpaa", sum := "0b750b795fb44e48da21bc915f823141229f1180f214bfb56e9219a524e9a83d", func := "counterfoil/counterfoillaw14.SegBack", spec := "segBack", inPlace := ["internal/abi.NoEscape", "internal/bytealg.MakeNoZero"], apart := false }
def SegBackSaid : Prop := segBackRow.holds Try.pinned (OpenSpec.ofChange segBackSpec)

/-- ITS FALSE NEIGHBOUR: 'it returns false'. Refute it at one input. -/
def segBackWrong : ChangeSpec := { name := "segBack", fn := fun _ => fun
  | [d1, d2, d3] => { results := [.lit (.bool false)], args := [d1, d2, d3] }
  | _ => none }
def SegBackWrongFalsely : Prop := segBackRow.holds Try.pinned (OpenSpec.ofChange segBackWrong)

/-- 'counterfoillaw14.SegLacks': WHATEVER THE INPUT: true; the input reads as it did. -/
def segLacksSpec : ChangeSpec := { name := "segLacks", fn := fun _ => fun
  | [d1, d2, d3] => { results := [.lit (.bool true)], args := [d1, d2, d3] }
  | _ => none }
def segLacksRow : OpenClaim := { program := "ytlncedjgpndlpaa", sum := "0b750b795fb44e48da21bc915f823141229f1180f214bfb56e9219a524e9a83d", func := "counterfoil/counterfoillaw14.SegLacks", spec := "segLacks", inPlace := ["internal/abi.NoEscape", "internal/bytealg.MakeNoZero"], apart := false }
def SegLacksSaid : Prop := segLacksRow.holds Try.pinned (OpenSpec.ofChange segLacksSpec)

/-- ITS FALSE NEIGHBOUR: 'it returns false'. Refute it at one input. -/
def segLacksWrong : ChangeSpec := { name := "segLacks", fn := fun _ => fun
  | [d1, d2, d3] => { results := [.lit (.bool false)], args := [d1, d2, d3] }
  | _ => none }
def SegLacksWrongFalsely : Prop := segLacksRow.holds Try.pinned (OpenSpec.ofChange segLacksWrong)

/-- 'counterfoillaw14.SegSizes': WHATEVER THE INPUT: true; the input reads as it did. -/
def segSizesSpec : ChangeSpec := { name := "segSizes", fn := fun _ => fun
  | [d1, d2] => { results := [.lit (.bool true)], args := [d1, d2] }
  | _ => none }
def segSizesRow : OpenClaim := { program := "ytlncedjgpndlpaa", sum := "0b750b795fb44e48da21bc915f823141229f1180f214bfb56e9219a524e9a83d", func := "counterfoil/counterfoillaw14.SegSizes", spec := "segSizes", apart := false }
def SegSizesSaid : Prop := segSizesRow.holds Try.pinned (OpenSpec.ofChange segSizesSpec)

/-- ITS FALSE NEIGHBOUR: 'it returns false'. Refute it at one input. -/
def segSizesWrong : ChangeSpec := { name := "segSizes", fn := fun _ => fun
  | [d1, d2] => { results := [.lit (.bool false)], args := [d1, d2] }
  | _ => none }
def SegSizesWrongFalsely : Prop := segSizesRow.holds Try.pinned (OpenSpec.ofChange segSizesWrong)

/- THE SECOND FORM. 'bulk': how many values and letters a reading holds, each counted each time it is reached (what is shared counts as often as it is met; a slice's spare places count too). A statement '..UptoSaid' is the law's where the arguments, and the package variables that the reading takes, are together of bulk at most 1048576: NARROWER than '..Said'. Prove '..Said' where nothing that the law and all that it calls make is longer than what came in: it says more and counts as full. Else prove '..UptoSaid'. A law counts once. -/
mutual
def uptoBulk {H : Type} : DataW H → Nat
  | .lit (.string bytes) => bytes.length + 1
  | .lit _ => 1
  | .nil => 1
  | .ptr d => uptoBulk d + 1
  | .slice elems spare => uptoBulkAll elems + uptoBulkAll spare + 1
  | .agg parts => uptoBulkAll parts + 1
  | .iface _ d => uptoBulk d + 1
  | .map entries => uptoBulkEntries entries + 1
  | .held _ => 1
def uptoBulkAll {H : Type} : List (DataW H) → Nat
  | [] => 0
  | d :: r => uptoBulk d + uptoBulkAll r
def uptoBulkEntries {H : Type} : List (Lit × DataW H) → Nat
  | [] => 0
  | x :: r => uptoBulkEntry x + uptoBulkEntries r
def uptoBulkEntry {H : Type} : Lit × DataW H → Nat
  | (.string bytes, d) => bytes.length + uptoBulk d + 1
  | (_, d) => uptoBulk d + 1
 end
def uptoSmall : (H : Type) → List (DataW H) → Bool := fun _ ds => decide (uptoBulkAll ds ≤ 1048576)
def OpenSpec.upto (s : _root_.Go.ChangeSpec) : _root_.Go.OpenSpec := { _root_.Go.OpenSpec.ofChange s with cond := some uptoSmall }

/-- 'counterfoillaw14.SegCuts', WHERE WHAT IT READS IS OF BULK AT MOST 1048576: true; the input reads as it did. -/
def segCutsUptoRow : OpenClaim := { program := "ytlncedjgpndlpaa", sum := "0b750b795fb44e48da21bc915f823141229f1180f214bfb56e9219a524e9a83d", func := "counterfoil/counterfoillaw14.SegCuts", spec := "segCuts", apart := false, narrowed := true }
def SegCutsUptoSaid : Prop := segCutsUptoRow.holds Try.pinned (OpenSpec.upto segCutsSpec)

/-- 'counterfoillaw14.SegLong', WHERE WHAT IT READS IS OF BULK AT MOST 1048576: true; the input reads as it did. -/
def segLongUptoRow : OpenClaim := { program := "ytlncedjgpndlpaa", sum := "0b750b795fb44e48da21bc915f823141229f1180f214bfb56e9219a524e9a83d", func := "counterfoil/counterfoillaw14.SegLong", spec := "segLong", apart := false, narrowed := true }
def SegLongUptoSaid : Prop := segLongUptoRow.holds Try.pinned (OpenSpec.upto segLongSpec)

/-- 'counterfoillaw14.SegFeeds', WHERE WHAT IT READS IS OF BULK AT MOST 1048576: true; the input reads as it did. -/
def segFeedsUptoRow : OpenClaim := { program := "ytlncedjgpndlpaa", sum := "0b750b795fb44e48da21bc915f823141229f1180f214bfb56e9219a524e9a83d", func := "counterfoil/counterfoillaw14.SegFeeds", spec := "segFeeds", inPlace := ["internal/abi.NoEscape", "internal/bytealg.MakeNoZero"], apart := false, narrowed := true }
def SegFeedsUptoSaid : Prop := segFeedsUptoRow.holds Try.pinned (OpenSpec.upto segFeedsSpec)

/-- 'counterfoillaw14.SegBack', WHERE WHAT IT READS IS OF BULK AT MOST 1048576: true; the input reads as it did. -/
def segBackUptoRow : OpenClaim := { program := "ytlncedjgpndlpaa", sum := "0b750b795fb44e48da21bc915f823141229f1180f214bfb56e9219a524e9a83d", func := "counterfoil/counterfoillaw14.SegBack", spec := "segBack", inPlace := ["internal/abi.NoEscape", "internal/bytealg.MakeNoZero"], apart := false, narrowed := true }
def SegBackUptoSaid : Prop := segBackUptoRow.holds Try.pinned (OpenSpec.upto segBackSpec)

/-- 'counterfoillaw14.SegLacks', WHERE WHAT IT READS IS OF BULK AT MOST 1048576: true; the input reads as it did. -/
def segLacksUptoRow : OpenClaim := { program := "ytlncedjgpndlpaa", sum := "0b750b795fb44e48da21bc915f823141229f1180f214bfb56e9219a524e9a83d", func := "counterfoil/counterfoillaw14.SegLacks", spec := "segLacks", inPlace := ["internal/abi.NoEscape", "internal/bytealg.MakeNoZero"], apart := false, narrowed := true }
def SegLacksUptoSaid : Prop := segLacksUptoRow.holds Try.pinned (OpenSpec.upto segLacksSpec)

/-- 'counterfoillaw14.SegSizes', WHERE WHAT IT READS IS OF BULK AT MOST 1048576: true; the input reads as it did. -/
def segSizesUptoRow : OpenClaim := { program := "ytlncedjgpndlpaa", sum := "0b750b795fb44e48da21bc915f823141229f1180f214bfb56e9219a524e9a83d", func := "counterfoil/counterfoillaw14.SegSizes", spec := "segSizes", apart := false, narrowed := true }
def SegSizesUptoSaid : Prop := segSizesUptoRow.holds Try.pinned (OpenSpec.upto segSizesSpec)

end Rows
end Go.Proofs.Ytlncedjgpndlpaa
