/-
  No cell of these rows narrows 'for every input' (looked for: loops, veiled, ifaces, maps, wideKeys, modest, calm, conditions, laid).
  DERIVED. THE GIVEN ROWS OF THIS SEAT. 6 by the template 'for every input the law returns true; each argument reads behind the call as it read before'; 0 by the template 'total and deterministic' (their statements: YtlhklpkpnkjgbaaTotals.lean).
  GIVEN WITH THE SEED: the statements are not yours to turn. If you find one false, say at which input.
  Laid BY PROGRAM, IN A SANDBOX (cutbox-rows.mjs): the forced cells as the released guide's own fill.sh prints them over the translation 569e55084ca9c24e… (all of the seat's roots in one cut). By AI agents, Wed Nov 11 2026. No macro, syntax, notation, axiom, sorry.
-/
import Derived.Test.YtlhklpkpnkjgbaaChecked
import GoSem.Claim
import GoSem.ClaimJoined
import GoSem.ClaimMapViews
import Derived.JoinedTies
import Derived.KernelRfl
namespace Go.Proofs.Ytlhklpkpnkjgbaa
/- THE CELL 'sum', in the pinned program and in every row, IS THE sha256 OF THE DUMP (.gsa) THAT YtlhklpkpnkjgbaaProg.lean LOADS. Nothing in Lean hashes anything: it is a label: what it is worth is what the hold of that sum in a sandbox is worth. -/
noncomputable def Try.pinned : Pinned := { name := "ytlhklpkpnkjgbaa", sum := "569e55084ca9c24ed12f028efa41a8586dea6f656767d411457e274ce8f067e2", checked := Try.checked }
namespace Rows
def none {H : Type} : Left H := { results := [], args := [] }

/-- 'counterfoillaw08.FoldTells': WHATEVER THE INPUT: true; the input reads as it did. -/
def foldTellsSpec : ChangeSpec := { name := "foldTells", fn := fun _ => fun
  | [d] => { results := [.lit (.bool true)], args := [d] }
  | _ => none }
def foldTellsRow : OpenClaim := { program := "ytlhklpkpnkjgbaa", sum := "569e55084ca9c24ed12f028efa41a8586dea6f656767d411457e274ce8f067e2", func := "counterfoil/counterfoillaw08.FoldTells", spec := "foldTells", unfollowed := true, recurses := true, apart := false }
def FoldTellsSaid : Prop := foldTellsRow.holds Try.pinned (OpenSpec.ofChange foldTellsSpec)

/-- ITS FALSE NEIGHBOUR: 'it returns false'. Refute it at one input. -/
def foldTellsWrong : ChangeSpec := { name := "foldTells", fn := fun _ => fun
  | [d] => { results := [.lit (.bool false)], args := [d] }
  | _ => none }
def FoldTellsWrongFalsely : Prop := foldTellsRow.holds Try.pinned (OpenSpec.ofChange foldTellsWrong)

/-- 'counterfoillaw08.FoldMerges': WHATEVER THE INPUT: true; the input reads as it did. -/
def foldMergesSpec : ChangeSpec := { name := "foldMerges", fn := fun _ => fun
  | [d1, d2] => { results := [.lit (.bool true)], args := [d1, d2] }
  | _ => none }
def foldMergesRow : OpenClaim := { program := "ytlhklpkpnkjgbaa", sum := "569e55084ca9c24ed12f028efa41a8586dea6f656767d411457e274ce8f067e2", func := "counterfoil/counterfoillaw08.FoldMerges", spec := "foldMerges", unfollowed := true, recurses := true, apart := false }
def FoldMergesSaid : Prop := foldMergesRow.holds Try.pinned (OpenSpec.ofChange foldMergesSpec)

/-- ITS FALSE NEIGHBOUR: 'it returns false'. Refute it at one input. -/
def foldMergesWrong : ChangeSpec := { name := "foldMerges", fn := fun _ => fun
  | [d1, d2] => { results := [.lit (.bool false)], args := [d1, d2] }
  | _ => none }
def FoldMergesWrongFalsely : Prop := foldMergesRow.holds Try.pinned (OpenSpec.ofChange foldMergesWrong)

/-- 'counterfoillaw08.FoldPicks': WHATEVER THE INPUT: true; the input reads as it did. -/
def foldPicksSpec : ChangeSpec := { name := "foldPicks", fn := fun _ => fun
  | [d1, d2] => { results := [.lit (.bool true)], args := [d1, d2] }
  | _ => none }
def foldPicksRow : OpenClaim := { program := "ytlhklpkpnkjgbaa", sum := "569e55084ca9c24ed12f028efa41a8586dea6f656767d411457e274ce8f067e2", func := "counterfoil/counterfoillaw08.FoldPicks", spec := "foldPicks", unfollowed := true, recurses := true, apart := false }
def FoldPicksSaid : Prop := foldPicksRow.holds Try.pinned (OpenSpec.ofChange foldPicksSpec)

/-- ITS FALSE NEIGHBOUR: 'it returns false'. Refute it at one input. -/
def foldPicksWrong : ChangeSpec := { name := "foldPicks", fn := fun _ => fun
  | [d1, d2] => { results := [.lit (.bool false)], args := [d1, d2] }
  | _ => none }
def FoldPicksWrongFalsely : Prop := foldPicksRow.holds Try.pinned (OpenSpec.ofChange foldPicksWrong)

/-- 'counterfoillaw08.FoldDoes': WHATEVER THE INPUT: true; the input reads as it did. -/
def foldDoesSpec : ChangeSpec := { name := "foldDoes", fn := fun _ => fun
  | [d1, d2] => { results := [.lit (.bool true)], args := [d1, d2] }
  | _ => none }
def foldDoesRow : OpenClaim := { program := "ytlhklpkpnkjgbaa", sum := "569e55084ca9c24ed12f028efa41a8586dea6f656767d411457e274ce8f067e2", func := "counterfoil/counterfoillaw08.FoldDoes", spec := "foldDoes", unfollowed := true, recurses := true, apart := false }
def FoldDoesSaid : Prop := foldDoesRow.holds Try.pinned (OpenSpec.ofChange foldDoesSpec)

/-- ITS FALSE NEIGHBOUR: 'it returns false'. Refute it at one input. -/
def foldDoesWrong : ChangeSpec := { name := "foldDoes", fn := fun _ => fun
  | [d1, d2] => { results := [.lit (.bool false)], args := [d1, d2] }
  | _ => none }
def FoldDoesWrongFalsely : Prop := foldDoesRow.holds Try.pinned (OpenSpec.ofChange foldDoesWrong)

/-- 'counterfoillaw08.FoldTwice': WHATEVER THE INPUT: true; the input reads as it did. -/
def foldTwiceSpec : ChangeSpec := { name := "foldTwice", fn := fun _ => fun
  | [d] => { results := [.lit (.bool true)], args := [d] }
  | _ => none }
def foldTwiceRow : OpenClaim := { program := "ytlhklpkpnkjgbaa", sum := "569e55084ca9c24ed12f028efa41a8586dea6f656767d411457e274ce8f067e2", func := "counterfoil/counterfoillaw08.FoldTwice", spec := "foldTwice", unfollowed := true, recurses := true, apart := false }
def FoldTwiceSaid : Prop := foldTwiceRow.holds Try.pinned (OpenSpec.ofChange foldTwiceSpec)

/-- ITS FALSE NEIGHBOUR: 'it returns false'. Refute it at one input. -/
def foldTwiceWrong : ChangeSpec := { name := "foldTwice", fn := fun _ => fun
  | [d] => { results := [.lit (.bool false)], args := [d] }
  | _ => none }
def FoldTwiceWrongFalsely : Prop := foldTwiceRow.holds Try.pinned (OpenSpec.ofChange foldTwiceWrong)

/-- 'counterfoillaw08.FoldTakes': WHATEVER THE INPUT: true; the input reads as it did. -/
def foldTakesSpec : ChangeSpec := { name := "foldTakes", fn := fun _ => fun
  | [d1, d2] => { results := [.lit (.bool true)], args := [d1, d2] }
  | _ => none }
def foldTakesRow : OpenClaim := { program := "ytlhklpkpnkjgbaa", sum := "569e55084ca9c24ed12f028efa41a8586dea6f656767d411457e274ce8f067e2", func := "counterfoil/counterfoillaw08.FoldTakes", spec := "foldTakes", unfollowed := true, recurses := true, apart := false }
def FoldTakesSaid : Prop := foldTakesRow.holds Try.pinned (OpenSpec.ofChange foldTakesSpec)

/-- ITS FALSE NEIGHBOUR: 'it returns false'. Refute it at one input. -/
def foldTakesWrong : ChangeSpec := { name := "foldTakes", fn := fun _ => fun
  | [d1, d2] => { results := [.lit (.bool false)], args := [d1, d2] }
  | _ => none }
def FoldTakesWrongFalsely : Prop := foldTakesRow.holds Try.pinned (OpenSpec.ofChange foldTakesWrong)

/- THE SECOND FORM. 'bulk': how many values and letters a reading holds, each counted each time it is reached (what is shared counts as often as it is met; a slice's spare places count too). A statement '..UptoSaid' is the law's where the arguments, and the package variables that the reading takes, are together of bulk at most 1048576: NARROWER than '..Said'. Prove '..Said' where nothing that the law and all that it calls make is longer than what came in: it says more and counts as full. Else prove '..UptoSaid'. A law counts once. -/
mutual
def uptoBulk {H : Type} : DataW H → Nat
  | .lit (.string bytes) => bytes.length + 1
  | .lit _ => 1
  | .nil => 1
  | .ptr d => uptoBulk d + 1
  | .slice elems spare => uptoBulkAll elems + uptoBulkAll spare + 1
  | .agg parts => uptoBulkAll parts + 1
  | .iface _ d => uptoBulk d + 1
  | .map entries => uptoBulkEntries entries + 1
  | .held _ => 1
def uptoBulkAll {H : Type} : List (DataW H) → Nat
  | [] => 0
  | d :: r => uptoBulk d + uptoBulkAll r
def uptoBulkEntries {H : Type} : List (Lit × DataW H) → Nat
  | [] => 0
  | x :: r => uptoBulkEntry x + uptoBulkEntries r
def uptoBulkEntry {H : Type} : Lit × DataW H → Nat
  | (.string bytes, d) => bytes.length + uptoBulk d + 1
  | (_, d) => uptoBulk d + 1
 end
def uptoSmall : (H : Type) → List (DataW H) → Bool := fun _ ds => decide (uptoBulkAll ds ≤ 1048576)
def OpenSpec.upto (s : _root_.Go.ChangeSpec) : _root_.Go.OpenSpec := { _root_.Go.OpenSpec.ofChange s with cond := some uptoSmall }

/-- 'counterfoillaw08.FoldTells', WHERE WHAT IT READS IS OF BULK AT MOST 1048576: true; the input reads as it did. -/
def foldTellsUptoRow : OpenClaim := { program := "ytlhklpkpnkjgbaa", sum := "569e55084ca9c24ed12f028efa41a8586dea6f656767d411457e274ce8f067e2", func := "counterfoil/counterfoillaw08.FoldTells", spec := "foldTells", unfollowed := true, recurses := true, apart := false, narrowed := true }
def FoldTellsUptoSaid : Prop := foldTellsUptoRow.holds Try.pinned (OpenSpec.upto foldTellsSpec)

/-- 'counterfoillaw08.FoldMerges', WHERE WHAT IT READS IS OF BULK AT MOST 1048576: true; the input reads as it did. -/
def foldMergesUptoRow : OpenClaim := { program := "ytlhklpkpnkjgbaa", sum := "569e55084ca9c24ed12f028efa41a8586dea6f656767d411457e274ce8f067e2", func := "counterfoil/counterfoillaw08.FoldMerges", spec := "foldMerges", unfollowed := true, recurses := true, apart := false, narrowed := true }
def FoldMergesUptoSaid : Prop := foldMergesUptoRow.holds Try.pinned (OpenSpec.upto foldMergesSpec)

/-- 'counterfoillaw08.FoldPicks', WHERE WHAT IT READS IS OF BULK AT MOST 1048576: true; the input reads as it did. -/
def foldPicksUptoRow : OpenClaim := { program := "ytlhklpkpnkjgbaa", sum := "569e55084ca9c24ed12f028efa41a8586dea6f656767d411457e274ce8f067e2", func := "counterfoil/counterfoillaw08.FoldPicks", spec := "foldPicks", unfollowed := true, recurses := true, apart := false, narrowed := true }
def FoldPicksUptoSaid : Prop := foldPicksUptoRow.holds Try.pinned (OpenSpec.upto foldPicksSpec)

/-- 'counterfoillaw08.FoldDoes', WHERE WHAT IT READS IS OF BULK AT MOST 1048576: true; the input reads as it did. -/
def foldDoesUptoRow : OpenClaim := { program := "ytlhklpkpnkjgbaa", sum := "569e55084ca9c24ed12f028efa41a8586dea6f656767d411457e274ce8f067e2", func := "counterfoil/counterfoillaw08.FoldDoes", spec := "foldDoes", unfollowed := true, recurses := true, apart := false, narrowed := true }
def FoldDoesUptoSaid : Prop := foldDoesUptoRow.holds Try.pinned (OpenSpec.upto foldDoesSpec)

/-- 'counterfoillaw08.FoldTwice', WHERE WHAT IT READS IS OF BULK AT MOST 1048576: true; the input reads as it did. -/
def foldTwiceUptoRow : OpenClaim := { program := "ytlhklpkpnkjgbaa", sum := "569e55084ca9c24ed12f028efa41a8586dea6f656767d411457e274ce8f067e2", func := "counterfoil/counterfoillaw08.FoldTwice", spec := "foldTwice", unfollowed := true, recurses := true, apart := false, narrowed := true }
def FoldTwiceUptoSaid : Prop := foldTwiceUptoRow.holds Try.pinned (OpenSpec.upto foldTwiceSpec)

/-- 'counterfoillaw08.FoldTakes', WHERE WHAT IT READS IS OF BULK AT MOST 1048576: true; the input reads as it did. -/
def foldTakesUptoRow : OpenClaim := { program := "ytlhklpkpnkjgbaa", sum := "569e55084ca9c24ed12f028efa41a8586dea6f656767d411457e274ce8f067e2", func := "counterfoil/counterfoillaw08.FoldTakes", spec := "foldTakes", unfollowed := true, recurses := true, apart := false, narrowed := true }
def FoldTakesUptoSaid : Prop := foldTakesUptoRow.holds Try.pinned (OpenSpec.upto foldTakesSpec)

end Rows
end Go.Proofs.Ytlhklpkpnkjgbaa
