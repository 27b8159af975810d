/-
  No cell of these rows narrows 'for every input' (looked for: loops, veiled, ifaces, maps, wideKeys, modest, calm, conditions, laid).
  DERIVED. THE GIVEN ROWS OF THIS SEAT. 3 by the template 'for every input the law returns true; each argument reads behind the call as it read before'; 0 by the template 'total and deterministic' (their statements: YtfcpgkbbocadpaaTotals.lean).
  GIVEN WITH THE SEED: the statements are not yours to turn. If you find one false, say at which input.
  Laid BY PROGRAM, IN A SANDBOX (cutbox-rows.mjs): the forced cells as the released guide's own fill.sh prints them over the translation 924bcb20e709b6ff… (all of the seat's roots in one cut). By AI agents, Wed Nov 11 2026. No macro, syntax, notation, axiom, sorry.
-/
import Derived.Test.YtfcpgkbbocadpaaChecked
import GoSem.Claim
import GoSem.ClaimJoined
import GoSem.ClaimMapViews
import Derived.JoinedTies
import Derived.KernelRfl
namespace Go.Proofs.Ytfcpgkbbocadpaa
/- THE CELL 'sum', in the pinned program and in every row, IS THE sha256 OF THE DUMP (.gsa) THAT YtfcpgkbbocadpaaProg.lean LOADS. Nothing in Lean hashes anything: it is a label: what it is worth is what the hold of that sum in a sandbox is worth. -/
noncomputable def Try.pinned : Pinned := { name := "ytfcpgkbbocadpaa", sum := "924bcb20e709b6ffec345366b52ef7f4aa8692c02f8552f542fbf2614abd745e", checked := Try.checked }
namespace Rows
def none {H : Type} : Left H := { results := [], args := [] }

/-- 'counterfoillaw16.WiresSends': WHATEVER THE INPUT: true; the input reads as it did. -/
def wiresSendsSpec : ChangeSpec := { name := "wiresSends", fn := fun _ => fun
  | [d1, d2] => { results := [.lit (.bool true)], args := [d1, d2] }
  | _ => none }
def wiresSendsRow : OpenClaim := { program := "ytfcpgkbbocadpaa", sum := "924bcb20e709b6ffec345366b52ef7f4aa8692c02f8552f542fbf2614abd745e", func := "counterfoil/counterfoillaw16.WiresSends", spec := "wiresSends", unfollowed := true, recurses := true, apart := false }
def WiresSendsSaid : Prop := wiresSendsRow.holds Try.pinned (OpenSpec.ofChange wiresSendsSpec)

/-- ITS FALSE NEIGHBOUR: 'it returns false'. Refute it at one input. -/
def wiresSendsWrong : ChangeSpec := { name := "wiresSends", fn := fun _ => fun
  | [d1, d2] => { results := [.lit (.bool false)], args := [d1, d2] }
  | _ => none }
def WiresSendsWrongFalsely : Prop := wiresSendsRow.holds Try.pinned (OpenSpec.ofChange wiresSendsWrong)

/-- 'counterfoillaw16.WiresTakes': WHATEVER THE INPUT: true; the input reads as it did. -/
def wiresTakesSpec : ChangeSpec := { name := "wiresTakes", fn := fun _ => fun
  | [d1, d2, d3, d4] => { results := [.lit (.bool true)], args := [d1, d2, d3, d4] }
  | _ => none }
def wiresTakesRow : OpenClaim := { program := "ytfcpgkbbocadpaa", sum := "924bcb20e709b6ffec345366b52ef7f4aa8692c02f8552f542fbf2614abd745e", func := "counterfoil/counterfoillaw16.WiresTakes", spec := "wiresTakes", unfollowed := true, recurses := true, apart := false }
def WiresTakesSaid : Prop := wiresTakesRow.holds Try.pinned (OpenSpec.ofChange wiresTakesSpec)

/-- ITS FALSE NEIGHBOUR: 'it returns false'. Refute it at one input. -/
def wiresTakesWrong : ChangeSpec := { name := "wiresTakes", fn := fun _ => fun
  | [d1, d2, d3, d4] => { results := [.lit (.bool false)], args := [d1, d2, d3, d4] }
  | _ => none }
def WiresTakesWrongFalsely : Prop := wiresTakesRow.holds Try.pinned (OpenSpec.ofChange wiresTakesWrong)

/-- 'counterfoillaw16.WiresBack': WHATEVER THE INPUT: true; the input reads as it did. -/
def wiresBackSpec : ChangeSpec := { name := "wiresBack", fn := fun _ => fun
  | [d1, d2, d3, d4] => { results := [.lit (.bool true)], args := [d1, d2, d3, d4] }
  | _ => none }
def wiresBackRow : OpenClaim := { program := "ytfcpgkbbocadpaa", sum := "924bcb20e709b6ffec345366b52ef7f4aa8692c02f8552f542fbf2614abd745e", func := "counterfoil/counterfoillaw16.WiresBack", spec := "wiresBack", unfollowed := true, recurses := true, apart := false }
def WiresBackSaid : Prop := wiresBackRow.holds Try.pinned (OpenSpec.ofChange wiresBackSpec)

/-- ITS FALSE NEIGHBOUR: 'it returns false'. Refute it at one input. -/
def wiresBackWrong : ChangeSpec := { name := "wiresBack", fn := fun _ => fun
  | [d1, d2, d3, d4] => { results := [.lit (.bool false)], args := [d1, d2, d3, d4] }
  | _ => none }
def WiresBackWrongFalsely : Prop := wiresBackRow.holds Try.pinned (OpenSpec.ofChange wiresBackWrong)

/- THE SECOND FORM. 'bulk': how many values and letters a reading holds, each counted each time it is reached (what is shared counts as often as it is met; a slice's spare places count too). A statement '..UptoSaid' is the law's where the arguments, and the package variables that the reading takes, are together of bulk at most 1048576: NARROWER than '..Said'. Prove '..Said' where nothing that the law and all that it calls make is longer than what came in: it says more and counts as full. Else prove '..UptoSaid'. A law counts once. -/
mutual
def uptoBulk {H : Type} : DataW H → Nat
  | .lit (.string bytes) => bytes.length + 1
  | .lit _ => 1
  | .nil => 1
  | .ptr d => uptoBulk d + 1
  | .slice elems spare => uptoBulkAll elems + uptoBulkAll spare + 1
  | .agg parts => uptoBulkAll parts + 1
  | .iface _ d => uptoBulk d + 1
  | .map entries => uptoBulkEntries entries + 1
  | .held _ => 1
def uptoBulkAll {H : Type} : List (DataW H) → Nat
  | [] => 0
  | d :: r => uptoBulk d + uptoBulkAll r
def uptoBulkEntries {H : Type} : List (Lit × DataW H) → Nat
  | [] => 0
  | x :: r => uptoBulkEntry x + uptoBulkEntries r
def uptoBulkEntry {H : Type} : Lit × DataW H → Nat
  | (.string bytes, d) => bytes.length + uptoBulk d + 1
  | (_, d) => uptoBulk d + 1
 end
def uptoSmall : (H : Type) → List (DataW H) → Bool := fun _ ds => decide (uptoBulkAll ds ≤ 1048576)
def OpenSpec.upto (s : _root_.Go.ChangeSpec) : _root_.Go.OpenSpec := { _root_.Go.OpenSpec.ofChange s with cond := some uptoSmall }

/-- 'counterfoillaw16.WiresSends', WHERE WHAT IT READS IS OF BULK AT MOST 1048576: true; the input reads as it did. -/
def wiresSendsUptoRow : OpenClaim := { program := "ytfcpgkbbocadpaa", sum := "924bcb20e709b6ffec345366b52ef7f4aa8692c02f8552f542fbf2614abd745e", func := "counterfoil/counterfoillaw16.WiresSends", spec := "wiresSends", unfollowed := true, recurses := true, apart := false, narrowed := true }
def WiresSendsUptoSaid : Prop := wiresSendsUptoRow.holds Try.pinned (OpenSpec.upto wiresSendsSpec)

/-- 'counterfoillaw16.WiresTakes', WHERE WHAT IT READS IS OF BULK AT MOST 1048576: true; the input reads as it did. -/
def wiresTakesUptoRow : OpenClaim := { program := "ytfcpgkbbocadpaa", sum := "924bcb20e709b6ffec345366b52ef7f4aa8692c02f8552f542fbf2614abd745e", func := "counterfoil/counterfoillaw16.WiresTakes", spec := "wiresTakes", unfollowed := true, recurses := true, apart := false, narrowed := true }
def WiresTakesUptoSaid : Prop := wiresTakesUptoRow.holds Try.pinned (OpenSpec.upto wiresTakesSpec)

/-- 'counterfoillaw16.WiresBack', WHERE WHAT IT READS IS OF BULK AT MOST 1048576: true; the input reads as it did. -/
def wiresBackUptoRow : OpenClaim := { program := "ytfcpgkbbocadpaa", sum := "924bcb20e709b6ffec345366b52ef7f4aa8692c02f8552f542fbf2614abd745e", func := "counterfoil/counterfoillaw16.WiresBack", spec := "wiresBack", unfollowed := true, recurses := true, apart := false, narrowed := true }
def WiresBackUptoSaid : Prop := wiresBackUptoRow.holds Try.pinned (OpenSpec.upto wiresBackSpec)

end Rows
end Go.Proofs.Ytfcpgkbbocadpaa
