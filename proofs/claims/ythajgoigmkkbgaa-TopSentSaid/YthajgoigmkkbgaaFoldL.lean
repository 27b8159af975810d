/- Folded writes: the fixed answer. -/
import Derived.Test.YthajgoigmkkbgaaFoldJ
namespace Go.Proofs.Ythajgoigmkkbgaa
open Go.Shelf Go.RowKit Go.Lib Go.Sort

def wakeIn : List Wr := [⟨2, 0, ⟨#[97]⟩⟩, ⟨1, 3, ⟨#[98]⟩⟩, ⟨2, 0, ⟨#[99]⟩⟩]
theorem wake_fold : foldW wakeIn = [⟨1, 3, ⟨#[98]⟩⟩, ⟨2, 0, ⟨#[99]⟩⟩] := by
  simp [foldW, wakeIn, insW, ltW]

end Go.Proofs.Ythajgoigmkkbgaa
