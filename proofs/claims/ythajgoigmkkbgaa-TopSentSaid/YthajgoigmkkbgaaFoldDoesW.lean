/- The walks of FoldDoes and FoldTakes. -/
import Derived.Test.YthajgoigmkkbgaaFoldL
namespace Go.Proofs.Ythajgoigmkkbgaa
open Go.Shelf Go.RowKit Go.Lib Go.Sort

theorem sameB_self {vs : List Vl} (h : rightB vs = true) : sameB vs vs = true := by simp [sameB, h]
theorem fit_applyV {vs : List Vl} {ws : List Wr} : VolsFit (applyV vs ws) := by
  by_cases h : checkE vs ws = 0
  · rw [applyV_ok h]; exact right_fit (right_apply h).2.2
  · rw [applyV_no h]; exact ⟨by simp, by simp⟩

end Go.Proofs.Ythajgoigmkkbgaa
