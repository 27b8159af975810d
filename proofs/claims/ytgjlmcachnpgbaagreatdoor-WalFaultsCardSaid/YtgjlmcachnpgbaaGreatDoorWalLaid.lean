/- The world in which the listed variables of the log's laws stand (two tables and a handle), and what a law may read of it. -/
import Derived.Test.YtgjlmcachnpgbaaGreatDoorWalNum
import Derived.Test.YtgjlmcachnpgbaaGreatDoorRows
import Derived.ChangeSame
import Derived.ChangeVars
import Derived.JoinedOf
import Derived.LaidLaws
import Derived.LaidHandle
import Derived.LaidMore
import Derived.Lay
import Derived.Stop.Joined
namespace Go.Proofs.YtgjlmcachnpgbaaGreatDoor
open Go.ChangeShapes Go.WideShapes Go.RowKit

theorem laid6_et : Tryz.prog.globalNamed "errors.errorType" = some 0 := by kernel_rfl
theorem laid6_rt : (Tryz.prog.cutTypes.find? (·.1 == "internal/reflectlite.rtype")).map (·.2) = some 156 := by kernel_rfl
theorem laid6_oneRow : ((List.range 238).filter fun t => Tryz.prog.rowNamed t [101, 114, 114, 111, 114]) = [34] := by kernel_rfl
theorem laid6_size : Tryz.prog.types.size = 238 := by kernel_rfl

/-- The variable's one cell, out of the condition. -/
theorem errCell_of_laid {W : World} (h : laidMetH Tryz.prog Rows.walFaultsRow.laid W) : ErrCell W := by
  have h' : laidMet Tryz.prog (Rows.walFaultsRow.laid.filter fun x => x.2.handleName?.isNone) W ∧ handlesMet Tryz.prog [("errors.errorType", Rows.laid_errors_errorType)] W := h
  obtain ⟨name, u, ty, e1, e2, e3, e4, e5⟩ := h'.2 _ (List.mem_singleton.2 rfl)
  have en : name = [101, 114, 114, 111, 114] := (Option.some.inj e1).symm
  subst en
  obtain rfl := Option.some.inj (laid6_rt.symm.trans e2)
  have hm : ty ∈ (List.range 238).filter fun t => Tryz.prog.rowNamed t [101, 114, 114, 111, 114] := List.mem_filter.2 ⟨List.mem_range.2 (by rw [← laid6_size]; exact e3), e4⟩
  rw [laid6_oneRow] at hm
  obtain rfl := List.mem_singleton.1 hm
  have hh : typeHandle Tryz.prog 34 = .pointer (some ⟨4, 34, none⟩) := by kernel_rfl
  rw [hh] at e5
  show W.cell? ⟨0, 0, none⟩ = _
  simpa using World.var?_cell laid6_et e5 0

/-- The settled world, the handle laid. -/
noncomputable def handWorld (os : Os) : World :=
  let w0 := World.holding Tryz.prog os ⟨#[], #[], []⟩
  { w0 with heap := w0.heap.modify 0 fun
      | .cells _ t frozen => .cells #[.iface 156 (.agg #[.pointer (some ⟨4, 34, none⟩)])] t frozen
      | o => o }
/-- The two tables. -/
def tables6 : List (String × DataW Unit) := Rows.walFaultsRow.laid.filter fun x => x.2.handleName?.isNone
/-- A world that meets the condition. -/
noncomputable def laidWorld6 (os : Os) : World := (handWorld os).layVars Tryz.prog tables6
theorem laidWorld6_os (os : Os) : (laidWorld6 os).os = os := World.layVars_os _ _ _

theorem laid_all_of {P : Program} {w0 w' : World} {laid : List (String × DataW Unit)} (hh : w'.heap = (w0.layVars P laid).heap) (hf : w0.layFits P laid [] = true) (hi : w0.layIfaces P laid w' = true) : laidMet P laid w' := by
  have e1 : (laid.filter fun x => (laid.map (·.1)).contains x.1) = laid := List.filter_eq_self.2 fun x hx => List.contains_iff_mem.2 (List.mem_map.2 ⟨x, hx, rfl⟩)
  have e2 : (laid.filter fun x => !(laid.map (·.1)).contains x.1) = [] := List.filter_eq_nil_iff.2 fun x hx => by rw [List.contains_iff_mem.2 (List.mem_map.2 ⟨x, hx, rfl⟩)]; simp
  exact laidMet_layVars (laid.map (·.1)) [] (by rw [e1]; exact hh) (by rw [e1]; exact hf) (by rw [e1]; exact hi) (by rw [e2]; exact LaidIn.none)

theorem laidWorld6_met (os : Os) (args : Array Value) : laidMetH Tryz.prog Rows.walFaultsRow.laid ((laidWorld6 os).forCall (fun _ _ => 0) ⟨#[], args, []⟩).memory := by
  refine laidMetH_of_parts ?_ ?_
  · have h : laidMet Tryz.prog tables6 (laidWorld6 os) := laid_all_of rfl (by kernel_rfl) (by kernel_rfl)
    exact h.of_heap (by simp [World.memory, World.forCall, Input.heap])
  · kernel_rfl
end Go.Proofs.YtgjlmcachnpgbaaGreatDoor
