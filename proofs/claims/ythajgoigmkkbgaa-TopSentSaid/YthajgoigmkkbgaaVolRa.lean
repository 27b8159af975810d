/- Contracts of the document's Check, Last and Apply. -/
import Derived.Test.YthajgoigmkkbgaaVolBd
import Derived.Test.YthajgoigmkkbgaaVolP
namespace Go.Proofs.Ythajgoigmkkbgaa
open Go.RowKit

theorem refB_length (ws : List Wr) (id : Int) (bs : List ByteArray) : (refB ws id bs).length = bs.length := by simp [refB]
theorem refB_take {ws : List Wr} {id : Int} {bs : List ByteArray} {k : Nat} (h : k < bs.length) : (refB ws id bs).take (k + 1) = (refB ws id bs).take k ++ [(lastF ws id (k : Int)).getD bs[k]] := by
  rw [List.take_succ_eq_append_getElem (by rw [refB_length]; exact h)]
  simp only [refB, List.getElem_map, List.getElem_range]
  rw [List.getD_eq_getElem?_getD (l := bs), List.getElem?_eq_getElem h]
  rfl
theorem refA_take {vs : List Vl} {ws : List Wr} {k : Nat} (h : k < vs.length) : refA (vs.take (k + 1)) ws = refA (vs.take k) ws ++ [(vs[k].1, refB ws vs[k].1 vs[k].2)] := by
  unfold refA; rw [List.take_succ_eq_append_getElem h, List.map_append]; rfl
theorem refA_length (vs : List Vl) (ws : List Wr) : (refA vs ws).length = vs.length := by simp [refA]

end Go.Proofs.Ythajgoigmkkbgaa
