/- The contract of seg.Cut. -/
import Derived.Test.YtdhmkcomngbmaaaSegA
import Derived.Test.YtdhmkcomngbmaaaItems
namespace Go.Proofs.Ytdhmkcomngbmaaa
open Go.RowKit

/-- What Cut leaves: a list of texts of the call's own, the error. -/
def CutEnd (l : List UInt8) (n : Int) (w : World) (e : Ending) (w' : World) : Prop :=
  ∃ v, e = .returned (.tuple #[v, .int .i64 (cutE l n)]) ∧ w'.ownsRow w.heap.size 9 1 v (cutL l n).length ((cutL l n).map txt) ∧ Below w.heap.size w w'

/-- The cells while the pieces are laid. -/
def cutCells (l : List UInt8) (n of k : Nat) : Array Value := ((piecesK l n of k).map txt ++ List.replicate (of - k) (Value.string ⟨#[]⟩)).toArray
theorem cutCells_none (l : List UInt8) (n of : Nat) : cutCells l n of 0 = madeCells #[.string ⟨#[]⟩] of := by
  apply Array.ext
  · simp [cutCells, piecesK, madeCells]
  · intro i h1 h2
    simp [cutCells, piecesK, madeCells]
    rw [Nat.mod_one]
    rfl
theorem cutCells_at {l : List UInt8} {n of k : Nat} (h : k < of) : (cutCells l n of k)[k]? = some (.string ⟨#[]⟩) := by
  unfold cutCells
  rw [List.getElem?_toArray, List.getElem?_append_right (by rw [List.length_map, piecesK_len]; omega), List.length_map, piecesK_len, Nat.sub_self, List.getElem?_replicate, if_pos (by omega)]
theorem cutCells_step {l : List UInt8} {n of k : Nat} (h : k < of) (u : Value) (hu : u = txt (pieceN l n of k)) : (cutCells l n of k).setIfInBounds k u = cutCells l n of (k + 1) := by
  subst hu
  unfold cutCells
  rw [List.setIfInBounds_toArray, List.set_append, List.length_map, piecesK_len, if_neg (by omega), Nat.sub_self, show of - k = (of - (k + 1)) + 1 from by omega, List.replicate_succ, List.set_cons_zero, piecesK_snoc]
  simp
theorem cutCells_done (l : List UInt8) (n of : Nat) : (cutCells l n of of) = ((piecesK l n of of).map txt).toArray := by
  unfold cutCells; rw [Nat.sub_self]; simp

theorem heap_lt {w : World} {g : Nat} {o : Obj} (h : w.heap[g]? = some o) : g < w.heap.size := by
  rcases Nat.lt_or_ge g w.heap.size with h' | h'
  · exact h'
  · simp [Array.getElem?_eq_none h'] at h

/-- The part that Cut cuts out. -/
theorem cut_part (s : ByteArray) (n i m : Nat) (h : m = min (i * n + n) s.size) : (s.extract (i * n) m).data.toList = partN s.data.toList n i := by
  rw [Lib.extract_data, partN]
  rw [show m - i * n = min n (s.size - i * n) from by omega]
  by_cases hc : n ≤ s.size - i * n
  · rw [Nat.min_eq_left hc]
  · rw [Nat.min_eq_right (by omega), List.take_of_length_le (by rw [List.length_drop, list_length]; omega), List.take_of_length_le (by rw [List.length_drop, list_length]; omega)]

end Go.Proofs.Ytdhmkcomngbmaaa
