/- num: the number of an error: none, a number, a fault. -/
import Derived.Test.YtgnijpjdkipaaaaGreatDoorWalJ
import Derived.Test.YtgnijpjdkipaaaaGreatDoorWalA
namespace Go.Proofs.YtgnijpjdkipaaaaGreatDoor
open Go.RowKit Go.ChangeShapes Go.WideShapes

/-- The cell of errors.errorType. -/
def ErrCell (w : World) : Prop := w.cell? ⟨0, 0, none⟩ = some (.iface 156 (.agg #[.pointer (some ⟨4, 34, none⟩)]))
theorem ErrCell.pos {w : World} (h : ErrCell w) : 0 < w.heap.size := World.block_lt_of_cell? w _ h
theorem ErrCell.below {W w : World} {n : Nat} (h : ErrCell W) (hb : Below n W w) (hn : 0 < n) : ErrCell w := (hb.cell (p := ⟨0, 0, none⟩) hn).trans h

def NumEnd (w : World) (k : Int) (e : Ending) (w' : World) : Prop := e = .returned (.int .i64 k) ∧ Below w.heap.size w w'

theorem num_nil (w : World) : Calls Tryz.prog 17 #[.nilIface] w (NumEnd w 0) := by
  go_enter Tryz.func17, Tryz.ntmps17
  go_wp2
  go_ret
  exact ⟨rfl, (Below.refl _ _).alloc (Nat.le_refl _) _⟩

/-- What errors.As leaves, as num needs it. -/
def AsDone (w : World) (k : Int) (e : Ending) (w' : World) : Prop := e = .returned (.bool true) ∧ Below w.heap.size w w' ∧ w'.cell? ⟨w.heap.size, 0, none⟩ = some (.int .i64 k)
theorem AsEnd.done {w : World} {k : Int} {e : Ending} {w' : World} (h : AsEnd ⟨w.heap.size, 0, none⟩ k (w.alloc (.cells #[.int .i64 0] 56)) e w') : AsDone w k e w' := by
  obtain ⟨rfl, rfl⟩ := h
  refine ⟨rfl, ?_, ?_⟩
  · refine Below.setCell (Below.alloc (Below.alloc (Below.alloc (Below.alloc (Below.alloc (Below.refl _ _) (Nat.le_refl _) _) ?_ _) ?_ _) ?_ _) ?_ _) (Nat.le_refl _) _ <;> simp <;> omega
  · rw [World.cell?_setCell_same' _ _ _ ?_]
    have h1 : (w.alloc (.cells #[.int .i64 0] 56)).cell? ⟨w.heap.size, 0, none⟩ = some (.int .i64 0) := by simp
    rw [World.cell?_alloc_lt _ _ ⟨w.heap.size, 0, none⟩ (by simp; omega), World.cell?_alloc_lt _ _ ⟨w.heap.size, 0, none⟩ (by simp; omega), World.cell?_alloc_lt _ _ ⟨w.heap.size, 0, none⟩ (by simp; omega), World.cell?_alloc_lt _ _ ⟨w.heap.size, 0, none⟩ (by simp), h1]
    rfl

theorem num_errno (k : Int) {w : World} (hg : ErrCell w) : Calls Tryz.prog 17 #[.iface 56 (.int .i64 k)] w (NumEnd w k) := by
  have H := (as_num k ⟨w.heap.size, 0, none⟩ (.int .i64 0) (w.alloc (.cells #[.int .i64 0] 56)) (by rw [World.cell?_alloc_lt _ _ ⟨0, 0, none⟩ hg.pos]; exact hg) (by simp) (by simp)).mono fun _ _ h => h.done
  go_enter Tryz.func17, Tryz.ntmps17
  go_wp2_with fail
  refine H.mono ?_
  rintro e wA ⟨rfl, hb, hc⟩
  dsimp only
  go_wp2
  go_ret
  exact ⟨rfl, hb⟩

theorem num_fault (b : Nat) (call : ByteArray) (k : Int) {w : World} (hg : ErrCell w) (h : w.heap[b]? = some (.cells (faultV call k) 76 (0, 0))) : Calls Tryz.prog 17 #[.iface 74 (.pointer (some ⟨b, 0, none⟩))] w (NumEnd w k) := by
  have H := (as_fault b call k ⟨w.heap.size, 0, none⟩ (.int .i64 0) (w.alloc (.cells #[.int .i64 0] 56)) (by rw [World.cell?_alloc_lt _ _ ⟨0, 0, none⟩ hg.pos]; exact hg) (by simp) (by simp) (by rw [Below.heap_alloc _ _ _ (heap_lt h)]; exact h)).mono fun _ _ h => h.done
  go_enter Tryz.func17, Tryz.ntmps17
  go_wp2_with fail
  refine H.mono ?_
  rintro e wA ⟨rfl, hb, hc⟩
  dsimp only
  go_wp2
  go_ret
  exact ⟨rfl, hb⟩
end Go.Proofs.YtgnijpjdkipaaaaGreatDoor
