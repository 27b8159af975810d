/- The contract of sum.Table: its 256 words. -/
import Derived.Test.YtglkoeinbjfbiaaSumRef
import Derived.Deep.WholeRow
import Derived.Laws.ResultCell
namespace Go.Proofs.Ytglkoeinbjfbiaa
open Go.RowKit

/-- The table's cells, of which the first k are made. -/
def tabCells (k : Nat) : Array Value := Array.ofFn (n := 256) fun i => Value.int .u32 (if i.val < k then (crcSteps 8 i.val : Int) else 0)

theorem tabCells_size (k : Nat) : (tabCells k).size = 256 := by simp [tabCells]
theorem tabCells_zero : tabCells 0 = Array.replicate 256 (.int .u32 0) := by
  apply Array.ext
  · simp [tabCells]
  · intro i h1 h2
    simp [tabCells]
theorem tabCells_at {k j : Nat} (hj : j < 256) : (tabCells k)[j]? = some (.int .u32 (if j < k then (crcSteps 8 j : Int) else 0)) := by
  simp [tabCells, hj]
theorem tabCells_step {k : Nat} : (tabCells k).setIfInBounds k (.int .u32 (crcSteps 8 k : Int)) = tabCells (k + 1) := by
  apply Array.ext_getElem?
  intro i
  rw [Array.getElem?_setIfInBounds, tabCells_size]
  by_cases hi : i < 256
  · rw [tabCells_at hi, tabCells_at hi]
    by_cases e : k = i
    · subst e
      rw [if_pos rfl, if_pos hi, if_pos (by omega)]
    · rw [if_neg e]
      by_cases h : i < k
      · rw [if_pos h, if_pos (by omega)]
      · rw [if_neg h, if_neg (by omega)]
  · have e1 : (tabCells k)[i]? = none := Array.getElem?_eq_none (by rw [tabCells_size]; omega)
    have e2 : (tabCells (k + 1))[i]? = none := Array.getElem?_eq_none (by rw [tabCells_size]; omega)
    rw [e1, e2]
    split
    · rename_i h; rw [if_neg (by omega)]
    · rfl
theorem tabCells_one (k : Nat) : (tabCells k).all (·.oneCell') = true := by
  rw [Array.all_eq_true]
  intro i h
  simp only [tabCells, Array.getElem_ofFn]
  rfl

theorem Try.infoTable : (Try.prog.info? 27).map (fun i => (i.zero, i.size)) = some (some (.agg (Array.replicate 256 (.int .u32 0))), 256) := by kernel_rfl

theorem run_storeCells_row {P : Program} (w : World) (g : Nat) (t : TypeId) (old cells : Array Value) (hg : w.heap[g]? = some (.cells old t (0, 0))) (ho : old.size = cells.size) (h1 : cells.all (·.oneCell') = true) :
    (storeCells ⟨g, 0, none⟩ cells.toList 0).run P w = .ok () (w.setRow g cells) := by
  have := run_storeCells_from (P := P) g t cells.toList 0 old w hg (by simp; omega) (fun v hv => (Array.all_eq_true_iff_forall_mem.1 h1) v (by simpa using hv))
  simpa using this

set_option maxHeartbeats 400000 in
set_option maxRecDepth 100000 in
theorem Table_any (w : World) :
    Calls Try.prog 14 #[] w fun e w' => e = .returned (.agg (tabCells 256)) ∧ Below w.heap.size w w' := by
  have hz := (zero_of_info Try.infoTable).1
  go_enter Try.func14, Try.ntmps14
  go_wp2
  clear hz
  rw [← tabCells_zero]
  go_loopw [3] (fun i wr => ∃ k : Nat, k ≤ 256 ∧ i = .int .i64 k ∧ Hid (wr.heap[w.heap.size]? = some (.cells (tabCells 0) 27 (0, 0))) ∧ Hid (wr.heap[w.heap.size + 1]? = some (.cells (tabCells k) 27 (0, 0))) ∧ Below w.heap.size w wr) (fun i _ => 256 - (intOf i).toNat)
  case atStart =>
    refine ⟨0, by omega, rfl, Lib.hid ?_, Lib.hid ?_, ?_⟩
    · rw [heap_alloc_old _ _ (by rw [alloc_size]; omega), heap_alloc_new]
    · exact heap_alloc2_new _ _ _
    · exact ((Below.refl _ _).alloc (Nat.le_refl _) _).alloc (by rw [alloc_size]; omega) _
  case round =>
    obtain ⟨k, hk, rfl, h0, h1, hbel⟩ := hrel
    by_cases hlt : k < 256
    · have hc := Lib.cell_of_heap h1.out k
      rw [tabCells_at hlt] at hc
      have hf := Lib.frozen_of_heap h1.out k
      go_wp2_with (go_at_call 17; refine (eightSteps_any k _ (by omega)).mono ?_; rintro e w' ⟨rfl, rfl⟩)
      go_roundw
      case rel =>
        refine ⟨k + 1, by omega, by go_num, Lib.hid ?_, Lib.hid ?_, hbel.setCell (by simp) _⟩
        · rw [Below.heap_setCell _ _ _ _ (by simp)]; exact h0.out
        · rw [← tabCells_step]; exact row_set h1.out k _
      case measure => simp [intOf]; omega
    · obtain rfl : k = 256 := by omega
      have hst := run_storeCells_row (P := Try.prog) wr w.heap.size 27 (tabCells 0) (tabCells 256) h0.out (by rw [tabCells_size, tabCells_size]) (tabCells_one _)
      have HR := Lib.hid (setRow_heap wr w.heap.size (tabCells 0) (tabCells 256) 27 (0, 0) h0.out)
      have hbel2 : Below w.heap.size w (wr.setRow w.heap.size (tabCells 256)) := hbel.trans ⟨rfl, rfl, rfl, by simp [World.setRow], fun k hk => setRow_other _ _ _ _ (by omega)⟩
      go_wp2
      refine wp_load_row 27 _ rfl (w.heap.size + 1) rfl 27 (tabCells 256) (0, 0) _ h1.out Try.underlying27 rfl (by rw [tabCells_size]; exact (zero_of_info Try.infoTable).2) ?_
      go_wp2
      (try simp only [Exit.inBlock, Exit.then])
      refine bodyPost_ret (v := .agg (tabCells 256)) ?_ rfl ⟨rfl, hbel2⟩
      exact results_cell_row rfl _ _ w.heap.size 27 (tabCells 256) (0, 0) _ rfl HR.out Try.underlying27 rfl (by rw [tabCells_size]; exact (zero_of_info Try.infoTable).2)
end Go.Proofs.Ytglkoeinbjfbiaa
