/- Contract of disk.New. -/
import Derived.Test.YtlelfakememckaaGreatDoorDiskA
import Derived.RegionTactic
namespace Go.Proofs.YtlelfakememckaaGreatDoor
open Go.RowKit

theorem Tryz.infoSector : (Tryz.prog.info? 95).map (fun i => (i.zero, i.size, i.bytes)) = some (some (.agg (Array.replicate 32 (.int .u8 0))), 32, 32) := by kernel_rfl

/-- The cells of a new row of sectors. -/
def newCells (n : Nat) : Array Value := madeCells (Array.replicate 32 (.int .u8 0)) (n * 32)
theorem newCells_at (n j : Nat) (h : j < n * 32) : (newCells n)[j]? = some (.int .u8 0) := by
  unfold newCells madeCells
  simp only [Array.getElem?_map, Array.getElem?_range, h, if_true, Option.map_some, Array.size_replicate, Option.some.injEq]
  rw [getElem!_pos _ _ (by simpa using Nat.mod_lt j (by omega)), Array.getElem_replicate]

theorem make_sectors (n : Nat) (h : n ≤ 4096) (w : World) : (Instr.makeSlice 64 (.int .i64 (n : Int)) (.int .i64 (n : Int))).run Tryz.prog w = .ok (.slice (some ⟨w.heap.size, 0, none⟩) n n) (w.alloc (.cells (newCells n) 95)) := by
  obtain ⟨i0, hi0, hz0, hz1, hz2⟩ := info_parts Tryz.infoSector
  have hr := run_make (P := Tryz.prog) w 64 95 i0 _ Tryz.underlying64 hi0 hz0 .i64 .i64 n n (by omega) (Int.le_refl _) (by rw [hz2]; omega) (by omega)
  rw [hz1] at hr
  simp only [Int.toNat_natCast] at hr
  exact hr

theorem secs_new {w : World} {b n : Nat} (h : w.heap[b]? = some (.cells (newCells n) 95 (0, 0))) : Secs w b (List.replicate n (List.replicate 32 0)) := by
  refine ⟨(Array.getElem?_eq_some_iff.1 h).1, fun i hi => ?_⟩
  have hi' : i < n := by simpa using hi
  rw [List.getElem_replicate]
  refine ⟨by simp, fun j v hv => ?_, fun j hj => ?_⟩
  · have hj : j < 32 := by
      have := (List.getElem?_eq_some_iff.1 hv).1
      simpa [byteVals] using this
    rw [Lib.cell_of_heap h, newCells_at n _ (by omega), ← hv]
    unfold byteVals
    rw [List.map_replicate, List.getElem?_replicate, if_pos hj]
    rfl
  · rw [Lib.cell_of_heap h, newCells_at n _ (by omega)]
    exact ⟨rfl, Lib.frozen_of_heap h _⟩

def NewEnd (n : Nat) (w : World) (e : Ending) (w' : World) : Prop :=
  ∃ a F, e = .returned (.pointer (some ⟨a, 0, none⟩)) ∧ IsDisk w' F a (DSt.new n) ∧ (∀ k, F k → w.heap.size ≤ k) ∧ Below w.heap.size w w'

theorem New_no (n : Int) (w : World) (h : n < 1 ∨ 4096 < n) : Calls Tryz.prog 5 #[.int .i64 n] w fun e w' => e = .returned (.pointer none) ∧ w = w' := by
  rcases h with h | h
  · go_enter Tryz.func5, Tryz.ntmps5
    go_wp2
    go_ret
    exact ⟨rfl, rfl⟩
  · have h2 : decide (n < 1) = false := by simp; omega
    go_enter Tryz.func5, Tryz.ntmps5
    go_wp2
    go_ret
    exact ⟨rfl, rfl⟩

theorem heap_three (w : World) (o1 o2 o3 : Obj) : (((w.alloc o1).alloc o2).alloc o3).drew.heap[w.heap.size]? = some o1 ∧ (((w.alloc o1).alloc o2).alloc o3).drew.heap[w.heap.size + 1]? = some o2 ∧
    (((w.alloc o1).alloc o2).alloc o3).drew.heap[w.heap.size + 1 + 1]? = some o3 ∧ (((w.alloc o1).alloc o2).alloc o3).drew.heap.size = w.heap.size + 3 := by
  show (((w.heap.push o1).push o2).push o3)[w.heap.size]? = _ ∧ (((w.heap.push o1).push o2).push o3)[w.heap.size + 1]? = _ ∧ (((w.heap.push o1).push o2).push o3)[w.heap.size + 1 + 1]? = _ ∧ (((w.heap.push o1).push o2).push o3).size = _
  refine ⟨?_, ?_, ?_, by simp⟩
  · rw [Array.getElem?_push, if_neg (by simp; omega), Array.getElem?_push, if_neg (by simp), Array.getElem?_push, if_pos rfl]
  · rw [Array.getElem?_push, if_neg (by simp), Array.getElem?_push, if_pos (by simp)]
  · rw [Array.getElem?_push, if_pos (by simp)]

theorem new_end (n s u : Nat) (w : World) (h1 : 1 ≤ n) (h2 : n ≤ 4096) (hsu : (s = w.heap.size ∧ u = w.heap.size + 1) ∨ (s = w.heap.size + 1 ∧ u = w.heap.size)) :
    NewEnd n w (.returned (.pointer (some ⟨w.heap.size + 1 + 1, 0, none⟩))) (((w.alloc (.cells (newCells n) 95)).alloc (.cells (newCells n) 95)).alloc
      (.cells #[.slice (some ⟨s, 0, none⟩) n n, .slice (some ⟨u, 0, none⟩) n n, .slice none 0 0, .bool false, .bool false, .int .i64 0] 69)).drew := by
  obtain ⟨g1, g2, g3, g4⟩ := heap_three w (.cells (newCells n) 95) (.cells (newCells n) 95) (.cells #[.slice (some ⟨s, 0, none⟩) n n, .slice (some ⟨u, 0, none⟩) n n, .slice none 0 0, .bool false, .bool false, .int .i64 0] 69)
  have hb : Below w.heap.size w (((w.alloc (.cells (newCells n) 95)).alloc (.cells (newCells n) 95)).alloc
      (.cells #[.slice (some ⟨s, 0, none⟩) n n, .slice (some ⟨u, 0, none⟩) n n, .slice none 0 0, .bool false, .bool false, .int .i64 0] 69)).drew :=
    ((((Below.refl _ _).alloc (Nat.le_refl _) _).alloc (by simp) _).alloc (by simp; omega) _).drew
  generalize (((w.alloc (.cells (newCells n) 95)).alloc (.cells (newCells n) 95)).alloc
      (.cells #[.slice (some ⟨s, 0, none⟩) n n, .slice (some ⟨u, 0, none⟩) n n, .slice none 0 0, .bool false, .bool false, .int .i64 0] 69)).drew = W at *
  have hs : W.heap[s]? = some (.cells (newCells n) 95 (0, 0)) := by rcases hsu with ⟨rfl, _⟩ | ⟨rfl, _⟩ <;> assumption
  have hu : W.heap[u]? = some (.cells (newCells n) 95 (0, 0)) := by rcases hsu with ⟨_, rfl⟩ | ⟨_, rfl⟩ <;> assumption
  have hm : n ≤ maxLen := by unfold maxLen; omega
  have hl : (DSt.new n).seen.length = n := by simp [DSt.new]
  have hl2 : (DSt.new n).firm.length = n := by simp [DSt.new]
  refine ⟨w.heap.size + 1 + 1, fun k => w.heap.size ≤ k ∧ k < w.heap.size + 3, rfl, ⟨DSt.new_ok h1 h2, s, n, u, n, .slice none 0 0, ?_⟩, fun k hk => hk.1, hb⟩
  refine ⟨?_, secs_new hs, secs_new hu, World.ownsRow_nil _ _ _ _, ?_, by omega, by omega, by omega, by simp [Value.ownBlock], by simp [Value.ownBlock], by simp [Value.ownBlock], by omega, by omega, by omega, by simp [Value.ownBlock], fun k hk => by omega⟩
  · unfold diskCells
    rw [hl, hl2]
    exact g3
  · rw [hl, hl2]; exact ⟨Nat.le_refl _, hm, Nat.le_refl _, hm⟩

set_option maxHeartbeats 400000 in
theorem New_ok (n : Nat) (w : World) (h1 : 1 ≤ n) (h2 : n ≤ 4096) : Calls Tryz.prog 5 #[.int .i64 n] w (NewEnd n w) := by
  have hm := make_sectors n h2
  have h3 : decide ((n : Int) < 1) = false := by simp; omega
  have h4 : decide (4096 < (n : Int)) = false := by simp; omega
  go_enter Tryz.func5, Tryz.ntmps5
  go_wp2
  go_region
  · go_wp2
    go_ret
    exact new_end n _ _ w h1 h2 (Or.inl ⟨rfl, rfl⟩)
  · go_wp2
    go_ret
    exact new_end n _ _ w h1 h2 (Or.inr ⟨rfl, rfl⟩)
end Go.Proofs.YtlelfakememckaaGreatDoor
