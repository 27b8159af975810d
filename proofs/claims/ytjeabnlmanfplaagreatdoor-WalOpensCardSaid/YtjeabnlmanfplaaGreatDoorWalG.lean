/- Contract of a slot header's validIn. -/
import Derived.Test.YtjeabnlmanfplaaGreatDoorWalF
import Derived.Deep.RegionLaw
namespace Go.Proofs.YtjeabnlmanfplaaGreatDoor
open Go.RowKit

/-- Is a slot's header, read at a sector, one of a valid slot? -/
def validB (gen len pos num : Int) (n slot : Nat) (sec : Int) : Bool := decide (1 ≤ gen ∧ gen ≤ 1099511627776 ∧ gen % 2 * (slot : Int) = sec ∧ len ≤ 32 * ((slot : Int) - 1) ∧ pos < (n : Int) - 2 * (slot : Int) ∧ 1 ≤ num ∧ num ≤ 1099511627776)

/-- What a header's block holds, and what is laid behind it. -/
structure ValidIn (w V : World) (gen len pos num : Int) : Prop where
  cells : ∀ w', Below V.heap.size V w' → w'.cell? ⟨w.heap.size, 0, none⟩ = some (.int .i64 gen) ∧ w'.cell? ⟨w.heap.size, 1, none⟩ = some (.int .i64 len) ∧ w'.cell? ⟨w.heap.size, 2, none⟩ = some (.int .i64 pos) ∧ w'.cell? ⟨w.heap.size, 3, none⟩ = some (.int .i64 num)
  bel : ∀ w', Below V.heap.size V w' → Below w.heap.size w w'
theorem validIn (w : World) (gen len pos num : Int) : ValidIn w (w.alloc (.cells #[.int .i64 gen, .int .i64 len, .int .i64 pos, .int .i64 num] 120)) gen len pos num :=
  ⟨fun _ hb => below_cells4 hb, fun _ hb => ((Below.refl _ _).alloc (Nat.le_refl _) _).trans (hb.mono (by simp))⟩

set_option maxHeartbeats 4000000 in
set_option maxRecDepth 100000 in
theorem valid_leaf0 (gen len pos num : Int) (n slot : Nat) (sec : Int) (w : World)  (g : ¬ 1 ≤ gen) :
    Calls Tryz.prog 95 #[.agg #[.int .i64 gen, .int .i64 len, .int .i64 pos, .int .i64 num], .int .i64 n, .int .i64 slot, .int .i64 sec] w fun e w' => e = .returned (.bool false) ∧ Below w.heap.size w w' := by
  have HV := Lib.hid (validIn w gen len pos num)
  have f : decide (1 ≤ gen) = false := by rw [decide_eq_false_iff_not]; exact g
  clear g
  go_enter Tryz.func95, Tryz.ntmps95
  go_wp2_with fail
  generalize w.alloc (.cells #[.int .i64 gen, .int .i64 len, .int .i64 pos, .int .i64 num] 120) = V at *
  have HB0 : Hid (Below V.heap.size V V.drew) := Lib.hid (Below.refl _ _).drew
  obtain ⟨c0, c1, c2, c3⟩ := HV.out.cells V (Below.refl _ _)
  go_quiet (fail)
  all_goals
    go_wp2
    go_ret
    exact ⟨rfl, HV.out.bel _ (below_drawsW V _)⟩

set_option maxHeartbeats 4000000 in
set_option maxRecDepth 100000 in
theorem valid_leaf1 (gen len pos num : Int) (n slot : Nat) (sec : Int) (w : World)  (g1 : 1 ≤ gen) (g : ¬ gen ≤ 1099511627776) :
    Calls Tryz.prog 95 #[.agg #[.int .i64 gen, .int .i64 len, .int .i64 pos, .int .i64 num], .int .i64 n, .int .i64 slot, .int .i64 sec] w fun e w' => e = .returned (.bool false) ∧ Below w.heap.size w w' := by
  have HV := Lib.hid (validIn w gen len pos num)
  have f : decide (gen ≤ 1099511627776) = false := by rw [decide_eq_false_iff_not]; exact g
  clear g
  go_enter Tryz.func95, Tryz.ntmps95
  go_wp2_with fail
  generalize w.alloc (.cells #[.int .i64 gen, .int .i64 len, .int .i64 pos, .int .i64 num] 120) = V at *
  have HB0 : Hid (Below V.heap.size V V.drew) := Lib.hid (Below.refl _ _).drew
  obtain ⟨c0, c1, c2, c3⟩ := HV.out.cells V (Below.refl _ _)
  go_quiet (fail)
  all_goals
    go_wp2
    go_ret
    exact ⟨rfl, HV.out.bel _ (below_drawsW V _)⟩

set_option maxHeartbeats 4000000 in
set_option maxRecDepth 100000 in
theorem valid_leaf7 (gen len pos num : Int) (n slot : Nat) (sec : Int) (w : World)  (hn : n ≤ 4096) (hs : slot ≤ 4096) (g1 : 1 ≤ gen) (g2 : gen ≤ 1099511627776) (g3 : gen % 2 * (slot : Int) = sec) (g4 : len ≤ 32 * ((slot : Int) - 1)) (g5 : pos < (n : Int) - 2 * (slot : Int)) (g6 : 1 ≤ num) (g7 : num ≤ 1099511627776) :
    Calls Tryz.prog 95 #[.agg #[.int .i64 gen, .int .i64 len, .int .i64 pos, .int .i64 num], .int .i64 n, .int .i64 slot, .int .i64 sec] w fun e w' => e = .returned (.bool true) ∧ Below w.heap.size w w' := by
  have HV := Lib.hid (validIn w gen len pos num)
  have t3 : (gen % 2 * (slot : Int) == sec) = true := by rw [beq_iff_eq]; exact g3
  clear g3
  go_enter Tryz.func95, Tryz.ntmps95
  go_wp2_with fail
  generalize w.alloc (.cells #[.int .i64 gen, .int .i64 len, .int .i64 pos, .int .i64 num] 120) = V at *
  have HB0 : Hid (Below V.heap.size V V.drew) := Lib.hid (Below.refl _ _).drew
  obtain ⟨c0, c1, c2, c3⟩ := HV.out.cells V (Below.refl _ _)
  go_region_held3 (fun w' => w'.cell? ⟨w.heap.size, 0, none⟩ = some (.int .i64 gen) ∧ w'.cell? ⟨w.heap.size, 1, none⟩ = some (.int .i64 len) ∧ w'.cell? ⟨w.heap.size, 2, none⟩ = some (.int .i64 pos) ∧ w'.cell? ⟨w.heap.size, 3, none⟩ = some (.int .i64 num)) (first | exact ⟨c0, c1, c2, c3⟩ | exact HV.out.cells _ HB1.out) (first | (((with_reducible refine (slotSector_any gen len pos num slot _ (by omega) hs).mono ?_); rintro e w1 ⟨rfl, hb1⟩; have HB1 := Lib.hid (HB0.out.trans (hb1.mono HB0.out.size)); clear hb1)) | (((with_reducible refine (longestState_any slot _ hs).mono ?_); rintro e w' ⟨rfl, rfl⟩)) | (((with_reducible refine (ringSize_any n slot _ hn hs).mono ?_); rintro e w' ⟨rfl, rfl⟩)))
  all_goals
    go_wp2
    go_ret
    exact ⟨rfl, HV.out.bel _ HB1.out⟩

end Go.Proofs.YtjeabnlmanfplaaGreatDoor
