/- Contract of a slot header's validIn, whatever the header holds. -/
import Derived.Test.YtlelfakememckaaGreatDoorWalRefB
import Derived.Test.YtlelfakememckaaGreatDoorPlain
namespace Go.Proofs.YtlelfakememckaaGreatDoor
open Go.RowKit

set_option maxHeartbeats 4000000 in
set_option maxRecDepth 100000 in
theorem valid_at0 (gen len pos num : Int) (n slot : Nat) (sec : Int) (w : World) (hn : n ≤ 4096) (hs : slot ≤ 4096) (h0 : 0 ≤ gen)  (g1 : ¬ 1 ≤ gen) :
    Calls Tryz.prog 81 #[.agg #[.int .i64 gen, .int .i64 len, .int .i64 pos, .int .i64 num], .int .i64 n, .int .i64 slot, .int .i64 sec] w fun e w' => e = .returned (.bool false) ∧ Below w.heap.size w w' := by
  have HV := Lib.hid (validIn w gen len pos num)
  have HSec := Lib.hid (fun w' => slotSector_any gen len pos num slot w' h0 hs)
  have HLs := Lib.hid (fun w' => longestState_any slot w' hs)
  have HRs := Lib.hid (fun w' => ringSize_any n slot w' hn hs)

  have f0 : decide (1 ≤ gen) = false := by rw [decide_eq_false_iff_not]; exact g1
  clear h0 g1
  obtain ⟨sx, hsx⟩ : ∃ sx, gen % 2 * (slot : Int) = sx := ⟨_, rfl⟩
  rw [hsx] at HSec 
  clear hsx
  go_enter Tryz.func81, Tryz.ntmps81
  go_wp2_with fail
  generalize w.alloc (.cells #[.int .i64 gen, .int .i64 len, .int .i64 pos, .int .i64 num] 107) = V at *
  have c0 : ∀ p : LatW V, p.wd.cell? ⟨w.heap.size, 0, none⟩ = some (.int .i64 gen) := fun p => (HV.out.cells p.wd p.bel).1
  have c1 : ∀ p : LatW V, p.wd.cell? ⟨w.heap.size, 1, none⟩ = some (.int .i64 len) := fun p => (HV.out.cells p.wd p.bel).2.1
  have c2 : ∀ p : LatW V, p.wd.cell? ⟨w.heap.size, 2, none⟩ = some (.int .i64 pos) := fun p => (HV.out.cells p.wd p.bel).2.2.1
  have c3 : ∀ p : LatW V, p.wd.cell? ⟨w.heap.size, 3, none⟩ = some (.int .i64 num) := fun p => (HV.out.cells p.wd p.bel).2.2.2
  generalize w.heap.size = H at c0 c1 c2 c3 ⊢
  refine wp_region_later (by kernel_rfl) (by kernel_rfl) ?_
  repeat (quiet_step (first
    | (go_at_call 58; exact Calls.later_of (HSec.out _))
    | (go_at_call 72; exact Calls.later_same (HLs.out _))
    | (go_at_call 56; exact Calls.later_same (HRs.out _))))
  refine wpQuiet_nil ?_
  intro w9 hw9
  obtain ⟨p9, hw9'⟩ := hw9
  subst hw9'
  go_wp2_with fail
  go_ret
  exact ⟨rfl, HV.out.bel _ p9.bel⟩

set_option maxHeartbeats 4000000 in
set_option maxRecDepth 100000 in
theorem valid_at1 (gen len pos num : Int) (n slot : Nat) (sec : Int) (w : World) (hn : n ≤ 4096) (hs : slot ≤ 4096) (h0 : 0 ≤ gen) (g1 : 1 ≤ gen) (g2 : ¬ gen ≤ 1099511627776) :
    Calls Tryz.prog 81 #[.agg #[.int .i64 gen, .int .i64 len, .int .i64 pos, .int .i64 num], .int .i64 n, .int .i64 slot, .int .i64 sec] w fun e w' => e = .returned (.bool false) ∧ Below w.heap.size w w' := by
  have HV := Lib.hid (validIn w gen len pos num)
  have HSec := Lib.hid (fun w' => slotSector_any gen len pos num slot w' h0 hs)
  have HLs := Lib.hid (fun w' => longestState_any slot w' hs)
  have HRs := Lib.hid (fun w' => ringSize_any n slot w' hn hs)
  have f0 : decide (1 ≤ gen) = true := by rw [decide_eq_true_iff]; exact g1
  have f1 : decide (gen ≤ 1099511627776) = false := by rw [decide_eq_false_iff_not]; exact g2
  clear h0 g1 g2
  obtain ⟨sx, hsx⟩ : ∃ sx, gen % 2 * (slot : Int) = sx := ⟨_, rfl⟩
  rw [hsx] at HSec 
  clear hsx
  go_enter Tryz.func81, Tryz.ntmps81
  go_wp2_with fail
  generalize w.alloc (.cells #[.int .i64 gen, .int .i64 len, .int .i64 pos, .int .i64 num] 107) = V at *
  have c0 : ∀ p : LatW V, p.wd.cell? ⟨w.heap.size, 0, none⟩ = some (.int .i64 gen) := fun p => (HV.out.cells p.wd p.bel).1
  have c1 : ∀ p : LatW V, p.wd.cell? ⟨w.heap.size, 1, none⟩ = some (.int .i64 len) := fun p => (HV.out.cells p.wd p.bel).2.1
  have c2 : ∀ p : LatW V, p.wd.cell? ⟨w.heap.size, 2, none⟩ = some (.int .i64 pos) := fun p => (HV.out.cells p.wd p.bel).2.2.1
  have c3 : ∀ p : LatW V, p.wd.cell? ⟨w.heap.size, 3, none⟩ = some (.int .i64 num) := fun p => (HV.out.cells p.wd p.bel).2.2.2
  generalize w.heap.size = H at c0 c1 c2 c3 ⊢
  refine wp_region_later (by kernel_rfl) (by kernel_rfl) ?_
  repeat (quiet_step (first
    | (go_at_call 58; exact Calls.later_of (HSec.out _))
    | (go_at_call 72; exact Calls.later_same (HLs.out _))
    | (go_at_call 56; exact Calls.later_same (HRs.out _))))
  refine wpQuiet_nil ?_
  intro w9 hw9
  obtain ⟨p9, hw9'⟩ := hw9
  subst hw9'
  go_wp2_with fail
  go_ret
  exact ⟨rfl, HV.out.bel _ p9.bel⟩

set_option maxHeartbeats 4000000 in
set_option maxRecDepth 100000 in
theorem valid_at2 (gen len pos num : Int) (n slot : Nat) (sec : Int) (w : World) (hn : n ≤ 4096) (hs : slot ≤ 4096) (h0 : 0 ≤ gen) (g1 : 1 ≤ gen) (g2 : gen ≤ 1099511627776) (g3 : ¬ gen % 2 * (slot : Int) = sec) :
    Calls Tryz.prog 81 #[.agg #[.int .i64 gen, .int .i64 len, .int .i64 pos, .int .i64 num], .int .i64 n, .int .i64 slot, .int .i64 sec] w fun e w' => e = .returned (.bool false) ∧ Below w.heap.size w w' := by
  have HV := Lib.hid (validIn w gen len pos num)
  have HSec := Lib.hid (fun w' => slotSector_any gen len pos num slot w' h0 hs)
  have HLs := Lib.hid (fun w' => longestState_any slot w' hs)
  have HRs := Lib.hid (fun w' => ringSize_any n slot w' hn hs)
  have f0 : decide (1 ≤ gen) = true := by rw [decide_eq_true_iff]; exact g1
  have f1 : decide (gen ≤ 1099511627776) = true := by rw [decide_eq_true_iff]; exact g2
  have f2 : (gen % 2 * (slot : Int) == sec) = false := by rw [beq_eq_false_iff_ne]; exact g3
  clear h0 g1 g2 g3
  obtain ⟨sx, hsx⟩ : ∃ sx, gen % 2 * (slot : Int) = sx := ⟨_, rfl⟩
  rw [hsx] at HSec f2
  clear hsx
  go_enter Tryz.func81, Tryz.ntmps81
  go_wp2_with fail
  generalize w.alloc (.cells #[.int .i64 gen, .int .i64 len, .int .i64 pos, .int .i64 num] 107) = V at *
  have c0 : ∀ p : LatW V, p.wd.cell? ⟨w.heap.size, 0, none⟩ = some (.int .i64 gen) := fun p => (HV.out.cells p.wd p.bel).1
  have c1 : ∀ p : LatW V, p.wd.cell? ⟨w.heap.size, 1, none⟩ = some (.int .i64 len) := fun p => (HV.out.cells p.wd p.bel).2.1
  have c2 : ∀ p : LatW V, p.wd.cell? ⟨w.heap.size, 2, none⟩ = some (.int .i64 pos) := fun p => (HV.out.cells p.wd p.bel).2.2.1
  have c3 : ∀ p : LatW V, p.wd.cell? ⟨w.heap.size, 3, none⟩ = some (.int .i64 num) := fun p => (HV.out.cells p.wd p.bel).2.2.2
  generalize w.heap.size = H at c0 c1 c2 c3 ⊢
  refine wp_region_later (by kernel_rfl) (by kernel_rfl) ?_
  repeat (quiet_step (first
    | (go_at_call 58; exact Calls.later_of (HSec.out _))
    | (go_at_call 72; exact Calls.later_same (HLs.out _))
    | (go_at_call 56; exact Calls.later_same (HRs.out _))))
  refine wpQuiet_nil ?_
  intro w9 hw9
  obtain ⟨p9, hw9'⟩ := hw9
  subst hw9'
  go_wp2_with fail
  go_ret
  exact ⟨rfl, HV.out.bel _ p9.bel⟩

set_option maxHeartbeats 4000000 in
set_option maxRecDepth 100000 in
theorem valid_at3 (gen len pos num : Int) (n slot : Nat) (sec : Int) (w : World) (hn : n ≤ 4096) (hs : slot ≤ 4096) (h0 : 0 ≤ gen) (g1 : 1 ≤ gen) (g2 : gen ≤ 1099511627776) (g3 : gen % 2 * (slot : Int) = sec) (g4 : ¬ len ≤ 32 * ((slot : Int) - 1)) :
    Calls Tryz.prog 81 #[.agg #[.int .i64 gen, .int .i64 len, .int .i64 pos, .int .i64 num], .int .i64 n, .int .i64 slot, .int .i64 sec] w fun e w' => e = .returned (.bool false) ∧ Below w.heap.size w w' := by
  have HV := Lib.hid (validIn w gen len pos num)
  have HSec := Lib.hid (fun w' => slotSector_any gen len pos num slot w' h0 hs)
  have HLs := Lib.hid (fun w' => longestState_any slot w' hs)
  have HRs := Lib.hid (fun w' => ringSize_any n slot w' hn hs)
  have f0 : decide (1 ≤ gen) = true := by rw [decide_eq_true_iff]; exact g1
  have f1 : decide (gen ≤ 1099511627776) = true := by rw [decide_eq_true_iff]; exact g2
  have f2 : (gen % 2 * (slot : Int) == sec) = true := by rw [beq_iff_eq]; exact g3
  have f3 : decide (len ≤ 32 * ((slot : Int) - 1)) = false := by rw [decide_eq_false_iff_not]; exact g4
  clear h0 g1 g2 g3 g4
  obtain ⟨sx, hsx⟩ : ∃ sx, gen % 2 * (slot : Int) = sx := ⟨_, rfl⟩
  rw [hsx] at HSec f2
  clear hsx
  go_enter Tryz.func81, Tryz.ntmps81
  go_wp2_with fail
  generalize w.alloc (.cells #[.int .i64 gen, .int .i64 len, .int .i64 pos, .int .i64 num] 107) = V at *
  have c0 : ∀ p : LatW V, p.wd.cell? ⟨w.heap.size, 0, none⟩ = some (.int .i64 gen) := fun p => (HV.out.cells p.wd p.bel).1
  have c1 : ∀ p : LatW V, p.wd.cell? ⟨w.heap.size, 1, none⟩ = some (.int .i64 len) := fun p => (HV.out.cells p.wd p.bel).2.1
  have c2 : ∀ p : LatW V, p.wd.cell? ⟨w.heap.size, 2, none⟩ = some (.int .i64 pos) := fun p => (HV.out.cells p.wd p.bel).2.2.1
  have c3 : ∀ p : LatW V, p.wd.cell? ⟨w.heap.size, 3, none⟩ = some (.int .i64 num) := fun p => (HV.out.cells p.wd p.bel).2.2.2
  generalize w.heap.size = H at c0 c1 c2 c3 ⊢
  refine wp_region_later (by kernel_rfl) (by kernel_rfl) ?_
  repeat (quiet_step (first
    | (go_at_call 58; exact Calls.later_of (HSec.out _))
    | (go_at_call 72; exact Calls.later_same (HLs.out _))
    | (go_at_call 56; exact Calls.later_same (HRs.out _))))
  refine wpQuiet_nil ?_
  intro w9 hw9
  obtain ⟨p9, hw9'⟩ := hw9
  subst hw9'
  go_wp2_with fail
  go_ret
  exact ⟨rfl, HV.out.bel _ p9.bel⟩

set_option maxHeartbeats 4000000 in
set_option maxRecDepth 100000 in
theorem valid_at4 (gen len pos num : Int) (n slot : Nat) (sec : Int) (w : World) (hn : n ≤ 4096) (hs : slot ≤ 4096) (h0 : 0 ≤ gen) (g1 : 1 ≤ gen) (g2 : gen ≤ 1099511627776) (g3 : gen % 2 * (slot : Int) = sec) (g4 : len ≤ 32 * ((slot : Int) - 1)) (g5 : ¬ pos < (n : Int) - 2 * (slot : Int)) :
    Calls Tryz.prog 81 #[.agg #[.int .i64 gen, .int .i64 len, .int .i64 pos, .int .i64 num], .int .i64 n, .int .i64 slot, .int .i64 sec] w fun e w' => e = .returned (.bool false) ∧ Below w.heap.size w w' := by
  have HV := Lib.hid (validIn w gen len pos num)
  have HSec := Lib.hid (fun w' => slotSector_any gen len pos num slot w' h0 hs)
  have HLs := Lib.hid (fun w' => longestState_any slot w' hs)
  have HRs := Lib.hid (fun w' => ringSize_any n slot w' hn hs)
  have f0 : decide (1 ≤ gen) = true := by rw [decide_eq_true_iff]; exact g1
  have f1 : decide (gen ≤ 1099511627776) = true := by rw [decide_eq_true_iff]; exact g2
  have f2 : (gen % 2 * (slot : Int) == sec) = true := by rw [beq_iff_eq]; exact g3
  have f3 : decide (len ≤ 32 * ((slot : Int) - 1)) = true := by rw [decide_eq_true_iff]; exact g4
  have f4 : decide (pos < (n : Int) - 2 * (slot : Int)) = false := by rw [decide_eq_false_iff_not]; exact g5
  clear h0 g1 g2 g3 g4 g5
  obtain ⟨sx, hsx⟩ : ∃ sx, gen % 2 * (slot : Int) = sx := ⟨_, rfl⟩
  rw [hsx] at HSec f2
  clear hsx
  go_enter Tryz.func81, Tryz.ntmps81
  go_wp2_with fail
  generalize w.alloc (.cells #[.int .i64 gen, .int .i64 len, .int .i64 pos, .int .i64 num] 107) = V at *
  have c0 : ∀ p : LatW V, p.wd.cell? ⟨w.heap.size, 0, none⟩ = some (.int .i64 gen) := fun p => (HV.out.cells p.wd p.bel).1
  have c1 : ∀ p : LatW V, p.wd.cell? ⟨w.heap.size, 1, none⟩ = some (.int .i64 len) := fun p => (HV.out.cells p.wd p.bel).2.1
  have c2 : ∀ p : LatW V, p.wd.cell? ⟨w.heap.size, 2, none⟩ = some (.int .i64 pos) := fun p => (HV.out.cells p.wd p.bel).2.2.1
  have c3 : ∀ p : LatW V, p.wd.cell? ⟨w.heap.size, 3, none⟩ = some (.int .i64 num) := fun p => (HV.out.cells p.wd p.bel).2.2.2
  generalize w.heap.size = H at c0 c1 c2 c3 ⊢
  refine wp_region_later (by kernel_rfl) (by kernel_rfl) ?_
  repeat (quiet_step (first
    | (go_at_call 58; exact Calls.later_of (HSec.out _))
    | (go_at_call 72; exact Calls.later_same (HLs.out _))
    | (go_at_call 56; exact Calls.later_same (HRs.out _))))
  refine wpQuiet_nil ?_
  intro w9 hw9
  obtain ⟨p9, hw9'⟩ := hw9
  subst hw9'
  go_wp2_with fail
  go_ret
  exact ⟨rfl, HV.out.bel _ p9.bel⟩

set_option maxHeartbeats 4000000 in
set_option maxRecDepth 100000 in
theorem valid_at5 (gen len pos num : Int) (n slot : Nat) (sec : Int) (w : World) (hn : n ≤ 4096) (hs : slot ≤ 4096) (h0 : 0 ≤ gen) (g1 : 1 ≤ gen) (g2 : gen ≤ 1099511627776) (g3 : gen % 2 * (slot : Int) = sec) (g4 : len ≤ 32 * ((slot : Int) - 1)) (g5 : pos < (n : Int) - 2 * (slot : Int)) (g6 : ¬ 1 ≤ num) :
    Calls Tryz.prog 81 #[.agg #[.int .i64 gen, .int .i64 len, .int .i64 pos, .int .i64 num], .int .i64 n, .int .i64 slot, .int .i64 sec] w fun e w' => e = .returned (.bool false) ∧ Below w.heap.size w w' := by
  have HV := Lib.hid (validIn w gen len pos num)
  have HSec := Lib.hid (fun w' => slotSector_any gen len pos num slot w' h0 hs)
  have HLs := Lib.hid (fun w' => longestState_any slot w' hs)
  have HRs := Lib.hid (fun w' => ringSize_any n slot w' hn hs)
  have f0 : decide (1 ≤ gen) = true := by rw [decide_eq_true_iff]; exact g1
  have f1 : decide (gen ≤ 1099511627776) = true := by rw [decide_eq_true_iff]; exact g2
  have f2 : (gen % 2 * (slot : Int) == sec) = true := by rw [beq_iff_eq]; exact g3
  have f3 : decide (len ≤ 32 * ((slot : Int) - 1)) = true := by rw [decide_eq_true_iff]; exact g4
  have f4 : decide (pos < (n : Int) - 2 * (slot : Int)) = true := by rw [decide_eq_true_iff]; exact g5
  have f5 : decide (1 ≤ num) = false := by rw [decide_eq_false_iff_not]; exact g6
  clear h0 g1 g2 g3 g4 g5 g6
  obtain ⟨sx, hsx⟩ : ∃ sx, gen % 2 * (slot : Int) = sx := ⟨_, rfl⟩
  rw [hsx] at HSec f2
  clear hsx
  go_enter Tryz.func81, Tryz.ntmps81
  go_wp2_with fail
  generalize w.alloc (.cells #[.int .i64 gen, .int .i64 len, .int .i64 pos, .int .i64 num] 107) = V at *
  have c0 : ∀ p : LatW V, p.wd.cell? ⟨w.heap.size, 0, none⟩ = some (.int .i64 gen) := fun p => (HV.out.cells p.wd p.bel).1
  have c1 : ∀ p : LatW V, p.wd.cell? ⟨w.heap.size, 1, none⟩ = some (.int .i64 len) := fun p => (HV.out.cells p.wd p.bel).2.1
  have c2 : ∀ p : LatW V, p.wd.cell? ⟨w.heap.size, 2, none⟩ = some (.int .i64 pos) := fun p => (HV.out.cells p.wd p.bel).2.2.1
  have c3 : ∀ p : LatW V, p.wd.cell? ⟨w.heap.size, 3, none⟩ = some (.int .i64 num) := fun p => (HV.out.cells p.wd p.bel).2.2.2
  generalize w.heap.size = H at c0 c1 c2 c3 ⊢
  refine wp_region_later (by kernel_rfl) (by kernel_rfl) ?_
  repeat (quiet_step (first
    | (go_at_call 58; exact Calls.later_of (HSec.out _))
    | (go_at_call 72; exact Calls.later_same (HLs.out _))
    | (go_at_call 56; exact Calls.later_same (HRs.out _))))
  refine wpQuiet_nil ?_
  intro w9 hw9
  obtain ⟨p9, hw9'⟩ := hw9
  subst hw9'
  go_wp2_with fail
  go_ret
  exact ⟨rfl, HV.out.bel _ p9.bel⟩

set_option maxHeartbeats 4000000 in
set_option maxRecDepth 100000 in
theorem valid_at6 (gen len pos num : Int) (n slot : Nat) (sec : Int) (w : World) (hn : n ≤ 4096) (hs : slot ≤ 4096) (h0 : 0 ≤ gen) (g1 : 1 ≤ gen) (g2 : gen ≤ 1099511627776) (g3 : gen % 2 * (slot : Int) = sec) (g4 : len ≤ 32 * ((slot : Int) - 1)) (g5 : pos < (n : Int) - 2 * (slot : Int)) (g6 : 1 ≤ num) (g7 : ¬ num ≤ 1099511627776) :
    Calls Tryz.prog 81 #[.agg #[.int .i64 gen, .int .i64 len, .int .i64 pos, .int .i64 num], .int .i64 n, .int .i64 slot, .int .i64 sec] w fun e w' => e = .returned (.bool false) ∧ Below w.heap.size w w' := by
  have HV := Lib.hid (validIn w gen len pos num)
  have HSec := Lib.hid (fun w' => slotSector_any gen len pos num slot w' h0 hs)
  have HLs := Lib.hid (fun w' => longestState_any slot w' hs)
  have HRs := Lib.hid (fun w' => ringSize_any n slot w' hn hs)
  have f0 : decide (1 ≤ gen) = true := by rw [decide_eq_true_iff]; exact g1
  have f1 : decide (gen ≤ 1099511627776) = true := by rw [decide_eq_true_iff]; exact g2
  have f2 : (gen % 2 * (slot : Int) == sec) = true := by rw [beq_iff_eq]; exact g3
  have f3 : decide (len ≤ 32 * ((slot : Int) - 1)) = true := by rw [decide_eq_true_iff]; exact g4
  have f4 : decide (pos < (n : Int) - 2 * (slot : Int)) = true := by rw [decide_eq_true_iff]; exact g5
  have f5 : decide (1 ≤ num) = true := by rw [decide_eq_true_iff]; exact g6
  have f6 : decide (num ≤ 1099511627776) = false := by rw [decide_eq_false_iff_not]; exact g7
  clear h0 g1 g2 g3 g4 g5 g6 g7
  obtain ⟨sx, hsx⟩ : ∃ sx, gen % 2 * (slot : Int) = sx := ⟨_, rfl⟩
  rw [hsx] at HSec f2
  clear hsx
  go_enter Tryz.func81, Tryz.ntmps81
  go_wp2_with fail
  generalize w.alloc (.cells #[.int .i64 gen, .int .i64 len, .int .i64 pos, .int .i64 num] 107) = V at *
  have c0 : ∀ p : LatW V, p.wd.cell? ⟨w.heap.size, 0, none⟩ = some (.int .i64 gen) := fun p => (HV.out.cells p.wd p.bel).1
  have c1 : ∀ p : LatW V, p.wd.cell? ⟨w.heap.size, 1, none⟩ = some (.int .i64 len) := fun p => (HV.out.cells p.wd p.bel).2.1
  have c2 : ∀ p : LatW V, p.wd.cell? ⟨w.heap.size, 2, none⟩ = some (.int .i64 pos) := fun p => (HV.out.cells p.wd p.bel).2.2.1
  have c3 : ∀ p : LatW V, p.wd.cell? ⟨w.heap.size, 3, none⟩ = some (.int .i64 num) := fun p => (HV.out.cells p.wd p.bel).2.2.2
  generalize w.heap.size = H at c0 c1 c2 c3 ⊢
  refine wp_region_later (by kernel_rfl) (by kernel_rfl) ?_
  repeat (quiet_step (first
    | (go_at_call 58; exact Calls.later_of (HSec.out _))
    | (go_at_call 72; exact Calls.later_same (HLs.out _))
    | (go_at_call 56; exact Calls.later_same (HRs.out _))))
  refine wpQuiet_nil ?_
  intro w9 hw9
  obtain ⟨p9, hw9'⟩ := hw9
  subst hw9'
  go_wp2_with fail
  go_ret
  exact ⟨rfl, HV.out.bel _ p9.bel⟩

set_option maxHeartbeats 4000000 in
set_option maxRecDepth 100000 in
theorem valid_at7 (gen len pos num : Int) (n slot : Nat) (sec : Int) (w : World) (hn : n ≤ 4096) (hs : slot ≤ 4096) (h0 : 0 ≤ gen) (g1 : 1 ≤ gen) (g2 : gen ≤ 1099511627776) (g3 : gen % 2 * (slot : Int) = sec) (g4 : len ≤ 32 * ((slot : Int) - 1)) (g5 : pos < (n : Int) - 2 * (slot : Int)) (g6 : 1 ≤ num) (g7 : num ≤ 1099511627776) :
    Calls Tryz.prog 81 #[.agg #[.int .i64 gen, .int .i64 len, .int .i64 pos, .int .i64 num], .int .i64 n, .int .i64 slot, .int .i64 sec] w fun e w' => e = .returned (.bool true) ∧ Below w.heap.size w w' := by
  have HV := Lib.hid (validIn w gen len pos num)
  have HSec := Lib.hid (fun w' => slotSector_any gen len pos num slot w' h0 hs)
  have HLs := Lib.hid (fun w' => longestState_any slot w' hs)
  have HRs := Lib.hid (fun w' => ringSize_any n slot w' hn hs)
  have f0 : decide (1 ≤ gen) = true := by rw [decide_eq_true_iff]; exact g1
  have f1 : decide (gen ≤ 1099511627776) = true := by rw [decide_eq_true_iff]; exact g2
  have f2 : (gen % 2 * (slot : Int) == sec) = true := by rw [beq_iff_eq]; exact g3
  have f3 : decide (len ≤ 32 * ((slot : Int) - 1)) = true := by rw [decide_eq_true_iff]; exact g4
  have f4 : decide (pos < (n : Int) - 2 * (slot : Int)) = true := by rw [decide_eq_true_iff]; exact g5
  have f5 : decide (1 ≤ num) = true := by rw [decide_eq_true_iff]; exact g6
  have f6 : decide (num ≤ 1099511627776) = true := by rw [decide_eq_true_iff]; exact g7

  clear h0 g1 g2 g3 g4 g5 g6 g7
  obtain ⟨sx, hsx⟩ : ∃ sx, gen % 2 * (slot : Int) = sx := ⟨_, rfl⟩
  rw [hsx] at HSec f2
  clear hsx
  go_enter Tryz.func81, Tryz.ntmps81
  go_wp2_with fail
  generalize w.alloc (.cells #[.int .i64 gen, .int .i64 len, .int .i64 pos, .int .i64 num] 107) = V at *
  have c0 : ∀ p : LatW V, p.wd.cell? ⟨w.heap.size, 0, none⟩ = some (.int .i64 gen) := fun p => (HV.out.cells p.wd p.bel).1
  have c1 : ∀ p : LatW V, p.wd.cell? ⟨w.heap.size, 1, none⟩ = some (.int .i64 len) := fun p => (HV.out.cells p.wd p.bel).2.1
  have c2 : ∀ p : LatW V, p.wd.cell? ⟨w.heap.size, 2, none⟩ = some (.int .i64 pos) := fun p => (HV.out.cells p.wd p.bel).2.2.1
  have c3 : ∀ p : LatW V, p.wd.cell? ⟨w.heap.size, 3, none⟩ = some (.int .i64 num) := fun p => (HV.out.cells p.wd p.bel).2.2.2
  generalize w.heap.size = H at c0 c1 c2 c3 ⊢
  refine wp_region_later (by kernel_rfl) (by kernel_rfl) ?_
  repeat (quiet_step (first
    | (go_at_call 58; exact Calls.later_of (HSec.out _))
    | (go_at_call 72; exact Calls.later_same (HLs.out _))
    | (go_at_call 56; exact Calls.later_same (HRs.out _))))
  refine wpQuiet_nil ?_
  intro w9 hw9
  obtain ⟨p9, hw9'⟩ := hw9
  subst hw9'
  go_wp2_with fail
  go_ret
  exact ⟨rfl, HV.out.bel _ p9.bel⟩

theorem validIn_any (gen len pos num : Int) (n slot : Nat) (sec : Int) (w : World) (hn : n ≤ 4096) (hs : slot ≤ 4096) (h0 : 0 ≤ gen) :
    Calls Tryz.prog 81 #[.agg #[.int .i64 gen, .int .i64 len, .int .i64 pos, .int .i64 num], .int .i64 n, .int .i64 slot, .int .i64 sec] w fun e w' => e = .returned (.bool (validB gen len pos num n slot sec)) ∧ Below w.heap.size w w' := by
  unfold validB
  by_cases g1 : 1 ≤ gen
  case neg =>
    rw [decide_eq_false (fun h => g1 h.1)]
    exact valid_at0 gen len pos num n slot sec w hn hs h0 g1
  by_cases g2 : gen ≤ 1099511627776
  case neg =>
    rw [decide_eq_false (fun h => g2 h.2.1)]
    exact valid_at1 gen len pos num n slot sec w hn hs h0 g1 g2
  by_cases g3 : gen % 2 * (slot : Int) = sec
  case neg =>
    rw [decide_eq_false (fun h => g3 h.2.2.1)]
    exact valid_at2 gen len pos num n slot sec w hn hs h0 g1 g2 g3
  by_cases g4 : len ≤ 32 * ((slot : Int) - 1)
  case neg =>
    rw [decide_eq_false (fun h => g4 h.2.2.2.1)]
    exact valid_at3 gen len pos num n slot sec w hn hs h0 g1 g2 g3 g4
  by_cases g5 : pos < (n : Int) - 2 * (slot : Int)
  case neg =>
    rw [decide_eq_false (fun h => g5 h.2.2.2.2.1)]
    exact valid_at4 gen len pos num n slot sec w hn hs h0 g1 g2 g3 g4 g5
  by_cases g6 : 1 ≤ num
  case neg =>
    rw [decide_eq_false (fun h => g6 h.2.2.2.2.2.1)]
    exact valid_at5 gen len pos num n slot sec w hn hs h0 g1 g2 g3 g4 g5 g6
  by_cases g7 : num ≤ 1099511627776
  case neg =>
    rw [decide_eq_false (fun h => g7 h.2.2.2.2.2.2)]
    exact valid_at6 gen len pos num n slot sec w hn hs h0 g1 g2 g3 g4 g5 g6 g7
  rw [decide_eq_true ⟨g1, g2, g3, g4, g5, g6, g7⟩]
  exact valid_at7 gen len pos num n slot sec w hn hs h0 g1 g2 g3 g4 g5 g6 g7
end Go.Proofs.YtlelfakememckaaGreatDoor
