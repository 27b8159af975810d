/- A log in memory, and the contracts of its reckoning functions: ringSize, fits, sectorsOf, positionsOf, longestRecord, longestState, size, free, position, sector, Number, Generation, Room. -/
import Derived.Test.YtjeabnlmanfplaaGreatDoorDiskK
import Derived.Test.YtjeabnlmanfplaaGreatDoorRing
import Derived.Deep.QuietTactic
import Derived.BigQuiet
namespace Go.Proofs.YtjeabnlmanfplaaGreatDoor
open Go.RowKit

/-- A log's state: its disk's block, the length of its slots, generation, next number, next place, used places, out of use. -/
structure WalV where
  disk : Nat
  slot : Nat
  gen : Int
  num : Int
  next : Nat
  used : Nat
  down : Bool

def walCells (v : WalV) : Array Value := #[.pointer (some ⟨v.disk, 0, none⟩), .int .i64 v.slot, .int .i64 v.gen, .int .i64 v.num, .int .i64 v.next, .int .i64 v.used, .bool v.down]
def WalAt (w : World) (a : Nat) (v : WalV) : Prop := w.heap[a]? = some (.cells (walCells v) 91 (0, 0))

theorem WalAt.cells {w : World} {a : Nat} {v : WalV} (h : WalAt w a v) : w.cell? ⟨a, 0, none⟩ = some (.pointer (some ⟨v.disk, 0, none⟩)) ∧ w.cell? ⟨a, 1, none⟩ = some (.int .i64 v.slot) ∧ w.cell? ⟨a, 2, none⟩ = some (.int .i64 v.gen) ∧
    w.cell? ⟨a, 3, none⟩ = some (.int .i64 v.num) ∧ w.cell? ⟨a, 4, none⟩ = some (.int .i64 v.next) ∧ w.cell? ⟨a, 5, none⟩ = some (.int .i64 v.used) ∧ w.cell? ⟨a, 6, none⟩ = some (.bool v.down) ∧ (∀ j, w.frozen? ⟨a, j, none⟩ = false) := by
  refine ⟨?_, ?_, ?_, ?_, ?_, ?_, ?_, fun j => Lib.frozen_of_heap h j⟩ <;> rw [Lib.cell_of_heap h] <;> rfl

/-- The log's numbers are right for a disk of n sectors. -/
structure WalV.Ok (v : WalV) (n : Nat) : Prop where
  n1 : n ≤ 4096
  s1 : 2 ≤ v.slot
  fit : 2 * v.slot + 3 ≤ n
  next : v.next < n - 2 * v.slot
  used : v.used < n - 2 * v.slot
  g1 : 0 ≤ v.gen
  g2 : v.gen ≤ 1099511627776
  k1 : 1 ≤ v.num
  k2 : v.num ≤ 9223372036854775000

/-- A log with its disk. -/
structure LogAt (w : World) (F : Nat → Prop) (a : Nat) (v : WalV) (d : DSt) : Prop where
  wal : WalAt w a v
  disk : IsDisk w F v.disk d
  ok : v.Ok d.seen.length

theorem below_drawsW (w : World) (n : Nat) : Below w.heap.size w (w.drewN n) := ⟨rfl, rfl, rfl, Nat.le_refl _, fun _ _ => rfl⟩
theorem LogAt.drewN {w : World} {F : Nat → Prop} {a : Nat} {v : WalV} {d : DSt} (h : LogAt w F a v d) (n : Nat) : LogAt (w.drewN n) F a v d := ⟨h.wal, h.disk.below (below_drawsW w n), h.ok⟩

/-- It answers v, and turns nothing. -/
abbrev Quiet (f : FuncId) (args : Array Value) (w : World) (v : Value) : Prop := Calls Tryz.prog f args w fun e w' => e = .returned v ∧ ∃ m, w' = w.drewN m
theorem Quiet.still {f : FuncId} {args : Array Value} {w : World} {v : Value} {n : Nat} (h : Quiet f args (w.drewN n) v) : Calls Tryz.prog f args (w.drewN n) fun e w' => e = .returned v ∧ ∃ m, w' = w.drewN m :=
  h.mono (fun _ _ ⟨he, m, hm⟩ => ⟨he, n + m, by rw [hm, World.drewN_drewN]⟩)
theorem Quiet.same {f : FuncId} {args : Array Value} {w : World} {v : Value} (h : Calls Tryz.prog f args w fun e w' => e = .returned v ∧ w = w') : Quiet f args w v :=
  h.mono (fun _ _ ⟨he, hw⟩ => ⟨he, 0, by rw [← hw]; rfl⟩)

def secs (n : Nat) : Nat := (n + 31) / 32

theorem ringSize_any (n slot : Nat) (w : World) (h : n ≤ 4096) (h2 : slot ≤ 4096) : Calls Tryz.prog 72 #[.int .i64 n, .int .i64 slot] w fun e w' => e = .returned (.int .i64 ((n : Int) - 2 * (slot : Int))) ∧ w = w' := by
  go_enter Tryz.func72, Tryz.ntmps72
  go_wp2
  go_ret
  exact ⟨rfl, rfl⟩
def fitsE (n : Nat) (slot : Int) : Bool := decide (2 ≤ slot ∧ 2 * slot + 3 ≤ n)
theorem fits_any (n : Nat) (slot : Int) (w : World) (h : n ≤ 4096) : Calls Tryz.prog 44 #[.int .i64 n, .int .i64 slot] w fun e w' => e = .returned (.bool (fitsE n slot)) ∧ w = w' := by
  unfold fitsE
  by_cases h2 : 2 ≤ slot ∧ slot ≤ n
  · obtain ⟨s, rfl⟩ := Int.eq_ofNat_of_zero_le (show 0 ≤ slot by omega)
    obtain ⟨h3, h4⟩ := h2
    have h5 : s ≤ 4096 := by omega
    by_cases h6 : 2 * (s : Int) + 3 ≤ n
    · rw [decide_eq_true (show 2 ≤ (s : Int) ∧ 2 * (s : Int) + 3 ≤ n from ⟨h3, h6⟩)]
      have h7 : 3 ≤ (n : Int) - 2 * (s : Int) := by omega
      go_enter Tryz.func44, Tryz.ntmps44
      go_wp2_with (go_at_call 72; refine (ringSize_any _ _ _ h h5).mono ?_; rintro e w' ⟨rfl, rfl⟩)
      all_goals first
        | (go_ret; exact ⟨rfl, rfl⟩)
        | (exfalso; omega)
    · rw [decide_eq_false (show ¬ (2 ≤ (s : Int) ∧ 2 * (s : Int) + 3 ≤ n) from fun hh => h6 hh.2)]
      have h7 : decide (3 ≤ (n : Int) - 2 * (s : Int)) = false := by rw [decide_eq_false_iff_not]; omega
      go_enter Tryz.func44, Tryz.ntmps44
      go_wp2_with (go_at_call 72; refine (ringSize_any _ _ _ h h5).mono ?_; rintro e w' ⟨rfl, rfl⟩)
      all_goals first
        | (go_ret; exact ⟨rfl, rfl⟩)
        | (exfalso; omega)
  · rw [decide_eq_false (show ¬ (2 ≤ slot ∧ 2 * slot + 3 ≤ n) from fun hh => h2 ⟨hh.1, by omega⟩)]
    by_cases h3 : 2 ≤ slot
    · have h4 : decide (slot ≤ (n : Int)) = false := by rw [decide_eq_false_iff_not]; omega
      clear h2
      go_enter Tryz.func44, Tryz.ntmps44
      go_wp2
      go_ret
      exact ⟨rfl, rfl⟩
    · have h4 : decide (2 ≤ slot) = false := by simpa using h3
      clear h2
      go_enter Tryz.func44, Tryz.ntmps44
      go_wp2
      go_ret
      exact ⟨rfl, rfl⟩

theorem sectorsOf_any (n : Nat) (w : World) (h : n ≤ 4611686018427387904) : Calls Tryz.prog 76 #[.int .i64 n] w fun e w' => e = .returned (.int .i64 (secs n)) ∧ w = w' := by
  have HE : Hid (((n : Int) + 32 - 1) / 32 = (secs n : Int)) := Lib.hid (by
    unfold secs
    rw [show (n : Int) + 32 - 1 = ((n + 31 : Nat) : Int) from by omega]
    rfl)
  go_enter Tryz.func76, Tryz.ntmps76
  go_wp2
  go_ret
  exact ⟨by rw [← HE.out]; rfl, rfl⟩

theorem positionsOf_any (n : Nat) (w : World) (h : n ≤ 4611686018427387904) : Calls Tryz.prog 79 #[.int .i64 n] w fun e w' => e = .returned (.int .i64 (1 + secs n : Nat)) ∧ w = w' := by
  have hs : secs n ≤ 4611686018427387904 := by unfold secs; omega
  go_enter Tryz.func79, Tryz.ntmps79
  go_wp2_with (go_at_call 76; refine (sectorsOf_any _ _ h).mono ?_; rintro e w' ⟨rfl, rfl⟩)
  go_ret
  refine ⟨?_, rfl⟩
  rw [Int.natCast_add]
  rfl
theorem longestRecord_any (n : Int) (w : World) (h1 : -4096 ≤ n) (h2 : n ≤ 4096) : Calls Tryz.prog 67 #[.int .i64 n] w fun e w' => e = .returned (.int .i64 (32 * (n - 2))) ∧ w = w' := by
  go_enter Tryz.func67, Tryz.ntmps67
  go_wp2
  go_ret
  exact ⟨rfl, rfl⟩
theorem longestState_any (n : Nat) (w : World) (h2 : n ≤ 4096) : Calls Tryz.prog 88 #[.int .i64 n] w fun e w' => e = .returned (.int .i64 (32 * ((n : Int) - 1))) ∧ w = w' := by
  go_enter Tryz.func88, Tryz.ntmps88
  go_wp2
  go_ret
  exact ⟨rfl, rfl⟩

section
variable {w : World} {F : Nat → Prop} {a : Nat} {v : WalV} {d : DSt}
theorem WalV.Ok.slot {v : WalV} {n : Nat} (h : v.Ok n) : v.slot ≤ 4096 := by have := h.fit; have := h.n1; omega

theorem size_any (h : LogAt w F a v d) : Quiet 92 #[.pointer (some ⟨a, 0, none⟩)] w (.int .i64 ((d.seen.length : Int) - 2 * (v.slot : Int))) := by
  obtain ⟨c0, c1, c2, c3, c4, c5, c6, cf⟩ := h.wal.cells
  have HD : Hid (∀ n, IsDisk (w.drewN n) F v.disk d) := Lib.hid (fun n => (h.drewN n).disk)
  have hn := h.ok.n1
  have hs := h.ok.slot
  clear h
  go_enter Tryz.func92, Tryz.ntmps92
  go_wp2_with fail
  go_quiet (first
    | (go_at_call 45; exact (Quiet.same (Size_any (HD.out _))).still)
    | (go_at_call 72; exact (Quiet.same (ringSize_any _ _ _ hn hs)).still))
  go_wp2
  go_ret
  exact ⟨rfl, _, rfl⟩
theorem free_any (h : LogAt w F a v d) : Quiet 66 #[.pointer (some ⟨a, 0, none⟩)] w (.int .i64 ((d.seen.length : Int) - 2 * (v.slot : Int) - (v.used : Int))) := by
  obtain ⟨c0, c1, c2, c3, c4, c5, c6, cf⟩ := h.wal.cells
  have HL : Hid (∀ n, LogAt (w.drewN n) F a v d) := Lib.hid (fun n => h.drewN n)
  have hn := h.ok.n1
  have hs := h.ok.slot
  have hu := h.ok.used
  clear h
  go_enter Tryz.func66, Tryz.ntmps66
  go_wp2_with fail
  go_quiet (first | (go_at_call 92; exact (size_any (HL.out _)).still))
  go_wp2
  go_ret
  exact ⟨rfl, _, rfl⟩
/-- The place so many steps behind the next. -/
def WalV.place (v : WalV) (n k : Nat) : Nat := (v.next + k) % (n - 2 * v.slot)
theorem position_any (h : LogAt w F a v d) (k : Nat) (hk : k ≤ 1099511627776) : Quiet 98 #[.pointer (some ⟨a, 0, none⟩), .int .i64 k] w (.int .i64 (v.place d.seen.length k)) := by
  obtain ⟨c0, c1, c2, c3, c4, c5, c6, cf⟩ := h.wal.cells
  have HL : Hid (∀ n, LogAt (w.drewN n) F a v d) := Lib.hid (fun n => h.drewN n)
  have hn := h.ok.n1
  have hs := h.ok.slot
  have hf := h.ok.fit
  have hx := h.ok.next
  have HP : Hid (((v.next : Int) + (k : Int)) % ((d.seen.length : Int) - 2 * (v.slot : Int)) = (v.place d.seen.length k : Int)) := Lib.hid (by
    unfold WalV.place
    rw [Int.natCast_emod, Int.natCast_add, Int.natCast_sub (by omega)]
    rfl)
  have hA : AtOk ((d.seen.length : Int) - 2 * (v.slot : Int)) v.next k := ⟨⟨by omega, by omega, by omega, by omega⟩, by omega, by omega⟩
  clear h
  go_enter Tryz.func98, Tryz.ntmps98
  go_wp2_with fail
  go_quiet (first
    | (go_at_call 92; exact (size_any (HL.out _)).still)
    | (go_at_call 112; exact (Quiet.same (At_ok _ _ _ _ hA)).still))
  go_wp2
  go_ret
  exact ⟨by rw [← HP.out]; rfl, _, rfl⟩
theorem WalV.place_lt {v : WalV} {n : Nat} (h : v.Ok n) (k : Nat) : v.place n k < n - 2 * v.slot := Nat.mod_lt _ (by have := h.fit; omega)
theorem sector_any (h : LogAt w F a v d) (k : Nat) (hk : k ≤ 1099511627776) : Quiet 78 #[.pointer (some ⟨a, 0, none⟩), .int .i64 k] w (.int .i64 (2 * v.slot + v.place d.seen.length k : Nat)) := by
  obtain ⟨c0, c1, c2, c3, c4, c5, c6, cf⟩ := h.wal.cells
  have HL : Hid (∀ n, LogAt (w.drewN n) F a v d) := Lib.hid (fun n => h.drewN n)
  have hn := h.ok.n1
  have hs := h.ok.slot
  have hp := WalV.place_lt h.ok k
  have HE : Hid (2 * (v.slot : Int) + (v.place d.seen.length k : Int) = ((2 * v.slot + v.place d.seen.length k : Nat) : Int)) := Lib.hid (by omega)
  have hp2 : v.place d.seen.length k ≤ 4096 := by omega
  clear h
  go_enter Tryz.func78, Tryz.ntmps78
  go_wp2_with fail
  go_quiet (first | (go_at_call 98; exact (position_any (HL.out _) k hk).still))
  go_wp2
  go_ret
  refine ⟨?_, _, rfl⟩
  rw [← HE.out]
  rfl
theorem Number_anyW (h : WalAt w a v) : Calls Tryz.prog 26 #[.pointer (some ⟨a, 0, none⟩)] w fun e w' => e = .returned (.int .i64 v.num) ∧ w = w' := by
  obtain ⟨c0, c1, c2, c3, c4, c5, c6, cf⟩ := h.cells
  go_enter Tryz.func26, Tryz.ntmps26
  go_wp2
  go_ret
  exact ⟨rfl, rfl⟩
theorem Generation_any (h : WalAt w a v) : Calls Tryz.prog 27 #[.pointer (some ⟨a, 0, none⟩)] w fun e w' => e = .returned (.int .i64 v.gen) ∧ w = w' := by
  obtain ⟨c0, c1, c2, c3, c4, c5, c6, cf⟩ := h.cells
  go_enter Tryz.func27, Tryz.ntmps27
  go_wp2
  go_ret
  exact ⟨rfl, rfl⟩
/-- What Room tells. -/
def roomE (n slot used : Nat) : Int := if (n : Int) - 2 * slot - used < 2 then -1 else 32 * ((n : Int) - 2 * slot - used - 2)
theorem Room_any (h : LogAt w F a v d) : Quiet 28 #[.pointer (some ⟨a, 0, none⟩)] w (.int .i64 (roomE d.seen.length v.slot v.used)) := by
  have HL : Hid (∀ n, LogAt (w.drewN n) F a v d) := Lib.hid (fun n => h.drewN n)
  have HL0 := Lib.hid h
  have hn := h.ok.n1
  have hu := h.ok.used
  have hf := h.ok.fit
  unfold roomE
  clear h
  by_cases h2 : (d.seen.length : Int) - 2 * (v.slot : Int) - (v.used : Int) < 2
  · rw [if_pos h2]
    go_enter Tryz.func28, Tryz.ntmps28
    go_wp2_with (go_at_call 66; refine (free_any HL0.out).mono ?_; rintro e w' ⟨rfl, m, rfl⟩)
    go_ret
    exact ⟨rfl, _, rfl⟩
  · rw [if_neg h2]
    have h3 : decide ((d.seen.length : Int) - 2 * (v.slot : Int) - (v.used : Int) < 2) = false := by simpa using h2
    go_enter Tryz.func28, Tryz.ntmps28
    go_wp2_with fail
    refine (free_any HL0.out).mono ?_
    rintro e w' ⟨rfl, m, rfl⟩
    go_wp2_with fail
    refine (free_any (HL.out _)).mono ?_
    rintro e w' ⟨rfl, m', rfl⟩
    go_wp2_with fail
    refine (longestRecord_any _ _ (by omega) (by omega)).mono ?_
    rintro e w' ⟨rfl, rfl⟩
    go_wp2_with fail
    go_ret
    exact ⟨rfl, m + m', rfl⟩
end
end Go.Proofs.YtjeabnlmanfplaaGreatDoor
