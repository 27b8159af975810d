/- A log in memory, and the contracts of its reckoning functions: ringSize, fits, sectorsOf, positionsOf, longestRecord, longestState, size, free, position, sector, Number, Generation, Room. Contracts of the inner functions of the package octet: isWidth, decode, encode. Contracts of the functions of the package octet that answer numbers and texts: Put, Get, Number, Text, Take: for every argument each answers what the plain functions say, and changes nothing that was there. -/
import Derived.Test.YtlelfakememckaaGreatDoorDiskC
import Derived.Test.YtlelfakememckaaGreatDoorWalOpA
import Derived.Deep.QuietTactic
import Derived.BigQuiet
import Derived.Test.YtlelfakememckaaGreatDoorRows
import Derived.WalkKit
import Derived.WalkSpells
import Derived.WalkLawsBesides
import Derived.Lib.Hide
import Derived.Deep.OwnRows
import Derived.Laws.IdiomStrings
import Derived.Test.YtlelfakememckaaGreatDoorPlain
namespace Go.Proofs.YtlelfakememckaaGreatDoor
open Go.RowKit

/-- A log's state: its disk's block, the length of its slots, generation, next number, next place, used places, out of use. -/
structure WalV where
  disk : Nat
  slot : Nat
  gen : Int
  num : Int
  next : Nat
  used : Nat
  down : Bool

def walCells (v : WalV) : Array Value := #[.pointer (some ⟨v.disk, 0, none⟩), .int .i64 v.slot, .int .i64 v.gen, .int .i64 v.num, .int .i64 v.next, .int .i64 v.used, .bool v.down]
def WalAt (w : World) (a : Nat) (v : WalV) : Prop := w.heap[a]? = some (.cells (walCells v) 76 (0, 0))

theorem WalAt.cells {w : World} {a : Nat} {v : WalV} (h : WalAt w a v) : w.cell? ⟨a, 0, none⟩ = some (.pointer (some ⟨v.disk, 0, none⟩)) ∧ w.cell? ⟨a, 1, none⟩ = some (.int .i64 v.slot) ∧ w.cell? ⟨a, 2, none⟩ = some (.int .i64 v.gen) ∧
    w.cell? ⟨a, 3, none⟩ = some (.int .i64 v.num) ∧ w.cell? ⟨a, 4, none⟩ = some (.int .i64 v.next) ∧ w.cell? ⟨a, 5, none⟩ = some (.int .i64 v.used) ∧ w.cell? ⟨a, 6, none⟩ = some (.bool v.down) ∧ (∀ j, w.frozen? ⟨a, j, none⟩ = false) := by
  refine ⟨?_, ?_, ?_, ?_, ?_, ?_, ?_, fun j => Lib.frozen_of_heap h j⟩ <;> rw [Lib.cell_of_heap h] <;> rfl

/-- The log's numbers are right for a disk of n sectors. -/
structure WalV.Ok (v : WalV) (n : Nat) : Prop where
  n1 : n ≤ 4096
  s1 : 2 ≤ v.slot
  fit : 2 * v.slot + 3 ≤ n
  next : v.next < n - 2 * v.slot
  used : v.used < n - 2 * v.slot
  g1 : 0 ≤ v.gen
  g2 : v.gen ≤ 1099511627776
  k1 : 1 ≤ v.num
  k2 : v.num ≤ 9223372036854775000

/-- A log with its disk. -/
structure LogAt (w : World) (F : Nat → Prop) (a : Nat) (v : WalV) (d : DSt) : Prop where
  wal : WalAt w a v
  disk : IsDisk w F v.disk d
  ok : v.Ok d.seen.length

theorem below_drawsW (w : World) (n : Nat) : Below w.heap.size w (w.drewN n) := ⟨rfl, rfl, rfl, Nat.le_refl _, fun _ _ => rfl⟩
theorem LogAt.drewN {w : World} {F : Nat → Prop} {a : Nat} {v : WalV} {d : DSt} (h : LogAt w F a v d) (n : Nat) : LogAt (w.drewN n) F a v d := ⟨h.wal, h.disk.below (below_drawsW w n), h.ok⟩

/-- It answers v, and turns nothing. -/
abbrev Quiet (f : FuncId) (args : Array Value) (w : World) (v : Value) : Prop := Calls Tryz.prog f args w fun e w' => e = .returned v ∧ ∃ m, w' = w.drewN m
theorem Quiet.still {f : FuncId} {args : Array Value} {w : World} {v : Value} {n : Nat} (h : Quiet f args (w.drewN n) v) : Calls Tryz.prog f args (w.drewN n) fun e w' => e = .returned v ∧ ∃ m, w' = w.drewN m :=
  h.mono (fun _ _ ⟨he, m, hm⟩ => ⟨he, n + m, by rw [hm, World.drewN_drewN]⟩)
theorem Quiet.same {f : FuncId} {args : Array Value} {w : World} {v : Value} (h : Calls Tryz.prog f args w fun e w' => e = .returned v ∧ w = w') : Quiet f args w v :=
  h.mono (fun _ _ ⟨he, hw⟩ => ⟨he, 0, by rw [← hw]; rfl⟩)

def secs (n : Nat) : Nat := (n + 31) / 32

theorem ringSize_any (n slot : Nat) (w : World) (h : n ≤ 4096) (h2 : slot ≤ 4096) : Calls Tryz.prog 56 #[.int .i64 n, .int .i64 slot] w fun e w' => e = .returned (.int .i64 ((n : Int) - 2 * (slot : Int))) ∧ w = w' := by
  go_enter Tryz.func56, Tryz.ntmps56
  go_wp2
  go_ret
  exact ⟨rfl, rfl⟩
def fitsE (n : Nat) (slot : Int) : Bool := decide (2 ≤ slot ∧ 2 * slot + 3 ≤ n)
theorem fits_any (n : Nat) (slot : Int) (w : World) (h : n ≤ 4096) : Calls Tryz.prog 29 #[.int .i64 n, .int .i64 slot] w fun e w' => e = .returned (.bool (fitsE n slot)) ∧ w = w' := by
  unfold fitsE
  by_cases h2 : 2 ≤ slot ∧ slot ≤ n
  · obtain ⟨s, rfl⟩ := Int.eq_ofNat_of_zero_le (show 0 ≤ slot by omega)
    obtain ⟨h3, h4⟩ := h2
    have h5 : s ≤ 4096 := by omega
    by_cases h6 : 2 * (s : Int) + 3 ≤ n
    · rw [decide_eq_true (show 2 ≤ (s : Int) ∧ 2 * (s : Int) + 3 ≤ n from ⟨h3, h6⟩)]
      have h7 : 3 ≤ (n : Int) - 2 * (s : Int) := by omega
      go_enter Tryz.func29, Tryz.ntmps29
      go_wp2_with (go_at_call 56; refine (ringSize_any _ _ _ h h5).mono ?_; rintro e w' ⟨rfl, rfl⟩)
      all_goals first
        | (go_ret; exact ⟨rfl, rfl⟩)
        | (exfalso; omega)
    · rw [decide_eq_false (show ¬ (2 ≤ (s : Int) ∧ 2 * (s : Int) + 3 ≤ n) from fun hh => h6 hh.2)]
      have h7 : decide (3 ≤ (n : Int) - 2 * (s : Int)) = false := by rw [decide_eq_false_iff_not]; omega
      go_enter Tryz.func29, Tryz.ntmps29
      go_wp2_with (go_at_call 56; refine (ringSize_any _ _ _ h h5).mono ?_; rintro e w' ⟨rfl, rfl⟩)
      all_goals first
        | (go_ret; exact ⟨rfl, rfl⟩)
        | (exfalso; omega)
  · rw [decide_eq_false (show ¬ (2 ≤ slot ∧ 2 * slot + 3 ≤ n) from fun hh => h2 ⟨hh.1, by omega⟩)]
    by_cases h3 : 2 ≤ slot
    · have h4 : decide (slot ≤ (n : Int)) = false := by rw [decide_eq_false_iff_not]; omega
      clear h2
      go_enter Tryz.func29, Tryz.ntmps29
      go_wp2
      go_ret
      exact ⟨rfl, rfl⟩
    · have h4 : decide (2 ≤ slot) = false := by simpa using h3
      clear h2
      go_enter Tryz.func29, Tryz.ntmps29
      go_wp2
      go_ret
      exact ⟨rfl, rfl⟩

theorem sectorsOf_any (n : Nat) (w : World) (h : n ≤ 4611686018427387904) : Calls Tryz.prog 60 #[.int .i64 n] w fun e w' => e = .returned (.int .i64 (secs n)) ∧ w = w' := by
  have HE : Hid (((n : Int) + 32 - 1) / 32 = (secs n : Int)) := Lib.hid (by
    unfold secs
    rw [show (n : Int) + 32 - 1 = ((n + 31 : Nat) : Int) from by omega]
    rfl)
  go_enter Tryz.func60, Tryz.ntmps60
  go_wp2
  go_ret
  exact ⟨by rw [← HE.out]; rfl, rfl⟩

theorem positionsOf_any (n : Nat) (w : World) (h : n ≤ 4611686018427387904) : Calls Tryz.prog 63 #[.int .i64 n] w fun e w' => e = .returned (.int .i64 (1 + secs n : Nat)) ∧ w = w' := by
  have hs : secs n ≤ 4611686018427387904 := by unfold secs; omega
  go_enter Tryz.func63, Tryz.ntmps63
  go_wp2_with (go_at_call 60; refine (sectorsOf_any _ _ h).mono ?_; rintro e w' ⟨rfl, rfl⟩)
  go_ret
  refine ⟨?_, rfl⟩
  rw [Int.natCast_add]
  rfl
theorem longestRecord_any (n : Int) (w : World) (h1 : -4096 ≤ n) (h2 : n ≤ 4096) : Calls Tryz.prog 53 #[.int .i64 n] w fun e w' => e = .returned (.int .i64 (32 * (n - 2))) ∧ w = w' := by
  go_enter Tryz.func53, Tryz.ntmps53
  go_wp2
  go_ret
  exact ⟨rfl, rfl⟩
theorem longestState_any (n : Nat) (w : World) (h2 : n ≤ 4096) : Calls Tryz.prog 72 #[.int .i64 n] w fun e w' => e = .returned (.int .i64 (32 * ((n : Int) - 1))) ∧ w = w' := by
  go_enter Tryz.func72, Tryz.ntmps72
  go_wp2
  go_ret
  exact ⟨rfl, rfl⟩

section
variable {w : World} {F : Nat → Prop} {a : Nat} {v : WalV} {d : DSt}
theorem WalV.Ok.slot {v : WalV} {n : Nat} (h : v.Ok n) : v.slot ≤ 4096 := by have := h.fit; have := h.n1; omega

theorem size_any (h : LogAt w F a v d) : Quiet 78 #[.pointer (some ⟨a, 0, none⟩)] w (.int .i64 ((d.seen.length : Int) - 2 * (v.slot : Int))) := by
  obtain ⟨c0, c1, c2, c3, c4, c5, c6, cf⟩ := h.wal.cells
  have HD : Hid (∀ n, IsDisk (w.drewN n) F v.disk d) := Lib.hid (fun n => (h.drewN n).disk)
  have hn := h.ok.n1
  have hs := h.ok.slot
  clear h
  go_enter Tryz.func78, Tryz.ntmps78
  go_wp2_with fail
  go_quiet (first
    | (go_at_call 30; exact (Quiet.same (Size_any (HD.out _))).still)
    | (go_at_call 56; exact (Quiet.same (ringSize_any _ _ _ hn hs)).still))
  go_wp2
  go_ret
  exact ⟨rfl, _, rfl⟩
theorem free_any (h : LogAt w F a v d) : Quiet 52 #[.pointer (some ⟨a, 0, none⟩)] w (.int .i64 ((d.seen.length : Int) - 2 * (v.slot : Int) - (v.used : Int))) := by
  obtain ⟨c0, c1, c2, c3, c4, c5, c6, cf⟩ := h.wal.cells
  have HL : Hid (∀ n, LogAt (w.drewN n) F a v d) := Lib.hid (fun n => h.drewN n)
  have hn := h.ok.n1
  have hs := h.ok.slot
  have hu := h.ok.used
  clear h
  go_enter Tryz.func52, Tryz.ntmps52
  go_wp2_with fail
  go_quiet (first | (go_at_call 78; exact (size_any (HL.out _)).still))
  go_wp2
  go_ret
  exact ⟨rfl, _, rfl⟩
/-- The place so many steps behind the next. -/
def WalV.place (v : WalV) (n k : Nat) : Nat := (v.next + k) % (n - 2 * v.slot)
theorem position_any (h : LogAt w F a v d) (k : Nat) (hk : k ≤ 1099511627776) : Quiet 84 #[.pointer (some ⟨a, 0, none⟩), .int .i64 k] w (.int .i64 (v.place d.seen.length k)) := by
  obtain ⟨c0, c1, c2, c3, c4, c5, c6, cf⟩ := h.wal.cells
  have HL : Hid (∀ n, LogAt (w.drewN n) F a v d) := Lib.hid (fun n => h.drewN n)
  have hn := h.ok.n1
  have hs := h.ok.slot
  have hf := h.ok.fit
  have hx := h.ok.next
  have HP : Hid (((v.next : Int) + (k : Int)) % ((d.seen.length : Int) - 2 * (v.slot : Int)) = (v.place d.seen.length k : Int)) := Lib.hid (by
    unfold WalV.place
    rw [Int.natCast_emod, Int.natCast_add, Int.natCast_sub (by omega)]
    rfl)
  have hA : AtOk ((d.seen.length : Int) - 2 * (v.slot : Int)) v.next k := ⟨⟨by omega, by omega, by omega, by omega⟩, by omega, by omega⟩
  clear h
  go_enter Tryz.func84, Tryz.ntmps84
  go_wp2_with fail
  go_quiet (first
    | (go_at_call 78; exact (size_any (HL.out _)).still)
    | (go_at_call 99; exact (Quiet.same (At_ok _ _ _ _ hA)).still))
  go_wp2
  go_ret
  exact ⟨by rw [← HP.out]; rfl, _, rfl⟩
theorem WalV.place_lt {v : WalV} {n : Nat} (h : v.Ok n) (k : Nat) : v.place n k < n - 2 * v.slot := Nat.mod_lt _ (by have := h.fit; omega)
theorem sector_any (h : LogAt w F a v d) (k : Nat) (hk : k ≤ 1099511627776) : Quiet 62 #[.pointer (some ⟨a, 0, none⟩), .int .i64 k] w (.int .i64 (2 * v.slot + v.place d.seen.length k : Nat)) := by
  obtain ⟨c0, c1, c2, c3, c4, c5, c6, cf⟩ := h.wal.cells
  have HL : Hid (∀ n, LogAt (w.drewN n) F a v d) := Lib.hid (fun n => h.drewN n)
  have hn := h.ok.n1
  have hs := h.ok.slot
  have hp := WalV.place_lt h.ok k
  have HE : Hid (2 * (v.slot : Int) + (v.place d.seen.length k : Int) = ((2 * v.slot + v.place d.seen.length k : Nat) : Int)) := Lib.hid (by omega)
  have hp2 : v.place d.seen.length k ≤ 4096 := by omega
  clear h
  go_enter Tryz.func62, Tryz.ntmps62
  go_wp2_with fail
  go_quiet (first | (go_at_call 84; exact (position_any (HL.out _) k hk).still))
  go_wp2
  go_ret
  refine ⟨?_, _, rfl⟩
  rw [← HE.out]
  rfl
theorem Number_anyW (h : WalAt w a v) : Calls Tryz.prog 21 #[.pointer (some ⟨a, 0, none⟩)] w fun e w' => e = .returned (.int .i64 v.num) ∧ w = w' := by
  obtain ⟨c0, c1, c2, c3, c4, c5, c6, cf⟩ := h.cells
  go_enter Tryz.func21, Tryz.ntmps21
  go_wp2
  go_ret
  exact ⟨rfl, rfl⟩
theorem Generation_any (h : WalAt w a v) : Calls Tryz.prog 22 #[.pointer (some ⟨a, 0, none⟩)] w fun e w' => e = .returned (.int .i64 v.gen) ∧ w = w' := by
  obtain ⟨c0, c1, c2, c3, c4, c5, c6, cf⟩ := h.cells
  go_enter Tryz.func22, Tryz.ntmps22
  go_wp2
  go_ret
  exact ⟨rfl, rfl⟩
/-- What Room tells. -/
def roomE (n slot used : Nat) : Int := if (n : Int) - 2 * slot - used < 2 then -1 else 32 * ((n : Int) - 2 * slot - used - 2)
theorem Room_any (h : LogAt w F a v d) : Quiet 23 #[.pointer (some ⟨a, 0, none⟩)] w (.int .i64 (roomE d.seen.length v.slot v.used)) := by
  have HL : Hid (∀ n, LogAt (w.drewN n) F a v d) := Lib.hid (fun n => h.drewN n)
  have HL0 := Lib.hid h
  have hn := h.ok.n1
  have hu := h.ok.used
  have hf := h.ok.fit
  unfold roomE
  clear h
  by_cases h2 : (d.seen.length : Int) - 2 * (v.slot : Int) - (v.used : Int) < 2
  · rw [if_pos h2]
    go_enter Tryz.func23, Tryz.ntmps23
    go_wp2_with (go_at_call 52; refine (free_any HL0.out).mono ?_; rintro e w' ⟨rfl, m, rfl⟩)
    go_ret
    exact ⟨rfl, _, rfl⟩
  · rw [if_neg h2]
    have h3 : decide ((d.seen.length : Int) - 2 * (v.slot : Int) - (v.used : Int) < 2) = false := by simpa using h2
    go_enter Tryz.func23, Tryz.ntmps23
    go_wp2_with fail
    refine (free_any HL0.out).mono ?_
    rintro e w' ⟨rfl, m, rfl⟩
    go_wp2_with fail
    refine (free_any (HL.out _)).mono ?_
    rintro e w' ⟨rfl, m', rfl⟩
    go_wp2_with fail
    refine (longestRecord_any _ _ (by omega) (by omega)).mono ?_
    rintro e w' ⟨rfl, rfl⟩
    go_wp2_with fail
    go_ret
    exact ⟨rfl, m + m', rfl⟩
end
end Go.Proofs.YtlelfakememckaaGreatDoor

namespace Go.Proofs.YtlelfakememckaaGreatDoor
open Go.RowKit

theorem Tryz.infoByte : (Tryz.prog.info? 5).map (fun i => (i.zero, i.size, i.bytes)) = some (some (.int .u8 0), 1, 1) := by kernel_rfl

set_option maxHeartbeats 400000 in
theorem isWidth_yes (n : Int) (w : World) (h1 : 1 ≤ n) (h2 : n ≤ 8) :
    Calls Tryz.prog 106 #[.int .i64 n] w fun e w' => e = .returned (.bool true) ∧ w = w' := by
  go_enter Tryz.func106, Tryz.ntmps106
  go_wp2
  go_ret
  exact ⟨rfl, rfl⟩

set_option maxHeartbeats 400000 in
theorem isWidth_no (n : Int) (w : World) (h : n < 1 ∨ 8 < n) :
    Calls Tryz.prog 106 #[.int .i64 n] w fun e w' => e = .returned (.bool false) ∧ w = w' := by
  rcases h with h | h
  · go_enter Tryz.func106, Tryz.ntmps106
    go_wp2
    go_ret
    exact ⟨rfl, rfl⟩
  · have h1 : 1 ≤ n := by omega
    have h2 : decide (n ≤ 8) = false := by simp; omega
    go_enter Tryz.func106, Tryz.ntmps106
    go_wp2
    go_ret
    exact ⟨rfl, rfl⟩

set_option maxHeartbeats 400000 in
theorem decode_small (s : ByteArray) (w : World) (hs : s.size ≤ 8) (hd : dec s.data.toList < 9223372036854775808) :
    Calls Tryz.prog 107 #[.string s] w fun e w' => e = .returned (.tuple #[.int .i64 (dec s.data.toList), .int .i64 0]) ∧ w = w' := by
  go_enter Tryz.func107, Tryz.ntmps107
  go_wp2
  go_loop [4, 8] (fun n i => ∃ k : Nat, k ≤ s.size ∧ i = .int .i64 k ∧ n = .int .u64 (dec (s.data.toList.take k))) (fun _ i => s.size - (intOf i).toNat)
  case atStart => exact ⟨0, Nat.zero_le _, rfl, rfl⟩
  case round =>
    obtain ⟨k, hk, rfl, rfl⟩ := hrel
    by_cases hlt : k < s.size
    · have H := Lib.hid (dec_step s k hlt hs)
      go_wp2
      go_round
      case rel => exact ⟨k + 1, by omega, by go_num, by rw [H.out]⟩
      case measure => simp [intOf]; omega
    · have hd2 : dec (s.data.toList.take k) < 9223372036854775808 := by rw [take_all s k hlt]; exact hd
      have H := Lib.hid (take_all s k hlt)
      have hb : (((dec (s.data.toList.take k) : Nat) : Int) / 9223372036854775808 != 0) = false := by simp; omega
      go_wp2
      go_ret2
      rw [H.out]
      exact ⟨rfl, rfl⟩

set_option maxHeartbeats 400000 in
theorem decode_big (s : ByteArray) (w : World) (hs : s.size ≤ 8) (hd : 9223372036854775808 ≤ dec s.data.toList) :
    Calls Tryz.prog 107 #[.string s] w fun e w' => e = .returned (.tuple #[.int .i64 0, .int .i64 10]) ∧ w = w' := by
  go_enter Tryz.func107, Tryz.ntmps107
  go_wp2
  go_loop [4, 8] (fun n i => ∃ k : Nat, k ≤ s.size ∧ i = .int .i64 k ∧ n = .int .u64 (dec (s.data.toList.take k))) (fun _ i => s.size - (intOf i).toNat)
  case atStart => exact ⟨0, Nat.zero_le _, rfl, rfl⟩
  case round =>
    obtain ⟨k, hk, rfl, rfl⟩ := hrel
    by_cases hlt : k < s.size
    · have H := Lib.hid (dec_step s k hlt hs)
      go_wp2
      go_round
      case rel => exact ⟨k + 1, by omega, by go_num, by rw [H.out]⟩
      case measure => simp [intOf]; omega
    · have hd2 : 9223372036854775808 ≤ dec (s.data.toList.take k) := by rw [take_all s k hlt]; exact hd
      have hb : (((dec (s.data.toList.take k) : Nat) : Int) / 9223372036854775808 != 0) = true := by simp; omega
      go_wp2
      go_ret2
      exact ⟨rfl, rfl⟩

theorem div_step {n X width j : Nat} (hX : X = n / 256 ^ (width - (j + 1))) (h : j + 1 ≤ width) : X / 256 = n / 256 ^ (width - j) := by
  rw [hX, Nat.div_div_eq_div_mul, ← Nat.pow_succ, show (width - (j + 1)).succ = width - j from by omega]

set_option maxHeartbeats 400000 in
theorem encode_any (n width : Nat) (w : World) (hn : n < 9223372036854775808) (h1 : 1 ≤ width) (h2 : width ≤ 8) :
    Calls Tryz.prog 117 #[.int .i64 n, .int .i64 width] w fun e w' => e = .returned (.string (str (enc width n))) ∧ Below w.heap.size w w' := by
  have hmk := fun W => run_make_row' (P := Tryz.prog) 101 5 (.int .u8 0) 1 Tryz.underlying101 Tryz.infoByte rfl .i64 .i64 width (by omega) (by omega) W
  go_enter Tryz.func117, Tryz.ntmps117
  go_wp2
  go_loopw [0, 6] (fun x i wr => ∃ (m : Int) (k X : Nat), k ≤ width ∧ m + 1 ≤ k ∧ k ≤ m + 1 ∧ i = .int .i64 m ∧ x = .int .i64 X ∧ X < 9223372036854775808 ∧ Hid (X = n / 256 ^ (width - k)) ∧ Hid (wr.heap[w.heap.size]? = some (.cells (encCells width k n) 5 (0, 0))) ∧ Below w.heap.size w wr) (fun _ i _ => (intOf i + 1).toNat)
  case atStart =>
    refine ⟨_, width, n, Nat.le_refl _, ?_, ?_, rfl, rfl, hn, Lib.hid (by simp), ?_, (Below.refl _ _).alloc (Nat.le_refl _) _⟩
    · omega
    · omega
    · rw [encCells_all]; exact Lib.hid (heap_alloc_new _ _)
  case round =>
    obtain ⟨m, k, X, hk, hm1, hm2, rfl, rfl, hX, HX, hb, hbel⟩ := hrel
    by_cases hlt : 0 ≤ m
    · obtain ⟨j, rfl⟩ := Int.eq_ofNat_of_zero_le hlt
      obtain rfl : k = j + 1 := by omega
      have hc := Lib.cell_of_heap hb.out j
      rw [encCells_at (by omega)] at hc
      have hf := Lib.frozen_of_heap hb.out j
      go_wp2
      go_roundw
      case rel =>
        refine ⟨_, j, X / 256, by omega, ?_, ?_, rfl, by go_num, by omega, Lib.hid (div_step HX.out hk), ?_, hbel.setCell (Nat.le_refl _) _⟩
        · omega
        · omega
        · rw [← encCells_step hk _ (by rw [← HX.out])]
          exact Lib.hid (row_set hb.out j _)
      case measure => simp [intOf]
    · obtain rfl : k = 0 := by omega
      have hcv := run_convert_bytes_back (P := Tryz.prog) wr 101 9 5 ⟨w.heap.size, 0, none⟩ width (enc width n) Tryz.underlying101 Tryz.underlying5 Tryz.underlying9 (fun j hj => by
        rw [WideShapes.add_plain, Nat.zero_add, Lib.cell_of_heap hb.out, encCells_done hj])
      rw [enc_length] at hcv
      go_wp2
      go_ret
      exact ⟨rfl, hbel⟩
end Go.Proofs.YtlelfakememckaaGreatDoor

namespace Go.Proofs.YtlelfakememckaaGreatDoor
open Go.RowKit

set_option maxHeartbeats 400000 in
theorem Put_any (n width : Int) (w : World) (hn : n ≤ 9223372036854775807) :
    Calls Tryz.prog 102 #[.int .i64 n, .int .i64 width] w fun e w' => e = .returned (.tuple #[.string (str (putB n width)), .int .i64 (putE n width)]) ∧ Below w.heap.size w w' := by
  by_cases h : width < 1 ∨ 8 < width
  · have H := Lib.hid (putE_arg (n := n) h)
    go_enter Tryz.func102, Tryz.ntmps102
    go_wp2_with (go_at_call 106; refine (isWidth_no _ _ h).mono ?_; rintro e w' ⟨rfl, rfl⟩)
    go_ret2
    rw [putB_no (by rw [H.out]; omega), H.out]
    exact ⟨rfl, Below.refl _ _⟩
  · have h1 : 1 ≤ width := by omega
    have h2 : width ≤ 8 := by omega
    clear h
    by_cases hneg : n < 0
    · have H := Lib.hid (putE_neg h1 h2 hneg)
      go_enter Tryz.func102, Tryz.ntmps102
      go_wp2_with (go_at_call 106; refine (isWidth_yes _ _ h1 h2).mono ?_; rintro e w' ⟨rfl, rfl⟩)
      go_ret2
      rw [putB_no (by rw [H.out]; omega), H.out]
      exact ⟨rfl, Below.refl _ _⟩
    · obtain ⟨m, rfl⟩ := Int.eq_ofNat_of_zero_le (show 0 ≤ n by omega)
      obtain ⟨k, rfl⟩ := Int.eq_ofNat_of_zero_le (show 0 ≤ width by omega)
      by_cases hf : m < 256 ^ k
      · have hb := shr_none hf
        have H := Lib.hid (putE_ok (by omega) (by omega) hf)
        clear hf
        go_enter Tryz.func102, Tryz.ntmps102
        go_wp2_with (first
          | (go_at_call 106; refine (isWidth_yes _ _ h1 h2).mono ?_; rintro e w' ⟨rfl, rfl⟩)
          | (go_at_call 117; refine (encode_any m k _ (by omega) (by omega) (by omega)).mono ?_; rintro e w' ⟨rfl, hbel⟩))
        go_ret2
        rw [putB_ok H.out, H.out]
        exact ⟨rfl, hbel⟩
      · have hb := shr_some (Nat.le_of_not_lt hf)
        have H := Lib.hid (putE_big (n := m) (k := k) (by omega) (by omega) (Nat.le_of_not_lt hf))
        clear hf
        go_enter Tryz.func102, Tryz.ntmps102
        go_wp2_with (first
          | (go_at_call 106; refine (isWidth_yes _ _ h1 h2).mono ?_; rintro e w' ⟨rfl, rfl⟩))
        go_ret2
        rw [putB_no (by rw [H.out]; omega), H.out]
        exact ⟨rfl, Below.refl _ _⟩

set_option maxHeartbeats 400000 in
theorem Number_any (s : ByteArray) (width : Int) (w : World) (_hs : s.size ≤ maxLen) :
    Calls Tryz.prog 97 #[.string s, .int .i64 width] w fun e w' => e = .returned (.tuple #[.int .i64 (numN s.data.toList width), .string (str (numR s.data.toList width)), .int .i64 (numE s.data.toList width)]) ∧ Below w.heap.size w w' := by
  unfold maxLen at _hs
  by_cases h : width < 1 ∨ 8 < width
  · have H := Lib.hid (numE_arg (l := s.data.toList) h)
    go_enter Tryz.func97, Tryz.ntmps97
    go_wp2_with (go_at_call 106; refine (isWidth_no _ _ h).mono ?_; rintro e w' ⟨rfl, rfl⟩)
    go_ret3
    rw [numN_no (by rw [H.out]; omega), numR_no (by rw [H.out]; omega), H.out]
    exact ⟨rfl, Below.refl _ _⟩
  · have h1 : 1 ≤ width := by omega
    have h2 : width ≤ 8 := by omega
    clear h
    by_cases hlt : (s.size : Int) < width
    · have H := Lib.hid (numE_short (l := s.data.toList) h1 h2 (by rw [list_length]; exact hlt))
      go_enter Tryz.func97, Tryz.ntmps97
      go_wp2_with (go_at_call 106; refine (isWidth_yes _ _ h1 h2).mono ?_; rintro e w' ⟨rfl, rfl⟩)
      go_ret3
      rw [numN_no (by rw [H.out]; omega), numR_no (by rw [H.out]; omega), H.out]
      exact ⟨rfl, Below.refl _ _⟩
    · obtain ⟨k, rfl⟩ := Int.eq_ofNat_of_zero_le (show 0 ≤ width by omega)
      have hk : k ≤ s.size := by omega
      have hlen : (s.data.toList.take k).length = k := by rw [List.length_take, list_length]; omega
      have hsz : (s.extract 0 k).size ≤ 8 := by rw [ByteArray.size_extract]; omega
      have HE := Lib.hid (numE_get (l := s.data.toList) (k := k) (by omega) (by omega) (by rw [list_length]; exact hk))
      have HX := Lib.hid (extract_take s k)
      have HL := Lib.hid hlen
      clear hlen
      by_cases hb : dec (s.extract 0 k).data.toList < 9223372036854775808
      · have H : Hid (numE s.data.toList (k : Int) = 0) := by
          rw [HX.out] at hb
          exact Lib.hid (HE.out.trans (getE_ok (by rw [HL.out]; omega) (by rw [HL.out]; omega) hb))
        clear HE HL
        go_enter Tryz.func97, Tryz.ntmps97
        go_wp2_with (first
          | (go_at_call 106; refine (isWidth_yes _ _ h1 h2).mono ?_; rintro e w' ⟨rfl, rfl⟩)
          | (go_at_call 107; refine (decode_small _ _ hsz hb).mono ?_; rintro e w' ⟨rfl, rfl⟩))
        go_quiet (fail)
        go_wp2
        go_ret3
        rw [numN_ok H.out, numR_ok H.out, H.out, ← extract_drop_str]
        exact ⟨rfl, below_drewN (Below.refl _ _) _⟩
      · have H : Hid (numE s.data.toList (k : Int) = 10) := by
          rw [HX.out] at hb
          exact Lib.hid (HE.out.trans (getE_big (by rw [HL.out]; omega) (by rw [HL.out]; omega) (Nat.le_of_not_lt hb)))
        clear HE HL
        go_enter Tryz.func97, Tryz.ntmps97
        go_wp2_with (first
          | (go_at_call 106; refine (isWidth_yes _ _ h1 h2).mono ?_; rintro e w' ⟨rfl, rfl⟩)
          | (go_at_call 107; refine (decode_big _ _ hsz (Nat.le_of_not_lt hb)).mono ?_; rintro e w' ⟨rfl, rfl⟩))
        go_ret3
        rw [numN_no (by rw [H.out]; omega), numR_no (by rw [H.out]; omega), H.out]
        exact ⟨rfl, Below.refl _ _⟩

end Go.Proofs.YtlelfakememckaaGreatDoor
