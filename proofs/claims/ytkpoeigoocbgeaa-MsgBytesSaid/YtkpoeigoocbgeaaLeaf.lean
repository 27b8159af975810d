/- Contracts of the inner functions of the package octet: isWidth, decode, encode. -/
import Derived.Test.YtkpoeigoocbgeaaRows
import Derived.WalkKit
import Derived.WalkSpells
import Derived.WalkLawsBesides
import Derived.Lib.Hide
import Derived.Deep.OwnRows
import Derived.Laws.IdiomStrings
import Derived.Test.YtkpoeigoocbgeaaPlain
namespace Go.Proofs.Ytkpoeigoocbgeaa
open Go.RowKit

theorem Try.infoByte : (Try.prog.info? 5).map (fun i => (i.zero, i.size, i.bytes)) = some (some (.int .u8 0), 1, 1) := by kernel_rfl

set_option maxHeartbeats 400000 in
theorem isWidth_yes (n : Int) (w : World) (h1 : 1 ≤ n) (h2 : n ≤ 8) :
    Calls Try.prog 88 #[.int .i64 n] w fun e w' => e = .returned (.bool true) ∧ w = w' := by
  go_enter Try.func88, Try.ntmps88
  go_wp2
  go_ret
  exact ⟨rfl, rfl⟩

set_option maxHeartbeats 400000 in
theorem isWidth_no (n : Int) (w : World) (h : n < 1 ∨ 8 < n) :
    Calls Try.prog 88 #[.int .i64 n] w fun e w' => e = .returned (.bool false) ∧ w = w' := by
  rcases h with h | h
  · go_enter Try.func88, Try.ntmps88
    go_wp2
    go_ret
    exact ⟨rfl, rfl⟩
  · have h1 : 1 ≤ n := by omega
    have h2 : decide (n ≤ 8) = false := by simp; omega
    go_enter Try.func88, Try.ntmps88
    go_wp2
    go_ret
    exact ⟨rfl, rfl⟩

set_option maxHeartbeats 400000 in
theorem decode_small (s : ByteArray) (w : World) (hs : s.size ≤ 8) (hd : dec s.data.toList < 9223372036854775808) :
    Calls Try.prog 89 #[.string s] w fun e w' => e = .returned (.tuple #[.int .i64 (dec s.data.toList), .int .i64 0]) ∧ w = w' := by
  go_enter Try.func89, Try.ntmps89
  go_wp2
  go_loop [4, 8] (fun n i => ∃ k : Nat, k ≤ s.size ∧ i = .int .i64 k ∧ n = .int .u64 (dec (s.data.toList.take k))) (fun _ i => s.size - (intOf i).toNat)
  case atStart => exact ⟨0, Nat.zero_le _, rfl, rfl⟩
  case round =>
    obtain ⟨k, hk, rfl, rfl⟩ := hrel
    by_cases hlt : k < s.size
    · have H := Lib.hid (dec_step s k hlt hs)
      go_wp2
      go_round
      case rel => exact ⟨k + 1, by omega, by go_num, by rw [H.out]⟩
      case measure => simp [intOf]; omega
    · have hd2 : dec (s.data.toList.take k) < 9223372036854775808 := by rw [take_all s k hlt]; exact hd
      have H := Lib.hid (take_all s k hlt)
      have hb : (((dec (s.data.toList.take k) : Nat) : Int) / 9223372036854775808 != 0) = false := by simp; omega
      go_wp2
      go_ret2
      rw [H.out]
      exact ⟨rfl, rfl⟩

set_option maxHeartbeats 400000 in
theorem decode_big (s : ByteArray) (w : World) (hs : s.size ≤ 8) (hd : 9223372036854775808 ≤ dec s.data.toList) :
    Calls Try.prog 89 #[.string s] w fun e w' => e = .returned (.tuple #[.int .i64 0, .int .i64 10]) ∧ w = w' := by
  go_enter Try.func89, Try.ntmps89
  go_wp2
  go_loop [4, 8] (fun n i => ∃ k : Nat, k ≤ s.size ∧ i = .int .i64 k ∧ n = .int .u64 (dec (s.data.toList.take k))) (fun _ i => s.size - (intOf i).toNat)
  case atStart => exact ⟨0, Nat.zero_le _, rfl, rfl⟩
  case round =>
    obtain ⟨k, hk, rfl, rfl⟩ := hrel
    by_cases hlt : k < s.size
    · have H := Lib.hid (dec_step s k hlt hs)
      go_wp2
      go_round
      case rel => exact ⟨k + 1, by omega, by go_num, by rw [H.out]⟩
      case measure => simp [intOf]; omega
    · have hd2 : 9223372036854775808 ≤ dec (s.data.toList.take k) := by rw [take_all s k hlt]; exact hd
      have hb : (((dec (s.data.toList.take k) : Nat) : Int) / 9223372036854775808 != 0) = true := by simp; omega
      go_wp2
      go_ret2
      exact ⟨rfl, rfl⟩

theorem div_step {n X width j : Nat} (hX : X = n / 256 ^ (width - (j + 1))) (h : j + 1 ≤ width) : X / 256 = n / 256 ^ (width - j) := by
  rw [hX, Nat.div_div_eq_div_mul, ← Nat.pow_succ, show (width - (j + 1)).succ = width - j from by omega]

set_option maxHeartbeats 400000 in
theorem encode_any (n width : Nat) (w : World) (hn : n < 9223372036854775808) (h1 : 1 ≤ width) (h2 : width ≤ 8) :
    Calls Try.prog 75 #[.int .i64 n, .int .i64 width] w fun e w' => e = .returned (.string (str (enc width n))) ∧ Below w.heap.size w w' := by
  have hmk := fun W => run_make_row' (P := Try.prog) 67 5 (.int .u8 0) 1 Try.underlying67 Try.infoByte rfl .i64 .i64 width (by omega) (by omega) W
  go_enter Try.func75, Try.ntmps75
  go_wp2
  go_loopw [0, 6] (fun x i wr => ∃ (m : Int) (k X : Nat), k ≤ width ∧ m + 1 ≤ k ∧ k ≤ m + 1 ∧ i = .int .i64 m ∧ x = .int .i64 X ∧ X < 9223372036854775808 ∧ Hid (X = n / 256 ^ (width - k)) ∧ Hid (wr.heap[w.heap.size]? = some (.cells (encCells width k n) 5 (0, 0))) ∧ Below w.heap.size w wr) (fun _ i _ => (intOf i + 1).toNat)
  case atStart =>
    refine ⟨_, width, n, Nat.le_refl _, ?_, ?_, rfl, rfl, hn, Lib.hid (by simp), ?_, (Below.refl _ _).alloc (Nat.le_refl _) _⟩
    · omega
    · omega
    · rw [encCells_all]; exact Lib.hid (heap_alloc_new _ _)
  case round =>
    obtain ⟨m, k, X, hk, hm1, hm2, rfl, rfl, hX, HX, hb, hbel⟩ := hrel
    by_cases hlt : 0 ≤ m
    · obtain ⟨j, rfl⟩ := Int.eq_ofNat_of_zero_le hlt
      obtain rfl : k = j + 1 := by omega
      have hc := Lib.cell_of_heap hb.out j
      rw [encCells_at (by omega)] at hc
      have hf := Lib.frozen_of_heap hb.out j
      go_wp2
      go_roundw
      case rel =>
        refine ⟨_, j, X / 256, by omega, ?_, ?_, rfl, by go_num, by omega, Lib.hid (div_step HX.out hk), ?_, hbel.setCell (Nat.le_refl _) _⟩
        · omega
        · omega
        · rw [← encCells_step hk _ (by rw [← HX.out])]
          exact Lib.hid (row_set hb.out j _)
      case measure => simp [intOf]
    · obtain rfl : k = 0 := by omega
      have hcv := run_convert_bytes_back (P := Try.prog) wr 67 9 5 ⟨w.heap.size, 0, none⟩ width (enc width n) Try.underlying67 Try.underlying5 Try.underlying9 (fun j hj => by
        rw [WideShapes.add_plain, Nat.zero_add, Lib.cell_of_heap hb.out, encCells_done hj])
      rw [enc_length] at hcv
      go_wp2
      go_ret
      exact ⟨rfl, hbel⟩
end Go.Proofs.Ytkpoeigoocbgeaa
