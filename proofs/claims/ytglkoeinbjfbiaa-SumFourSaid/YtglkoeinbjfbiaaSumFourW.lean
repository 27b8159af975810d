/- The walk of the law SumFour: it returns true, and changes nothing that was there. -/
import Derived.Test.YtglkoeinbjfbiaaSumFourP
namespace Go.Proofs.Ytglkoeinbjfbiaa
open Go.RowKit

theorem Try.someU8 : (Try.prog.info? 5).isSome = true := by kernel_rfl
theorem Try.cellsU8 : Try.prog.cellsOf 5 = 1 := by kernel_rfl

theorem four_equal (b0 b1 b2 b3 : UInt8) : ∃ z : Bool, (∀ W : World, (Op.equalIn 10000 35 (.agg #[.int .u8 (b0.toNat : Int), .int .u8 (b1.toNat : Int), .int .u8 (b2.toNat : Int), .int .u8 (b3.toNat : Int)]) (.agg #[.int .u8 0, .int .u8 0, .int .u8 0, .int .u8 0])).run Try.prog W = .ok z W) ∧ (z = true ↔ b0 = 0 ∧ b1 = 0 ∧ b2 = 0 ∧ b3 = 0) := by
  refine ⟨(b0.toNat : Int) == 0 && ((b1.toNat : Int) == 0 && ((b2.toNat : Int) == 0 && (b3.toNat : Int) == 0)), ?_, ?_⟩
  · intro W
    obtain ⟨i, hi⟩ := Option.isSome_iff_exists.1 Try.someU8
    rw [run_equalIn_array W 9999 _ _ Try.underlying35 hi, Try.cellsU8, show List.range 4 = [0, 1, 2, 3] from by decide]
    have hu := Try.underlying5
    simp [Op.eqItems, part, isAgg, run_underlying hu, run_equalIn_int W 9998 5 .u8 .u8 _ _ hu]
    by_cases e0 : b0.toNat = 0 <;> by_cases e1 : b1.toNat = 0 <;> by_cases e2 : b2.toNat = 0 <;> by_cases e3 : b3.toNat = 0 <;> simp [e0, e1, e2, e3]
  · simp only [Bool.and_eq_true, beq_iff_eq, byte_zero]

set_option maxHeartbeats 400000 in
theorem SumFour_out (s : ByteArray) (at_ : Int) (b0 b1 b2 b3 : UInt8) (w : World) (h : at_ < 0 ∨ (s.size : Int) - 4 < at_) (hs : s.size ≤ 140737488351232) :
    Calls Try.prog 9 #[.string s, .int .i64 at_, .agg #[.int .u8 (b0.toNat : Int), .int .u8 (b1.toNat : Int), .int .u8 (b2.toNat : Int), .int .u8 (b3.toNat : Int)]] w fun e w' => e = .returned (.bool true) ∧ Below w.heap.size w w' := by
  rcases h with h | h
  · go_enter Try.func9, Try.ntmps9
    go_wp2_with (go_at_call 13; refine (SumAwake_any _).mono ?_; rintro e w1 ⟨rfl, rfl⟩)
    go_ret
    exact ⟨rfl, (Below.refl _ _).alloc (Nat.le_refl _) _⟩
  · by_cases h0 : at_ < 0
    · go_enter Try.func9, Try.ntmps9
      go_wp2_with (go_at_call 13; refine (SumAwake_any _).mono ?_; rintro e w1 ⟨rfl, rfl⟩)
      go_ret
      exact ⟨rfl, (Below.refl _ _).alloc (Nat.le_refl _) _⟩
    · go_enter Try.func9, Try.ntmps9
      go_wp2_with (go_at_call 13; refine (SumAwake_any _).mono ?_; rintro e w1 ⟨rfl, rfl⟩)
      go_ret
      exact ⟨rfl, (Below.refl _ _).alloc (Nat.le_refl _) _⟩

set_option maxHeartbeats 400000 in
theorem SumFour_in (s : ByteArray) (k : Nat) (b0 b1 b2 b3 : UInt8) (w : World) (h : k + 4 ≤ s.size) (hs : s.size ≤ 140737488351232) :
    Calls Try.prog 9 #[.string s, .int .i64 k, .agg #[.int .u8 (b0.toNat : Int), .int .u8 (b1.toNat : Int), .int .u8 (b2.toNat : Int), .int .u8 (b3.toNat : Int)]] w fun e w' => e = .returned (.bool true) ∧ Below w.heap.size w w' := by
  obtain ⟨cap, w1, hcv, hby, hb1, hz1⟩ := bytes_of_text (w.alloc (Obj.cells #[.int .u8 (b0.toNat : Int), .int .u8 (b1.toNat : Int), .int .u8 (b2.toNat : Int), .int .u8 (b3.toNat : Int)] 35)) s
  have HY := Lib.hid hby
  have HB := Lib.hid hb1
  have HZ := Lib.hid hz1
  clear hby hb1 hz1
  have hk0 : ¬ (k : Int) < 0 := by omega
  have hk4 : ¬ (s.size : Int) - 4 < (k : Int) := by omega
  go_enter Try.func9, Try.ntmps9
  go_wp2_with fail
  go_loopw [21] (fun i wr => ∃ j : Nat, j ≤ 4 ∧ i = .int .i64 j ∧ Hid (BytesIn wr (w.heap.size + 1) (turned s.data.toList k (four b0 b1 b2 b3) j)) ∧ Hid (wr.heap[w.heap.size]? = some (.cells (fourVals b0 b1 b2 b3) 35 (0, 0))) ∧ Below w.heap.size w wr) (fun i _ => 4 - (intOf i).toNat)
  case atStart =>
    refine ⟨0, by omega, rfl, ?_, ?_, ?_⟩
    · rw [turned_zero]
      have hh := HY.out
      rw [alloc_size] at hh
      exact Lib.hid hh
    · exact Lib.hid ((HB.out.block w.heap.size (by rw [alloc_size]; omega)).trans (heap_alloc_new _ _))
    · exact ((Below.refl w.heap.size w).alloc (Nat.le_refl _) _).trans (HB.out.mono (by rw [alloc_size]; omega))
  case round =>
    obtain ⟨j, hj, rfl, HY2, h0, hbel⟩ := hrel
    by_cases hlt : j < 4
    · have hl : k + j < s.data.toList.length := by rw [list_length]; omega
      have hc2 := Lib.cell_of_heap h0.out j
      rw [fourVals_at _ _ _ _ hlt] at hc2
      obtain ⟨hc, hf⟩ := HY2.out (k + j) (by rw [turned_length _ (by omega)]; exact hl)
      rw [turned_at _ hl] at hc
      obtain ⟨c, Hc⟩ : ∃ c : UInt8, Hid (s.data.toList[k + j] = c) := ⟨_, Lib.hid rfl⟩
      obtain ⟨d, Hd⟩ : ∃ d : UInt8, Hid (four b0 b1 b2 b3 j = d) := ⟨_, Lib.hid rfl⟩
      rw [Hc.out] at hc
      rw [Hd.out] at hc2
      have hsum : IntKind.i64.wrap ((k : Int) + (j : Int)) = ((k + j : Nat) : Int) := by rw [IntKind.wrap_i64]; omega
      have hlen : ((k + j : Nat) : Int) < (s.size : Int) := by rw [list_length] at hl; omega
      have hj4 : (j : Int) < 4 := by omega
      go_wp2_with fail
      go_region
      go_wp2
      go_roundw
      case rel =>
        refine ⟨j + 1, by omega, by go_num, Lib.hid ?_, Lib.hid ?_, (hbel.setCell (by simp) _).drew⟩
        · have h3 := HY2.out.set (k + j) (c ^^^ d)
          rw [← u8_turn] at h3
          rw [← turned_step _ hl, Hc.out, Hd.out]
          exact h3
        · exact (Below.heap_setCell _ _ _ _ (by simp)).trans h0.out
      case measure => simp [intOf]; omega
    · obtain rfl : j = 4 := by omega
      have hle : k + 4 ≤ s.data.toList.length := by rw [list_length]; exact h
      have hcv3 : ∀ n, (convert 29 9 (.slice (some ⟨w.heap.size + 1, 0, none⟩) s.size cap)).run Try.prog (wr.drewN n) = .ok (.string (str (turned s.data.toList k (four b0 b1 b2 b3) 4))) (wr.drewN n) := fun n => by
        have h1 := text_of_bytes (w := wr.drewN n) (fun j hj => HY2.out j hj) cap
        rw [turned_length _ hle, list_length] at h1
        exact h1
      have hsz : (str (turned s.data.toList k (four b0 b1 b2 b3) 4)).size ≤ 9223372036854775807 := by rw [str_size, turned_length _ hle, list_length]; omega
      have hc0 : wr.cell? ⟨w.heap.size, 0, none⟩ = some (.int .u8 (b0.toNat : Int)) := Lib.cell_of_heap h0.out 0
      have hc1 : wr.cell? ⟨w.heap.size, 1, none⟩ = some (.int .u8 (b1.toNat : Int)) := Lib.cell_of_heap h0.out 1
      have hc2 : wr.cell? ⟨w.heap.size, 2, none⟩ = some (.int .u8 (b2.toNat : Int)) := Lib.cell_of_heap h0.out 2
      have hc3 : wr.cell? ⟨w.heap.size, 3, none⟩ = some (.int .u8 (b3.toNat : Int)) := Lib.cell_of_heap h0.out 3
      obtain ⟨z, hz, Hz⟩ := four_equal b0 b1 b2 b3
      obtain ⟨p, Hp⟩ : ∃ p : Nat, Hid (crcSum 0 (turned s.data.toList k (four b0 b1 b2 b3) 4) = p) := ⟨_, Lib.hid rfl⟩
      obtain ⟨q, Hq⟩ : ∃ q : Nat, Hid (crcSum 0 s.data.toList = q) := ⟨_, Lib.hid rfl⟩
      have hcond : (((p : Int) == (q : Int)) == z) = true := by
        have h1 := turned_sum (four b0 b1 b2 b3) hle
        rw [Hp.out, Hq.out] at h1
        rw [beq_iff_eq, Bool.eq_iff_iff, Hz, beq_iff_eq]
        exact Iff.trans (by omega) h1
      have HO1 : Hid (∀ W : World, Calls Try.prog 12 #[.string (str (turned s.data.toList k (four b0 b1 b2 b3) 4))] W fun e w' => e = .returned (.int .u32 p) ∧ w' = W) := Lib.hid (fun W => (Of_any _ _ hsz).mono fun e w' h => ⟨by rw [← Hp.out]; exact h.1, h.2.symm⟩)
      have HO2 : Hid (∀ W : World, Calls Try.prog 12 #[.string s] W fun e w' => e = .returned (.int .u32 q) ∧ w' = W) := Lib.hid (fun W => (Of_any _ _ (by omega)).mono fun e w' h => ⟨by rw [← Hq.out]; exact h.1, h.2.symm⟩)
      go_wp2_with fail
      go_quiet (first
        | (go_at_call 12; (with_reducible refine Calls.quiet_of_same (HO1.out _)))
        | (go_at_call 12; (with_reducible refine Calls.quiet_of_same (HO2.out _)))
        | (go_at_call 13; refine Calls.quiet_of_same ((SumAwake_any _).mono fun e w' h => ⟨h.1, h.2.symm⟩)))
      go_wp2
      go_ret
      exact ⟨rfl, below_drewN hbel _⟩

theorem SumFour_walk (s : ByteArray) (at_ : Int) (b0 b1 b2 b3 : UInt8) (w : World) (hs : s.size ≤ 140737488351232) :
    Calls Try.prog 9 #[.string s, .int .i64 at_, .agg #[.int .u8 (b0.toNat : Int), .int .u8 (b1.toNat : Int), .int .u8 (b2.toNat : Int), .int .u8 (b3.toNat : Int)]] w fun e w' => e = .returned (.bool true) ∧ Below w.heap.size w w' := by
  by_cases ho : at_ < 0 ∨ (s.size : Int) - 4 < at_
  · exact SumFour_out s at_ b0 b1 b2 b3 w ho hs
  · obtain ⟨k, rfl⟩ := Int.eq_ofNat_of_zero_le (show 0 ≤ at_ by omega)
    exact SumFour_in s k b0 b1 b2 b3 w (by omega) hs
end Go.Proofs.Ytglkoeinbjfbiaa
