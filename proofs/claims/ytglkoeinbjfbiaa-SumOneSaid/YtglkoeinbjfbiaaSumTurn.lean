/- The walk of the law SumOne: it returns true, and changes nothing that was there. -/
import Derived.Test.YtglkoeinbjfbiaaSumBytes
namespace Go.Proofs.Ytglkoeinbjfbiaa
open Go.RowKit

set_option maxHeartbeats 400000 in
theorem SumOne_out (s : ByteArray) (at_ : Int) (b : UInt8) (w : World) (h : at_ < 0 ∨ (s.size : Int) ≤ at_) (hs : s.size ≤ 140737488351232) :
    Calls Try.prog 7 #[.string s, .int .i64 at_, .int .u8 b.toNat] w fun e w' => e = .returned (.bool true) ∧ Below w.heap.size w w' := by
  rcases h with h | h
  · go_enter Try.func7, Try.ntmps7
    go_wp2_with (go_at_call 13; refine (SumAwake_any _).mono ?_; rintro e w1 ⟨rfl, rfl⟩)
    go_ret
    exact ⟨rfl, Below.refl _ _⟩
  · have h0 : 0 ≤ at_ := by omega
    go_enter Try.func7, Try.ntmps7
    go_wp2_with (go_at_call 13; refine (SumAwake_any _).mono ?_; rintro e w1 ⟨rfl, rfl⟩)
    go_ret
    exact ⟨rfl, Below.refl _ _⟩

set_option maxHeartbeats 400000 in
theorem SumOne_in (s : ByteArray) (k : Nat) (b : UInt8) (w : World) (h : k < s.size) (hs : s.size ≤ 140737488351232) :
    Calls Try.prog 7 #[.string s, .int .i64 k, .int .u8 b.toNat] w fun e w' => e = .returned (.bool true) ∧ Below w.heap.size w w' := by
  obtain ⟨cap, w1, hcv, hby, hb1, hz1⟩ := bytes_of_text w s
  have hl : k < s.data.toList.length := by rw [list_length]; exact h
  obtain ⟨c, Hc⟩ : ∃ c : UInt8, Hid (s.data.toList[k] = c) := ⟨_, Lib.hid rfl⟩
  obtain ⟨hc, hf⟩ := hby k hl
  rw [Hc.out] at hc
  have hcv2 : (convert 29 9 (.slice (some ⟨w.heap.size, 0, none⟩) s.size cap)).run Try.prog (w1.setCell ⟨w.heap.size, k, none⟩ (.int .u8 (bits .xor .u8 ((c.toNat : Nat) : Int) ((b.toNat : Nat) : Int)))) = .ok (.string (str (s.data.toList.set k (c ^^^ b)))) (w1.setCell ⟨w.heap.size, k, none⟩ (.int .u8 (bits .xor .u8 ((c.toNat : Nat) : Int) ((b.toNat : Nat) : Int)))) := by
    have h1 := text_of_bytes (hby.set k (c ^^^ b)) cap
    rw [List.length_set, list_length] at h1
    rw [u8_turn]
    exact h1
  have hsz : (str (s.data.toList.set k (c ^^^ b))).size ≤ 9223372036854775807 := by rw [str_size, List.length_set, list_length]; omega
  have hcond := one_turned hl b
  rw [Hc.out] at hcond
  obtain ⟨p, Hp⟩ : ∃ p : Nat, Hid (crcSum 0 (s.data.toList.set k (c ^^^ b)) = p) := ⟨_, Lib.hid rfl⟩
  obtain ⟨q, Hq⟩ : ∃ q : Nat, Hid (crcSum 0 s.data.toList = q) := ⟨_, Lib.hid rfl⟩
  rw [Hp.out, Hq.out] at hcond
  have HB : Hid (Below w.heap.size w (w1.setCell ⟨w.heap.size, k, none⟩ (.int .u8 (bits .xor .u8 ((c.toNat : Nat) : Int) ((b.toNat : Nat) : Int))))) := Lib.hid (hb1.setCell (Nat.le_refl _) _)
  clear hby hz1 hb1
  go_enter Try.func7, Try.ntmps7
  go_wp2_with fail
  refine (Of_any _ _ hsz).mono ?_
  rintro e w2 ⟨rfl, rfl⟩
  rw [str_list, Hp.out]
  go_wp2_with fail
  refine (Of_any _ _ (by omega)).mono ?_
  rintro e w2 ⟨rfl, rfl⟩
  rw [Hq.out]
  go_wp2_with fail
  refine (SumAwake_any _).mono ?_
  rintro e w2 ⟨rfl, rfl⟩
  go_wp2
  go_ret
  exact ⟨rfl, HB.out⟩

theorem SumOne_walkI (s : ByteArray) (at_ n : Int) (w : World) (hs : s.size ≤ 140737488351232) (h : (Lit.int .u8 n).wf = true) :
    Calls Try.prog 7 #[.string s, .int .i64 at_, .int .u8 n] w fun e w' => e = .returned (.bool true) ∧ Below w.heap.size w w' := by
  obtain ⟨b, rfl⟩ := byte_of h
  by_cases ho : at_ < 0 ∨ (s.size : Int) ≤ at_
  · exact SumOne_out s at_ b w ho hs
  · obtain ⟨k, rfl⟩ := Int.eq_ofNat_of_zero_le (show 0 ≤ at_ by omega)
    exact SumOne_in s k b w (by omega) hs
end Go.Proofs.Ytglkoeinbjfbiaa
