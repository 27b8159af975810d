/- The walk of the law FrameTurned: it returns true, and changes nothing that was there. -/
import Derived.Test.YtgpapnekcinifaaFrameLaws
namespace Go.Proofs.Ytgpapnekcinifaa
open Go.RowKit

set_option maxHeartbeats 400000 in
theorem FrameTurned_refused (kind : Int) (s : ByteArray) (at_ : Int) (b : UInt8) (w : World) (hs : s.size ≤ 140737488351232) (hz : sealE kind s.data.toList ≠ 0) :
    Calls Try.prog 6 #[.int .i64 kind, .string s, .int .i64 at_, .int .u8 b.toNat] w fun e w' => e = .returned (.bool true) ∧ Below w.heap.size w w' := by
  have hs' : s.size ≤ maxLen := by unfold maxLen; omega
  have hbe : (sealE kind s.data.toList != 0) = true := by rw [bne_iff_ne]; exact hz
  have HB := Lib.hid (sealB_no hz)
  obtain ⟨x, HE⟩ : ∃ x, Hid (sealE kind s.data.toList = x) := ⟨_, Lib.hid rfl⟩
  rw [HE.out] at hbe
  clear hz
  go_enter Try.func6, Try.ntmps6
  go_wp2_with fail
  refine (Seal_any kind s _ hs').mono ?_
  rintro e w1 ⟨rfl, hb1⟩
  rw [HB.out, HE.out]
  go_wp2_with fail
  refine (FrameAwake_any _).mono ?_
  rintro e w3 ⟨rfl, hb3⟩
  go_wp2
  go_ret
  exact ⟨rfl, below_next hb1 hb3⟩

set_option maxHeartbeats 400000 in
theorem FrameTurned_out (k : Nat) (s : ByteArray) (at_ : Int) (b : UInt8) (w : World) (hs : s.size ≤ 140737488351232) (hz : sealE k s.data.toList = 0) (h : at_ < 0 ∨ (0 ≤ at_ ∧ (s.size : Int) + 7 ≤ at_) ∨ (0 ≤ at_ ∧ at_ < (s.size : Int) + 7 ∧ b = 0)) :
    Calls Try.prog 6 #[.int .i64 k, .string s, .int .i64 at_, .int .u8 b.toNat] w fun e w' => e = .returned (.bool true) ∧ Below w.heap.size w w' := by
  have hs' : s.size ≤ maxLen := by unfold maxLen; omega
  have HE := Lib.hid hz
  have HB := Lib.hid (sealB_ok hz)
  obtain ⟨f, HF⟩ : ∃ f, Hid (frameOf k s.data.toList = f) := ⟨_, Lib.hid rfl⟩
  have hfs : (str f).size = s.size + 7 := by rw [str_size, ← HF.out, frameOf_length, list_length]
  clear hz
  rcases h with h | ⟨h0, h⟩ | ⟨h0, h1, h⟩
  · go_enter Try.func6, Try.ntmps6
    go_wp2_with fail
    refine (Seal_any k s _ hs').mono ?_
    rintro e w1 ⟨rfl, hb1⟩
    rw [HB.out, HE.out, HF.out]
    go_wp2_with fail
    refine (FrameAwake_any _).mono ?_
    rintro e w3 ⟨rfl, hb3⟩
    go_wp2
    go_ret
    exact ⟨rfl, below_next hb1 hb3⟩
  · go_enter Try.func6, Try.ntmps6
    go_wp2_with fail
    refine (Seal_any k s _ hs').mono ?_
    rintro e w1 ⟨rfl, hb1⟩
    rw [HB.out, HE.out, HF.out]
    go_wp2_with fail
    refine (FrameAwake_any _).mono ?_
    rintro e w3 ⟨rfl, hb3⟩
    go_wp2
    go_ret
    exact ⟨rfl, below_next hb1 hb3⟩
  · have hbz : (((b.toNat : Nat) : Int) == 0) = true := by rw [beq_iff_eq, byte_zero]; exact h
    clear h
    go_enter Try.func6, Try.ntmps6
    go_wp2_with fail
    refine (Seal_any k s _ hs').mono ?_
    rintro e w1 ⟨rfl, hb1⟩
    rw [HB.out, HE.out, HF.out]
    go_wp2_with fail
    refine (FrameAwake_any _).mono ?_
    rintro e w3 ⟨rfl, hb3⟩
    go_wp2
    go_ret
    exact ⟨rfl, below_next hb1 hb3⟩

set_option maxHeartbeats 400000 in
theorem FrameTurned_in (k : Nat) (s : ByteArray) (j : Nat) (b : UInt8) (w : World) (hs : s.size ≤ 140737488351232) (hz : sealE k s.data.toList = 0) (hj : j < s.size + 7) (hb : b ≠ 0) :
    Calls Try.prog 6 #[.int .i64 k, .string s, .int .i64 j, .int .u8 b.toNat] w fun e w' => e = .returned (.bool true) ∧ Below w.heap.size w w' := by
  have hs' : s.size ≤ maxLen := by unfold maxLen; omega
  have HE := Lib.hid hz
  have HB := Lib.hid (sealB_ok hz)
  obtain ⟨f, HF⟩ : ∃ f, Hid (frameOf k s.data.toList = f) := ⟨_, Lib.hid rfl⟩
  have hfl : f.length = s.size + 7 := by rw [← HF.out, frameOf_length, list_length]
  have hfs : (str f).size = s.size + 7 := by rw [str_size, hfl]
  have hjf : j < f.length := by omega
  have hbz : (((b.toNat : Nat) : Int) == 0) = false := by
    rw [beq_eq_false_iff_ne]
    intro e
    exact hb ((byte_zero b).1 e)
  obtain ⟨x, HX⟩ : ∃ x : UInt8, Hid (f[j] = x) := ⟨_, Lib.hid rfl⟩
  have hne : openE (f.set j (x ^^^ b)) ≠ 0 := by
    have h := frame_turned (k := k) (l := s.data.toList) (j := j) (b := b)
    rw [HF.out] at h
    rw [← HX.out]
    exact h hjf hb
  have HK := Lib.hid (openK_no hne)
  have HBd := Lib.hid (openB_no hne)
  obtain ⟨y, HY⟩ : ∃ y, Hid (openE (f.set j (x ^^^ b)) = y) := ⟨_, Lib.hid rfl⟩
  have hyn : (y != 0) = true := by rw [bne_iff_ne, ← HY.out]; exact hne
  have hse : ((str []).toList == []) = true := by rw [byteArray_toList, str_list]; rfl
  have hsz : (str (f.set j (x ^^^ b))).size ≤ maxLen := by rw [str_size, List.length_set]; unfold maxLen; omega
  clear hz hne hb
  go_enter Try.func6, Try.ntmps6
  go_wp2_with fail
  refine (Seal_any k s _ hs').mono ?_
  rintro e w1 ⟨rfl, hb1⟩
  rw [HB.out, HE.out, HF.out]
  obtain ⟨cap, w2, hcv, hby, hb2, hz2⟩ := bytes_of_text w1 (str f)
  rw [str_list] at hby
  obtain ⟨hc, hf⟩ := hby j hjf
  rw [HX.out] at hc
  have hcv2 : (convert 34 9 (.slice (some ⟨w1.heap.size, 0, none⟩) (s.size + 7) cap)).run Try.prog (w2.setCell ⟨w1.heap.size, j, none⟩ (.int .u8 (bits .xor .u8 ((x.toNat : Nat) : Int) ((b.toNat : Nat) : Int)))) = .ok (.string (str (f.set j (x ^^^ b)))) (w2.setCell ⟨w1.heap.size, j, none⟩ (.int .u8 (bits .xor .u8 ((x.toNat : Nat) : Int) ((b.toNat : Nat) : Int)))) := by
    have h1 := text_of_bytes (hby.set j (x ^^^ b)) cap
    rw [List.length_set, hfl] at h1
    rw [u8_turn]
    exact h1
  rw [hfs] at hcv
  have HB2 : Hid (Below w1.heap.size w1 (w2.setCell ⟨w1.heap.size, j, none⟩ (.int .u8 (bits .xor .u8 ((x.toNat : Nat) : Int) ((b.toNat : Nat) : Int))))) := Lib.hid (hb2.setCell (Nat.le_refl _) _)
  clear hby hz2 hb2 hfl
  go_wp2_with fail
  refine (Open_any _ _ hsz).mono ?_
  rintro e w3 ⟨rfl, hb3⟩
  rw [str_list, HK.out, HBd.out, HY.out]
  go_wp2_with fail
  refine (FrameAwake_any _).mono ?_
  rintro e w4 ⟨rfl, hb4⟩
  go_wp2
  go_ret
  exact ⟨rfl, below_next (below_next (below_next hb1 HB2.out) hb3) hb4⟩

theorem FrameTurned_walkI (kind : Int) (s : ByteArray) (at_ n : Int) (w : World) (hs : s.size ≤ 140737488351232) (h : (Lit.int .u8 n).wf = true) :
    Calls Try.prog 6 #[.int .i64 kind, .string s, .int .i64 at_, .int .u8 n] w fun e w' => e = .returned (.bool true) ∧ Below w.heap.size w w' := by
  obtain ⟨b, rfl⟩ := byte_of h
  by_cases hz : sealE kind s.data.toList = 0
  · obtain ⟨k, rfl⟩ := Int.eq_ofNat_of_zero_le (sealE_zero hz).1
    by_cases h0 : at_ < 0
    · exact FrameTurned_out k s at_ b w hs hz (Or.inl h0)
    · by_cases h1 : (s.size : Int) + 7 ≤ at_
      · exact FrameTurned_out k s at_ b w hs hz (Or.inr (Or.inl ⟨by omega, h1⟩))
      · by_cases hb : b = 0
        · exact FrameTurned_out k s at_ b w hs hz (Or.inr (Or.inr ⟨by omega, by omega, hb⟩))
        · obtain ⟨j, rfl⟩ := Int.eq_ofNat_of_zero_le (show 0 ≤ at_ by omega)
          exact FrameTurned_in k s j b w hs hz (by omega) hb
  · exact FrameTurned_refused kind s at_ b w hs hz
end Go.Proofs.Ytgpapnekcinifaa
