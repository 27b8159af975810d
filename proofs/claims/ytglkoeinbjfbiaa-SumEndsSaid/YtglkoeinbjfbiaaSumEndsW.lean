/- The walk of the law SumEnds: it returns true, and changes nothing that was there. -/
import Derived.Test.YtglkoeinbjfbiaaSumEndsP
namespace Go.Proofs.Ytglkoeinbjfbiaa
open Go.RowKit

/-- The block of the four bytes of a sum, made last. -/
theorem BytesIn.four (w : World) (c : Nat) (h : c < 4294967296) : BytesIn (w.alloc (Obj.cells #[Value.int .u8 ((c : Int) / 16777216), Value.int .u8 ((c : Int) / 65536 % 256), Value.int .u8 ((c : Int) / 256 % 256), Value.int .u8 ((c : Int) % 256)] 5)) w.heap.size (enc 4 c) := by
  rw [fourCells c h]
  intro j hj
  exact ⟨(Lib.cell_of_heap (heap_alloc_new _ _) j).trans (byteCells_at hj), Lib.frozen_of_heap (heap_alloc_new _ _) j⟩

/-- What the law has behind its append: the text with its sum behind in one block, all that was there as it was. -/
theorem ends_made (s : ByteArray) (c : Nat) (w : World) (hc : crcSum 0 s.data.toList = c) (hs : s.size ≤ 140737488351232) :
    ∃ (cap : Nat) (w1 : World) (g cap' : Nat) (w2 : World),
      (convert 9 29 (.string s)).run Try.prog w = .ok (.slice (some ⟨w.heap.size, 0, none⟩) s.size cap) w1 ∧
      (Builtin.append_ #[29, 29] 29 #[.slice (some ⟨w.heap.size, 0, none⟩) s.size cap, .slice (some ⟨w1.heap.size, 0, none⟩) 4 4]).run Try.prog (w1.alloc (Obj.cells #[Value.int .u8 ((c : Int) / 16777216), Value.int .u8 ((c : Int) / 65536 % 256), Value.int .u8 ((c : Int) / 256 % 256), Value.int .u8 ((c : Int) % 256)] 5)) = .ok (.slice (some ⟨g, 0, none⟩) (s.size + 4) cap') w2 ∧
      BytesIn w2 g (s.data.toList ++ enc 4 c) ∧ w.heap.size ≤ g ∧ g < w2.heap.size ∧ Below w.heap.size w w2 := by
  obtain ⟨cap, w1, hcv, hby, hro, hb1, hz1⟩ := bytes_of_text_room w s
  have hc32 : c < 4294967296 := by rw [← hc]; exact crcSum_lt _ _
  have hA : Below w1.heap.size w1 (w1.alloc (Obj.cells #[Value.int .u8 ((c : Int) / 16777216), Value.int .u8 ((c : Int) / 65536 % 256), Value.int .u8 ((c : Int) / 256 % 256), Value.int .u8 ((c : Int) % 256)] 5)) := (Below.refl _ _).alloc (Nat.le_refl _) _
  have hsz := hA.size
  obtain ⟨g, cap', w2, happ, h1, h2, h3, h4⟩ := append_bytes (c := 4) (hby.below hA (by omega)) (hro.below hA (by omega)) (BytesIn.four w1 c hc32) (Nat.le_refl w.heap.size) (by omega) (by rw [enc_length]; omega) (by rw [enc_length, list_length]; omega) 29
  rw [list_length, enc_length] at happ
  exact ⟨cap, w1, g, cap', w2, hcv, happ, h1, h2, h3, (hb1.trans (hA.mono (by omega))).trans h4⟩

theorem ends_text {w : World} {g : Nat} {s : ByteArray} {c : Nat} (h : BytesIn w g (s.data.toList ++ enc 4 c)) (cap : Nat) :
    (convert 29 9 (.slice (some ⟨g, 0, none⟩) (s.size + 4) cap)).run Try.prog w = .ok (.string (str (s.data.toList ++ enc 4 c))) w := by
  have h1 := text_of_bytes h cap
  rw [List.length_append, list_length, enc_length] at h1
  exact h1

set_option maxHeartbeats 400000 in
theorem SumEnds_out (s : ByteArray) (at_ : Int) (b : UInt8) (w : World) (h : at_ < 0 ∨ (s.size : Int) + 4 ≤ at_ ∨ b = 0) (hs : s.size ≤ 140737488351232) :
    Calls Try.prog 8 #[.string s, .int .i64 at_, .int .u8 b.toNat] w fun e w' => e = .returned (.bool true) ∧ Below w.heap.size w w' := by
  obtain ⟨c, Hc⟩ : ∃ c : Nat, Hid (crcSum 0 s.data.toList = c) := ⟨_, Lib.hid rfl⟩
  have hc32 : c < 4294967296 := by rw [← Hc.out]; exact crcSum_lt _ _
  obtain ⟨cap, w1, g, cap', w2, hcv, happ, hby, _, _, hb2⟩ := ends_made s c w Hc.out hs
  have HA := Lib.hid happ
  have hcv2 := ends_text hby cap'
  have hsz : (str (s.data.toList ++ enc 4 c)).size ≤ 9223372036854775807 := by rw [str_size, List.length_append, list_length, enc_length]; omega
  have HT : Hid (sumRight (s.data.toList ++ enc 4 c) = true) := by rw [← Hc.out]; exact Lib.hid (sum_behind _)
  have HB := Lib.hid hb2
  clear hby hb2 happ
  by_cases h1 : at_ < 0
  · clear h
    go_enter Try.func8, Try.ntmps8
    go_wp2_with fail
    refine (Of_any _ _ (by omega)).mono ?_
    rintro e w3 ⟨rfl, rfl⟩
    rw [Hc.out]
    go_wp2_with (at_builtin; refine wpList_append_known rfl _ _ 29 rfl rfl rfl HA.out ?_)
    refine (Right_any _ _ hsz).mono ?_
    rintro e w3 ⟨rfl, hb3⟩
    rw [str_list, HT.out]
    go_wp2_with fail
    refine (SumAwake_any _).mono ?_
    rintro e w4 ⟨rfl, rfl⟩
    go_wp2
    go_ret
    exact ⟨rfl, below_next HB.out hb3⟩
  · by_cases h2 : (s.size : Int) + 4 ≤ at_
    · clear h
      go_enter Try.func8, Try.ntmps8
      go_wp2_with fail
      refine (Of_any _ _ (by omega)).mono ?_
      rintro e w3 ⟨rfl, rfl⟩
      rw [Hc.out]
      go_wp2_with (at_builtin; refine wpList_append_known rfl _ _ 29 rfl rfl rfl HA.out ?_)
      refine (Right_any _ _ hsz).mono ?_
      rintro e w3 ⟨rfl, hb3⟩
      rw [str_list, HT.out]
      go_wp2_with fail
      refine (SumAwake_any _).mono ?_
      rintro e w4 ⟨rfl, rfl⟩
      go_wp2
      go_ret
      exact ⟨rfl, below_next HB.out hb3⟩
    · have hbz : (((b.toNat : Nat) : Int) == 0) = true := by
        rw [beq_iff_eq, byte_zero]
        rcases h with h | h | h
        · exact absurd h h1
        · exact absurd h h2
        · exact h
      clear h
      go_enter Try.func8, Try.ntmps8
      go_wp2_with fail
      refine (Of_any _ _ (by omega)).mono ?_
      rintro e w3 ⟨rfl, rfl⟩
      rw [Hc.out]
      go_wp2_with (at_builtin; refine wpList_append_known rfl _ _ 29 rfl rfl rfl HA.out ?_)
      refine (Right_any _ _ hsz).mono ?_
      rintro e w3 ⟨rfl, hb3⟩
      rw [str_list, HT.out]
      go_wp2_with fail
      refine (SumAwake_any _).mono ?_
      rintro e w4 ⟨rfl, rfl⟩
      go_wp2
      go_ret
      exact ⟨rfl, below_next HB.out hb3⟩

set_option maxHeartbeats 400000 in
theorem SumEnds_in (s : ByteArray) (k : Nat) (b : UInt8) (w : World) (h : k < s.size + 4) (hb : b ≠ 0) (hs : s.size ≤ 140737488351232) :
    Calls Try.prog 8 #[.string s, .int .i64 k, .int .u8 b.toNat] w fun e w' => e = .returned (.bool true) ∧ Below w.heap.size w w' := by
  obtain ⟨c, Hc⟩ : ∃ c : Nat, Hid (crcSum 0 s.data.toList = c) := ⟨_, Lib.hid rfl⟩
  have hc32 : c < 4294967296 := by rw [← Hc.out]; exact crcSum_lt _ _
  obtain ⟨cap, w1, g, cap', w2, hcv, happ, hby, hg1, hg2, hb2⟩ := ends_made s c w Hc.out hs
  have HA := Lib.hid happ
  have hcv2 := ends_text hby cap'
  have hsz : (str (s.data.toList ++ enc 4 c)).size ≤ 9223372036854775807 := by rw [str_size, List.length_append, list_length, enc_length]; omega
  have HT : Hid (sumRight (s.data.toList ++ enc 4 c) = true) := by rw [← Hc.out]; exact Lib.hid (sum_behind _)
  have HB := Lib.hid hb2
  have HY := Lib.hid hby
  have hlen : k < (s.data.toList ++ enc 4 c).length := by rw [List.length_append, list_length, enc_length]; exact h
  have hbz : (((b.toNat : Nat) : Int) == 0) = false := by
    rw [beq_eq_false_iff_ne]
    intro e
    exact hb ((byte_zero b).1 e)
  obtain ⟨x, Hx⟩ : ∃ x : UInt8, Hid ((s.data.toList ++ enc 4 c)[k] = x) := ⟨_, Lib.hid rfl⟩
  have HF : Hid (sumRight ((s.data.toList ++ enc 4 c).set k (x ^^^ b)) = false) := by
    rw [← Hx.out]
    have h1 := @sum_behind_turned s.data.toList k b
    rw [Hc.out] at h1
    exact Lib.hid (h1 hlen hb)
  have hsz2 : (str ((s.data.toList ++ enc 4 c).set k (x ^^^ b))).size ≤ 9223372036854775807 := by rw [str_size, List.length_set, List.length_append, list_length, enc_length]; omega
  clear hby hb2 happ hb
  go_enter Try.func8, Try.ntmps8
  go_wp2_with fail
  refine (Of_any _ _ (by omega)).mono ?_
  rintro e w3 ⟨rfl, rfl⟩
  rw [Hc.out]
  go_wp2_with (at_builtin; refine wpList_append_known rfl _ _ 29 rfl rfl rfl HA.out ?_)
  refine (Right_any _ _ hsz).mono ?_
  rintro e w3 ⟨rfl, hb3⟩
  rw [str_list, HT.out]
  have HY3 := Lib.hid (HY.out.below hb3 hg2)
  obtain ⟨hcl, hf⟩ := HY3.out k hlen
  rw [Hx.out] at hcl
  have HB3 := Lib.hid hb3
  clear hb3
  have hcv3 : (convert 29 9 (.slice (some ⟨g, 0, none⟩) (s.size + 4) cap')).run Try.prog (w3.setCell ⟨g, k, none⟩ (.int .u8 (bits .xor .u8 ((x.toNat : Nat) : Int) ((b.toNat : Nat) : Int)))) = .ok (.string (str ((s.data.toList ++ enc 4 c).set k (x ^^^ b)))) (w3.setCell ⟨g, k, none⟩ (.int .u8 (bits .xor .u8 ((x.toNat : Nat) : Int) ((b.toNat : Nat) : Int)))) := by
    have h1 := text_of_bytes (HY3.out.set k (x ^^^ b)) cap'
    rw [List.length_set, List.length_append, list_length, enc_length] at h1
    rw [u8_turn]
    exact h1
  go_wp2_with fail
  refine (Right_any _ _ hsz2).mono ?_
  rintro e w4 ⟨rfl, hb4⟩
  rw [str_list, HF.out]
  go_wp2_with fail
  refine (SumAwake_any _).mono ?_
  rintro e w5 ⟨rfl, rfl⟩
  go_wp2
  go_ret
  exact ⟨rfl, below_next ((below_next HB.out HB3.out).setCell hg1 _) hb4⟩

theorem SumEnds_walkI (s : ByteArray) (at_ n : Int) (w : World) (hs : s.size ≤ 140737488351232) (h : (Lit.int .u8 n).wf = true) :
    Calls Try.prog 8 #[.string s, .int .i64 at_, .int .u8 n] w fun e w' => e = .returned (.bool true) ∧ Below w.heap.size w w' := by
  obtain ⟨b, rfl⟩ := byte_of h
  by_cases ho : at_ < 0 ∨ (s.size : Int) + 4 ≤ at_ ∨ b = 0
  · exact SumEnds_out s at_ b w ho hs
  · obtain ⟨k, rfl⟩ := Int.eq_ofNat_of_zero_le (show 0 ≤ at_ by omega)
    exact SumEnds_in s k b w (by omega) (by intro e; exact ho (Or.inr (Or.inr e))) hs
end Go.Proofs.Ytglkoeinbjfbiaa
