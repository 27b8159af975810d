/- Contracts of the document's answer (the package counterfoilref01) for numbers and texts: Put, Get, Number, Text, Take: the same plain functions as those of the package octet. -/
import Derived.Test.YtkpoeigoocbgeaaOctet
import Derived.PlainAid
namespace Go.Proofs.Ytkpoeigoocbgeaa
open Go.RowKit

/-- A string of one byte, out of a new row of one cell. -/
theorem conv_one (W : World) (c : Nat) (hc : c < 256) :
    (convert 67 9 (.slice (some ⟨W.heap.size, 0, none⟩) 1 1)).run Try.prog (W.alloc (.cells #[.int .u8 (c : Int)] 5)) = .ok (.string (str [UInt8.ofNat c])) (W.alloc (.cells #[.int .u8 (c : Int)] 5)) := by
  have h := run_convert_bytes_back (P := Try.prog) (W.alloc (.cells #[.int .u8 (c : Int)] 5)) 67 9 5 ⟨W.heap.size, 0, none⟩ 1 [UInt8.ofNat c] Try.underlying67 Try.underlying5 Try.underlying9 (fun j hj => by
    simp at hj
    subst hj
    rw [WideShapes.add_plain, Nat.zero_add, Lib.cell_of_heap (heap_alloc_new W _)]
    simp
    omega)
  exact h

/-- A string of two bytes, out of a new row of two cells. -/
theorem conv_two (W : World) (c d : Nat) (hc : c < 256) (hd : d < 256) :
    (convert 67 9 (.slice (some ⟨W.heap.size, 0, none⟩) 2 2)).run Try.prog (W.alloc (.cells #[.int .u8 (c : Int), .int .u8 (d : Int)] 5)) = .ok (.string (str [UInt8.ofNat c, UInt8.ofNat d])) (W.alloc (.cells #[.int .u8 (c : Int), .int .u8 (d : Int)] 5)) := by
  have h := run_convert_bytes_back (P := Try.prog) (W.alloc (.cells #[.int .u8 (c : Int), .int .u8 (d : Int)] 5)) 67 9 5 ⟨W.heap.size, 0, none⟩ 2 [UInt8.ofNat c, UInt8.ofNat d] Try.underlying67 Try.underlying5 Try.underlying9 (fun j hj => by
    simp at hj
    rw [WideShapes.add_plain, Nat.zero_add, Lib.cell_of_heap (heap_alloc_new W _)]
    rcases (show j = 0 ∨ j = 1 by omega) with rfl | rfl
    · simp; omega
    · simp; omega)
  exact h

theorem div_next {n X j : Nat} (hX : X = n / 256 ^ j) : X / 256 = n / 256 ^ (j + 1) := by rw [hX, Nat.div_div_eq_div_mul, ← Nat.pow_succ]
theorem ref_step {n X j : Nat} (hX : X = n / 256 ^ j) : str [UInt8.ofNat (X % 256)] ++ str (enc j n) = str (enc (j + 1) n) := by
  rw [str_cat, enc_cons, ← hX]
  have : UInt8.ofNat (X % 256) = UInt8.ofNat X := by
    apply UInt8.toNat_inj.1
    simp [UInt8.toNat_ofNat']
  rw [this]
  rfl
theorem le_of_div {n k : Nat} (h : 0 < n / 256 ^ k) : 256 ^ k ≤ n := by
  rcases Nat.lt_or_ge n (256 ^ k) with h' | h'
  · rw [Nat.div_eq_of_lt h'] at h; omega
  · exact h'
theorem lt_of_div {n k : Nat} (h : n / 256 ^ k = 0) : n < 256 ^ k := by
  rcases Nat.lt_or_ge n (256 ^ k) with h' | h'
  · exact h'
  · have := Nat.div_pos h' (Nat.pow_pos (by omega)); omega

set_option maxHeartbeats 400000 in
theorem RefPut_ok (n k : Nat) (w : World) (h1 : 1 ≤ k) (h2 : k ≤ 8) (hn : n ≤ 9223372036854775807) :
    Calls Try.prog 67 #[.int .i64 n, .int .i64 k] w fun e w' => e = .returned (.tuple #[.string (str (putB n k)), .int .i64 (putE n k)]) ∧ Below w.heap.size w w' := by
  go_enter Try.func67, Try.ntmps67
  go_wp2
  go_loopw [0, 6, 7] (fun x s i wr => ∃ (j X : Nat), j ≤ k ∧ i = .int .i64 j ∧ x = .int .i64 X ∧ X ≤ 9223372036854775807 ∧ Hid (X = n / 256 ^ j) ∧ s = .string (str (enc j n)) ∧ Below w.heap.size w wr) (fun _ _ i _ => k - (intOf i).toNat)
  case atStart => exact ⟨0, n, by omega, rfl, rfl, hn, Lib.hid (by simp), rfl, Below.refl _ _⟩
  case round =>
    obtain ⟨j, X, hj, rfl, rfl, hX, HX, rfl, hbel⟩ := hrel
    by_cases hlt : j < k
    · have hcv := conv_one wr (X % 256) (by omega)
      rw [show ((X % 256 : Nat) : Int) = (X : Int) % 256 from by omega] at hcv
      have hsum : ¬ 9223372036854775807 < (str [UInt8.ofNat (X % 256)]).size + (str (enc j n)).size := by rw [str_size, str_size, enc_length]; simp; omega
      have HC := Lib.hid (ref_step HX.out)
      go_wp2
      go_roundw
      case rel => exact ⟨j + 1, X / 256, by omega, by go_num, by go_num, by omega, Lib.hid (div_next HX.out), by rw [HC.out], hbel.alloc hbel.size _⟩
      case measure => simp [intOf]; omega
    · obtain rfl : j = k := by omega
      by_cases h0 : 0 < X
      · have H := Lib.hid (putE_big h1 h2 (le_of_div (by rw [← HX.out]; exact h0)))
        go_wp2
        go_ret2
        rw [putB_no (by rw [H.out]; omega), H.out]
        exact ⟨rfl, hbel⟩
      · have H := Lib.hid (putE_ok h1 h2 (lt_of_div (by rw [← HX.out]; omega)))
        go_wp2
        go_ret2
        rw [putB_ok H.out, H.out]
        exact ⟨rfl, hbel⟩

set_option maxHeartbeats 400000 in
theorem RefPut_any (n width : Int) (w : World) (hn : n ≤ 9223372036854775807) :
    Calls Try.prog 67 #[.int .i64 n, .int .i64 width] w fun e w' => e = .returned (.tuple #[.string (str (putB n width)), .int .i64 (putE n width)]) ∧ Below w.heap.size w w' := by
  by_cases h : width < 1 ∨ 8 < width
  · have H := Lib.hid (putE_arg (n := n) h)
    rcases h with h | h
    · go_enter Try.func67, Try.ntmps67
      go_wp2
      go_ret2
      rw [putB_no (by rw [H.out]; omega), H.out]
      exact ⟨rfl, Below.refl _ _⟩
    · have h' : 1 ≤ width := by omega
      go_enter Try.func67, Try.ntmps67
      go_wp2
      go_ret2
      rw [putB_no (by rw [H.out]; omega), H.out]
      exact ⟨rfl, Below.refl _ _⟩
  · have h1 : 1 ≤ width := by omega
    have h2 : width ≤ 8 := by omega
    clear h
    by_cases hneg : n < 0
    · have H := Lib.hid (putE_neg h1 h2 hneg)
      go_enter Try.func67, Try.ntmps67
      go_wp2
      go_ret2
      rw [putB_no (by rw [H.out]; omega), H.out]
      exact ⟨rfl, Below.refl _ _⟩
    · obtain ⟨m, rfl⟩ := Int.eq_ofNat_of_zero_le (show 0 ≤ n by omega)
      obtain ⟨k, rfl⟩ := Int.eq_ofNat_of_zero_le (show 0 ≤ width by omega)
      exact RefPut_ok m k w (by omega) (by omega) (by omega)

theorem first_byte (s : ByteArray) (h : s.size = 8) (h0 : 0 < s.size) : (9223372036854775808 ≤ dec s.data.toList) ↔ 128 ≤ s[0].toNat := by
  obtain ⟨⟨l⟩⟩ := s
  match l, h with
  | c :: l, h => exact dec_eight c l (by simp [ByteArray.size] at h; omega)

theorem get_step (s : ByteArray) (k : Nat) (h : k < s.size) : 256 * dec (s.data.toList.take k) + s[k].toNat = dec (s.data.toList.take (k + 1)) := by
  rw [take_snoc s k h, dec_snoc]

set_option maxHeartbeats 400000 in
theorem RefGet_ok (s : ByteArray) (w : World) (h1 : 1 ≤ s.size) (h2 : s.size ≤ 8) (hd : dec s.data.toList ≤ 9223372036854775807) :
    Calls Try.prog 71 #[.string s] w fun e w' => e = .returned (.tuple #[.int .i64 (dec s.data.toList), .int .i64 0]) ∧ w = w' := by
  have hn0 : ((s.size : Int) == 0) = false := beq_eq_false_iff_ne.2 (by omega)
  by_cases h8 : s.size = 8
  · have hn8 : ((s.size : Int) == 8) = true := beq_iff_eq.2 (by omega)
    have h0 : 0 < s.size := by omega
    have hbt := PlainAid.get_bt s
    have hf : PlainAid.bt s 0 < 128 := by have := first_byte s h8 h0; rw [← PlainAid.get_bt s 0 h0]; omega
    clear h8
    go_enter Try.func71, Try.ntmps71
    go_wp2
    clear hbt hf
    go_loop [4, 5] (fun n i => ∃ k D : Nat, k ≤ s.size ∧ i = .int .i64 k ∧ n = .int .i64 D ∧ Hid (D = dec (s.data.toList.take k))) (fun _ i => s.size - (intOf i).toNat)
    case atStart => exact ⟨0, 0, Nat.zero_le _, rfl, rfl, Lib.hid rfl⟩
    case round =>
      obtain ⟨k, D, hk, rfl, rfl, HD⟩ := hrel
      by_cases hlt : k < s.size
      · have hb : 256 * D + s[k].toNat ≤ 9223372036854775807 := by
          have := get_step s k hlt
          have := dec_take_le s.data.toList (k + 1)
          rw [← HD.out] at *
          omega
        have HS := Lib.hid (get_step s k hlt)
        rw [← HD.out] at HS
        go_wp2
        go_round
        case rel => exact ⟨k + 1, _, by omega, by go_num, by go_num, HS⟩
        case measure => simp [intOf]; omega
      · have H := Lib.hid (take_all s k hlt)
        go_wp2
        go_ret2
        rw [HD.out, H.out]
        exact ⟨rfl, rfl⟩
  · have hn8 : ((s.size : Int) == 8) = false := beq_eq_false_iff_ne.2 (by omega)
    go_enter Try.func71, Try.ntmps71
    go_wp2
    go_loop [4, 5] (fun n i => ∃ k D : Nat, k ≤ s.size ∧ i = .int .i64 k ∧ n = .int .i64 D ∧ Hid (D = dec (s.data.toList.take k))) (fun _ i => s.size - (intOf i).toNat)
    case atStart => exact ⟨0, 0, Nat.zero_le _, rfl, rfl, Lib.hid rfl⟩
    case round =>
      obtain ⟨k, D, hk, rfl, rfl, HD⟩ := hrel
      by_cases hlt : k < s.size
      · have hb : 256 * D + s[k].toNat ≤ 9223372036854775807 := by
          have := get_step s k hlt
          have := dec_take_le s.data.toList (k + 1)
          rw [← HD.out] at *
          omega
        have HS := Lib.hid (get_step s k hlt)
        rw [← HD.out] at HS
        go_wp2
        go_round
        case rel => exact ⟨k + 1, _, by omega, by go_num, by go_num, HS⟩
        case measure => simp [intOf]; omega
      · have H := Lib.hid (take_all s k hlt)
        go_wp2
        go_ret2
        rw [HD.out, H.out]
        exact ⟨rfl, rfl⟩

set_option maxHeartbeats 400000 in
theorem RefGet_any (s : ByteArray) (w : World) (hs : s.size ≤ maxLen) :
    Calls Try.prog 71 #[.string s] w fun e w' => e = .returned (.tuple #[.int .i64 (getN s.data.toList), .int .i64 (getE s.data.toList)]) ∧ w = w' := by
  unfold maxLen at hs
  by_cases h : s.size < 1 ∨ 8 < s.size
  · have H := Lib.hid (getE_arg (l := s.data.toList) (by rw [list_length]; omega))
    by_cases h0 : s.size = 0
    · have hn0 : ((s.size : Int) == 0) = true := beq_iff_eq.2 (by omega)
      clear h0 h
      go_enter Try.func71, Try.ntmps71
      go_wp2
      go_ret2
      rw [getN_no (by rw [H.out]; omega), H.out]
      exact ⟨rfl, rfl⟩
    · have hn0 : ((s.size : Int) == 0) = false := beq_eq_false_iff_ne.2 (by omega)
      have h9 : 8 < s.size := by omega
      clear h0 h
      go_enter Try.func71, Try.ntmps71
      go_wp2
      go_ret2
      rw [getN_no (by rw [H.out]; omega), H.out]
      exact ⟨rfl, rfl⟩
  · have h1 : 1 ≤ s.size := by omega
    have h2 : s.size ≤ 8 := by omega
    clear h
    by_cases hb : dec s.data.toList ≤ 9223372036854775807
    · have H := Lib.hid (getE_ok (l := s.data.toList) (by rw [list_length]; omega) (by rw [list_length]; omega) (by omega))
      rw [getN_ok H.out, H.out]
      exact RefGet_ok s w h1 h2 hb
    · have H := Lib.hid (getE_big (l := s.data.toList) (by rw [list_length]; omega) (by rw [list_length]; omega) (by omega))
      have h8 : s.size = 8 := by
        rcases Nat.lt_or_ge s.size 8 with h | h
        · have := dec_seven s.data.toList (by rw [list_length]; omega); omega
        · omega
      have hn0 : ((s.size : Int) == 0) = false := beq_eq_false_iff_ne.2 (by omega)
      have hn8 : ((s.size : Int) == 8) = true := beq_iff_eq.2 (by omega)
      have h0 : 0 < s.size := by omega
      have hbt := PlainAid.get_bt s
      have hf : 128 ≤ PlainAid.bt s 0 := by have := first_byte s h8 h0; rw [← PlainAid.get_bt s 0 h0]; omega
      clear h8 hb
      go_enter Try.func71, Try.ntmps71
      go_wp2
      go_ret2
      rw [getN_no (by rw [H.out]; omega), H.out]
      exact ⟨rfl, rfl⟩

theorem two_bytes (n : Nat) : [UInt8.ofNat (n / 256), UInt8.ofNat (n % 256)] = enc 2 n := by
  have : UInt8.ofNat (n % 256) = UInt8.ofNat n := by
    apply UInt8.toNat_inj.1
    simp [UInt8.toNat_ofNat']
  rw [this]
  simp [enc]

theorem bt_two (s : ByteArray) (h : 1 < s.size) : 256 * PlainAid.bt s 0 + PlainAid.bt s 1 = (dec (s.data.toList.take 2) : Int) := by
  rw [← PlainAid.get_bt s 0 (by omega), ← PlainAid.get_bt s 1 h]
  obtain ⟨⟨l⟩⟩ := s
  match l, h with
  | a :: b :: l, h =>
    have e : dec ((a :: b :: l).take 2) = 256 * a.toNat + b.toNat := by simp [dec]
    rw [e]
    show 256 * (a.toNat : Int) + (b.toNat : Int) = _
    omega

theorem extract_mid (s : ByteArray) (d : Nat) : s.extract 2 (2 + d) = str ((s.data.toList.drop 2).take d) := by
  rw [← str_of (s.extract 2 (2 + d)), Lib.extract_data, Nat.add_sub_cancel_left]
theorem extract_rest (s : ByteArray) (d : Nat) : s.extract (2 + d) s.size = str ((s.data.toList.drop 2).drop d) := by
  rw [extract_drop_str, List.drop_drop]

end Go.Proofs.Ytkpoeigoocbgeaa
