/- Contracts of the document's answer (the package counterfoilref01) for numbers and texts: Put, Get, Number, Text, Take: the same plain functions as those of the package octet. Contracts of the document's small functions for a log: Fits, number, get, ceil, RecordHead, SlotHead, sector. -/
import Derived.Test.YtlelfakememckaaGreatDoorWalA
import Derived.PlainAid
import Derived.Test.YtlelfakememckaaGreatDoorWalC
import Derived.Test.YtlelfakememckaaGreatDoorRefR
import Derived.Deep.RegionHeld3
namespace Go.Proofs.YtlelfakememckaaGreatDoor
open Go.RowKit

/-- A string of one byte, out of a new row of one cell. -/
theorem conv_one (W : World) (c : Nat) (hc : c < 256) :
    (convert 101 9 (.slice (some ⟨W.heap.size, 0, none⟩) 1 1)).run Tryz.prog (W.alloc (.cells #[.int .u8 (c : Int)] 5)) = .ok (.string (str [UInt8.ofNat c])) (W.alloc (.cells #[.int .u8 (c : Int)] 5)) := by
  have h := run_convert_bytes_back (P := Tryz.prog) (W.alloc (.cells #[.int .u8 (c : Int)] 5)) 101 9 5 ⟨W.heap.size, 0, none⟩ 1 [UInt8.ofNat c] Tryz.underlying101 Tryz.underlying5 Tryz.underlying9 (fun j hj => by
    simp at hj
    subst hj
    rw [WideShapes.add_plain, Nat.zero_add, Lib.cell_of_heap (heap_alloc_new W _)]
    simp
    omega)
  exact h

/-- A string of two bytes, out of a new row of two cells. -/
theorem conv_two (W : World) (c d : Nat) (hc : c < 256) (hd : d < 256) :
    (convert 101 9 (.slice (some ⟨W.heap.size, 0, none⟩) 2 2)).run Tryz.prog (W.alloc (.cells #[.int .u8 (c : Int), .int .u8 (d : Int)] 5)) = .ok (.string (str [UInt8.ofNat c, UInt8.ofNat d])) (W.alloc (.cells #[.int .u8 (c : Int), .int .u8 (d : Int)] 5)) := by
  have h := run_convert_bytes_back (P := Tryz.prog) (W.alloc (.cells #[.int .u8 (c : Int), .int .u8 (d : Int)] 5)) 101 9 5 ⟨W.heap.size, 0, none⟩ 2 [UInt8.ofNat c, UInt8.ofNat d] Tryz.underlying101 Tryz.underlying5 Tryz.underlying9 (fun j hj => by
    simp at hj
    rw [WideShapes.add_plain, Nat.zero_add, Lib.cell_of_heap (heap_alloc_new W _)]
    rcases (show j = 0 ∨ j = 1 by omega) with rfl | rfl
    · simp; omega
    · simp; omega)
  exact h

theorem div_next {n X j : Nat} (hX : X = n / 256 ^ j) : X / 256 = n / 256 ^ (j + 1) := by rw [hX, Nat.div_div_eq_div_mul, ← Nat.pow_succ]
theorem ref_step {n X j : Nat} (hX : X = n / 256 ^ j) : str [UInt8.ofNat (X % 256)] ++ str (enc j n) = str (enc (j + 1) n) := by
  rw [str_cat, enc_cons, ← hX]
  have : UInt8.ofNat (X % 256) = UInt8.ofNat X := by
    apply UInt8.toNat_inj.1
    simp [UInt8.toNat_ofNat']
  rw [this]
  rfl
theorem le_of_div {n k : Nat} (h : 0 < n / 256 ^ k) : 256 ^ k ≤ n := by
  rcases Nat.lt_or_ge n (256 ^ k) with h' | h'
  · rw [Nat.div_eq_of_lt h'] at h; omega
  · exact h'
theorem lt_of_div {n k : Nat} (h : n / 256 ^ k = 0) : n < 256 ^ k := by
  rcases Nat.lt_or_ge n (256 ^ k) with h' | h'
  · exact h'
  · have := Nat.div_pos h' (Nat.pow_pos (by omega)); omega

set_option maxHeartbeats 400000 in
theorem RefPut_ok (n k : Nat) (w : World) (h1 : 1 ≤ k) (h2 : k ≤ 8) (hn : n ≤ 9223372036854775807) :
    Calls Tryz.prog 85 #[.int .i64 n, .int .i64 k] w fun e w' => e = .returned (.tuple #[.string (str (putB n k)), .int .i64 (putE n k)]) ∧ Below w.heap.size w w' := by
  go_enter Tryz.func85, Tryz.ntmps85
  go_wp2
  go_loopw [0, 6, 7] (fun x s i wr => ∃ (j X : Nat), j ≤ k ∧ i = .int .i64 j ∧ x = .int .i64 X ∧ X ≤ 9223372036854775807 ∧ Hid (X = n / 256 ^ j) ∧ s = .string (str (enc j n)) ∧ Below w.heap.size w wr) (fun _ _ i _ => k - (intOf i).toNat)
  case atStart => exact ⟨0, n, by omega, rfl, rfl, hn, Lib.hid (by simp), rfl, Below.refl _ _⟩
  case round =>
    obtain ⟨j, X, hj, rfl, rfl, hX, HX, rfl, hbel⟩ := hrel
    by_cases hlt : j < k
    · have hcv := conv_one wr (X % 256) (by omega)
      rw [show ((X % 256 : Nat) : Int) = (X : Int) % 256 from by omega] at hcv
      have hsum : ¬ 9223372036854775807 < (str [UInt8.ofNat (X % 256)]).size + (str (enc j n)).size := by rw [str_size, str_size, enc_length]; simp; omega
      have HC := Lib.hid (ref_step HX.out)
      go_wp2
      go_roundw
      case rel => exact ⟨j + 1, X / 256, by omega, by go_num, by go_num, by omega, Lib.hid (div_next HX.out), by rw [HC.out], hbel.alloc hbel.size _⟩
      case measure => simp [intOf]; omega
    · obtain rfl : j = k := by omega
      by_cases h0 : 0 < X
      · have H := Lib.hid (putE_big h1 h2 (le_of_div (by rw [← HX.out]; exact h0)))
        go_wp2
        go_ret2
        rw [putB_no (by rw [H.out]; omega), H.out]
        exact ⟨rfl, hbel⟩
      · have H := Lib.hid (putE_ok h1 h2 (lt_of_div (by rw [← HX.out]; omega)))
        go_wp2
        go_ret2
        rw [putB_ok H.out, H.out]
        exact ⟨rfl, hbel⟩

set_option maxHeartbeats 400000 in
theorem RefPut_any (n width : Int) (w : World) (hn : n ≤ 9223372036854775807) :
    Calls Tryz.prog 85 #[.int .i64 n, .int .i64 width] w fun e w' => e = .returned (.tuple #[.string (str (putB n width)), .int .i64 (putE n width)]) ∧ Below w.heap.size w w' := by
  by_cases h : width < 1 ∨ 8 < width
  · have H := Lib.hid (putE_arg (n := n) h)
    rcases h with h | h
    · go_enter Tryz.func85, Tryz.ntmps85
      go_wp2
      go_ret2
      rw [putB_no (by rw [H.out]; omega), H.out]
      exact ⟨rfl, Below.refl _ _⟩
    · have h' : 1 ≤ width := by omega
      go_enter Tryz.func85, Tryz.ntmps85
      go_wp2
      go_ret2
      rw [putB_no (by rw [H.out]; omega), H.out]
      exact ⟨rfl, Below.refl _ _⟩
  · have h1 : 1 ≤ width := by omega
    have h2 : width ≤ 8 := by omega
    clear h
    by_cases hneg : n < 0
    · have H := Lib.hid (putE_neg h1 h2 hneg)
      go_enter Tryz.func85, Tryz.ntmps85
      go_wp2
      go_ret2
      rw [putB_no (by rw [H.out]; omega), H.out]
      exact ⟨rfl, Below.refl _ _⟩
    · obtain ⟨m, rfl⟩ := Int.eq_ofNat_of_zero_le (show 0 ≤ n by omega)
      obtain ⟨k, rfl⟩ := Int.eq_ofNat_of_zero_le (show 0 ≤ width by omega)
      exact RefPut_ok m k w (by omega) (by omega) (by omega)

theorem first_byte (s : ByteArray) (h : s.size = 8) (h0 : 0 < s.size) : (9223372036854775808 ≤ dec s.data.toList) ↔ 128 ≤ s[0].toNat := by
  obtain ⟨⟨l⟩⟩ := s
  match l, h with
  | c :: l, h => exact dec_eight c l (by simp [ByteArray.size] at h; omega)

theorem get_step (s : ByteArray) (k : Nat) (h : k < s.size) : 256 * dec (s.data.toList.take k) + s[k].toNat = dec (s.data.toList.take (k + 1)) := by
  rw [take_snoc s k h, dec_snoc]

set_option maxHeartbeats 400000 in
theorem RefGet_ok (s : ByteArray) (w : World) (h1 : 1 ≤ s.size) (h2 : s.size ≤ 8) (hd : dec s.data.toList ≤ 9223372036854775807) :
    Calls Tryz.prog 65 #[.string s] w fun e w' => e = .returned (.tuple #[.int .i64 (dec s.data.toList), .int .i64 0]) ∧ w = w' := by
  have hn0 : ((s.size : Int) == 0) = false := beq_eq_false_iff_ne.2 (by omega)
  by_cases h8 : s.size = 8
  · have hn8 : ((s.size : Int) == 8) = true := beq_iff_eq.2 (by omega)
    have h0 : 0 < s.size := by omega
    have hbt := PlainAid.get_bt s
    have hf : PlainAid.bt s 0 < 128 := by have := first_byte s h8 h0; rw [← PlainAid.get_bt s 0 h0]; omega
    clear h8
    go_enter Tryz.func65, Tryz.ntmps65
    go_wp2
    clear hbt hf
    go_loop [4, 5] (fun n i => ∃ k D : Nat, k ≤ s.size ∧ i = .int .i64 k ∧ n = .int .i64 D ∧ Hid (D = dec (s.data.toList.take k))) (fun _ i => s.size - (intOf i).toNat)
    case atStart => exact ⟨0, 0, Nat.zero_le _, rfl, rfl, Lib.hid rfl⟩
    case round =>
      obtain ⟨k, D, hk, rfl, rfl, HD⟩ := hrel
      by_cases hlt : k < s.size
      · have hb : 256 * D + s[k].toNat ≤ 9223372036854775807 := by
          have := get_step s k hlt
          have := dec_take_le s.data.toList (k + 1)
          rw [← HD.out] at *
          omega
        have HS := Lib.hid (get_step s k hlt)
        rw [← HD.out] at HS
        go_wp2
        go_round
        case rel => exact ⟨k + 1, _, by omega, by go_num, by go_num, HS⟩
        case measure => simp [intOf]; omega
      · have H := Lib.hid (take_all s k hlt)
        go_wp2
        go_ret2
        rw [HD.out, H.out]
        exact ⟨rfl, rfl⟩
  · have hn8 : ((s.size : Int) == 8) = false := beq_eq_false_iff_ne.2 (by omega)
    go_enter Tryz.func65, Tryz.ntmps65
    go_wp2
    go_loop [4, 5] (fun n i => ∃ k D : Nat, k ≤ s.size ∧ i = .int .i64 k ∧ n = .int .i64 D ∧ Hid (D = dec (s.data.toList.take k))) (fun _ i => s.size - (intOf i).toNat)
    case atStart => exact ⟨0, 0, Nat.zero_le _, rfl, rfl, Lib.hid rfl⟩
    case round =>
      obtain ⟨k, D, hk, rfl, rfl, HD⟩ := hrel
      by_cases hlt : k < s.size
      · have hb : 256 * D + s[k].toNat ≤ 9223372036854775807 := by
          have := get_step s k hlt
          have := dec_take_le s.data.toList (k + 1)
          rw [← HD.out] at *
          omega
        have HS := Lib.hid (get_step s k hlt)
        rw [← HD.out] at HS
        go_wp2
        go_round
        case rel => exact ⟨k + 1, _, by omega, by go_num, by go_num, HS⟩
        case measure => simp [intOf]; omega
      · have H := Lib.hid (take_all s k hlt)
        go_wp2
        go_ret2
        rw [HD.out, H.out]
        exact ⟨rfl, rfl⟩

set_option maxHeartbeats 400000 in
theorem RefGet_any (s : ByteArray) (w : World) (hs : s.size ≤ maxLen) :
    Calls Tryz.prog 65 #[.string s] w fun e w' => e = .returned (.tuple #[.int .i64 (getN s.data.toList), .int .i64 (getE s.data.toList)]) ∧ w = w' := by
  unfold maxLen at hs
  by_cases h : s.size < 1 ∨ 8 < s.size
  · have H := Lib.hid (getE_arg (l := s.data.toList) (by rw [list_length]; omega))
    by_cases h0 : s.size = 0
    · have hn0 : ((s.size : Int) == 0) = true := beq_iff_eq.2 (by omega)
      clear h0 h
      go_enter Tryz.func65, Tryz.ntmps65
      go_wp2
      go_ret2
      rw [getN_no (by rw [H.out]; omega), H.out]
      exact ⟨rfl, rfl⟩
    · have hn0 : ((s.size : Int) == 0) = false := beq_eq_false_iff_ne.2 (by omega)
      have h9 : 8 < s.size := by omega
      clear h0 h
      go_enter Tryz.func65, Tryz.ntmps65
      go_wp2
      go_ret2
      rw [getN_no (by rw [H.out]; omega), H.out]
      exact ⟨rfl, rfl⟩
  · have h1 : 1 ≤ s.size := by omega
    have h2 : s.size ≤ 8 := by omega
    clear h
    by_cases hb : dec s.data.toList ≤ 9223372036854775807
    · have H := Lib.hid (getE_ok (l := s.data.toList) (by rw [list_length]; omega) (by rw [list_length]; omega) (by omega))
      rw [getN_ok H.out, H.out]
      exact RefGet_ok s w h1 h2 hb
    · have H := Lib.hid (getE_big (l := s.data.toList) (by rw [list_length]; omega) (by rw [list_length]; omega) (by omega))
      have h8 : s.size = 8 := by
        rcases Nat.lt_or_ge s.size 8 with h | h
        · have := dec_seven s.data.toList (by rw [list_length]; omega); omega
        · omega
      have hn0 : ((s.size : Int) == 0) = false := beq_eq_false_iff_ne.2 (by omega)
      have hn8 : ((s.size : Int) == 8) = true := beq_iff_eq.2 (by omega)
      have h0 : 0 < s.size := by omega
      have hbt := PlainAid.get_bt s
      have hf : 128 ≤ PlainAid.bt s 0 := by have := first_byte s h8 h0; rw [← PlainAid.get_bt s 0 h0]; omega
      clear h8 hb
      go_enter Tryz.func65, Tryz.ntmps65
      go_wp2
      go_ret2
      rw [getN_no (by rw [H.out]; omega), H.out]
      exact ⟨rfl, rfl⟩

theorem two_bytes (n : Nat) : [UInt8.ofNat (n / 256), UInt8.ofNat (n % 256)] = enc 2 n := by
  have : UInt8.ofNat (n % 256) = UInt8.ofNat n := by
    apply UInt8.toNat_inj.1
    simp [UInt8.toNat_ofNat']
  rw [this]
  simp [enc]

theorem bt_two (s : ByteArray) (h : 1 < s.size) : 256 * PlainAid.bt s 0 + PlainAid.bt s 1 = (dec (s.data.toList.take 2) : Int) := by
  rw [← PlainAid.get_bt s 0 (by omega), ← PlainAid.get_bt s 1 h]
  obtain ⟨⟨l⟩⟩ := s
  match l, h with
  | a :: b :: l, h =>
    have e : dec ((a :: b :: l).take 2) = 256 * a.toNat + b.toNat := by simp [dec]
    rw [e]
    show 256 * (a.toNat : Int) + (b.toNat : Int) = _
    omega

theorem extract_mid (s : ByteArray) (d : Nat) : s.extract 2 (2 + d) = str ((s.data.toList.drop 2).take d) := by
  rw [← str_of (s.extract 2 (2 + d)), Lib.extract_data, Nat.add_sub_cancel_left]
theorem extract_rest (s : ByteArray) (d : Nat) : s.extract (2 + d) s.size = str ((s.data.toList.drop 2).drop d) := by
  rw [extract_drop_str, List.drop_drop]

end Go.Proofs.YtlelfakememckaaGreatDoor

namespace Go.Proofs.YtlelfakememckaaGreatDoor
open Go.RowKit

/-- Does a log lie on a disk of n sectors? -/
def docFits (n slot : Int) : Bool := decide (2 ≤ slot) && decide (slot ≤ 4096) && decide (2 * slot + 3 ≤ n)
theorem DocNumber_any (n width : Int) (w : World) (hn : n ≤ 9223372036854775807) : Calls Tryz.prog 66 #[.int .i64 n, .int .i64 width] w fun e w' => e = .returned (.string (str (putB n width))) ∧ Below w.heap.size w w' := by
  go_enter Tryz.func66, Tryz.ntmps66
  go_wp2_with fail
  refine (RefPut_any n width _ hn).mono ?_
  rintro e w1 ⟨rfl, hb⟩
  have HB := Lib.hid hb
  clear hb
  go_wp2_with fail
  go_ret
  exact ⟨rfl, HB.out⟩
theorem docNumber_to (n k : Int) (hk : k ≤ 8) (hn : n ≤ 9223372036854775807) : ∃ P : ByteArray, P.size ≤ 8 ∧ str (putB n k) = P ∧ ∀ w, Calls Tryz.prog 66 #[.int .i64 n, .int .i64 k] w fun e w' => e = .returned (.string P) ∧ Below w.heap.size w w' :=
  ⟨_, by rw [str_size]; exact putB_le n k hk, rfl, fun w => DocNumber_any n k w hn⟩

set_option maxHeartbeats 800000 in
/-- How many sectors n bytes need, counted. -/
theorem DocCeil_any (n : Nat) (hn : n ≤ 1000000) (w : World) : Calls Tryz.prog 39 #[.int .i64 n] w fun e w' => e = .returned (.int .i64 (secs n : Nat)) ∧ w = w' := by
  have hs1 : n ≤ 32 * secs n := by unfold secs; omega
  have hs2 : 32 * secs n < n + 32 := by unfold secs; omega
  generalize secs n = S at *
  go_enter Tryz.func39, Tryz.ntmps39
  go_wp2_with fail
  go_loopg [3] S (fun kx s2 wr => ∃ k : Nat, s2 = .int .i64 k ∧ k ≤ S ∧ S - k ≤ kx ∧ w = wr)
  case atStart => exact ⟨0, rfl, Nat.zero_le _, by omega, rfl⟩
  case round =>
    obtain ⟨k, rfl, hk, hkx, rfl⟩ := hrel
    have hw1 : IntKind.i64.wrap (32 * (k : Int)) = 32 * (k : Int) := by rw [IntKind.wrap_i64]; omega
    by_cases hlt : k < S
    · have hltz : 32 * (k : Int) < (n : Int) := by omega
      go_wp2_with fail
      go_roundg (S - (k + 1))
      case measure => omega
      case rel => exact ⟨k + 1, by go_num, by omega, Nat.le_refl _, rfl⟩
    · have hltz : ¬ 32 * (k : Int) < (n : Int) := by omega
      have hkS : k = S := by omega
      subst hkS
      go_wp2_with fail
      go_ret
      exact ⟨rfl, rfl⟩

theorem str_slice (s : ByteArray) (i j : Nat) : s.extract i j = str ((s.data.toList.drop i).take (j - i)) := by
  have : (s.extract i j).data.toList = (s.data.toList.drop i).take (j - i) := by simp [ByteArray.data_extract]
  rw [← this, str_of]
set_option maxHeartbeats 400000 in
/-- A number within a sector. -/
theorem DocGet_any (s : ByteArray) (i j : Nat) (hs : s.size ≤ 1000) (hi : i ≤ j) (hj : j ≤ s.size) (w : World) : Calls Tryz.prog 37 #[.string s, .int .i64 i, .int .i64 j] w fun e w' => e = .returned (.int .i64 (getN ((s.data.toList.drop i).take (j - i)))) ∧ w = w' := by
  have HG : Hid (Calls Tryz.prog 65 #[.string (s.extract i j)] w fun e w' => e = .returned (.tuple #[.int .i64 (getN ((s.data.toList.drop i).take (j - i))), .int .i64 (getE ((s.data.toList.drop i).take (j - i)))]) ∧ w = w') := Lib.hid (by
    have := RefGet_any (s.extract i j) w (by rw [str_slice, str_size, List.length_take]; unfold maxLen; omega)
    rw [str_slice, str_list] at this
    rw [str_slice]
    exact this)
  generalize getN ((s.data.toList.drop i).take (j - i)) = N at *
  generalize getE ((s.data.toList.drop i).take (j - i)) = E at *
  have h0 : (0 : Int) ≤ (i : Int) := Int.natCast_nonneg _
  have h1 : (i : Int) ≤ (j : Int) := by omega
  have h2 : (j : Int) ≤ (s.size : Int) := by omega
  have h3 : ((i : Int)).toNat = i := Int.toNat_natCast _
  have h4 : ((j : Int)).toNat = j := Int.toNat_natCast _
  go_enter Tryz.func37, Tryz.ntmps37
  go_wp2_with fail
  refine HG.out.mono ?_
  rintro e w' ⟨rfl, rfl⟩
  go_wp2_with fail
  go_ret
  exact ⟨rfl, rfl⟩

theorem recHead_short (num len : Int) : (recHead num len).length ≤ 32 := by
  unfold recHead
  have h0 := putB_le num 8 (by omega)
  have h1 := putB_le len 4 (by omega)
  simp only [List.length_append, List.length_singleton]
  omega
theorem slotHead_short (gen len pos num : Int) : (slotHead gen len pos num).length ≤ 33 := by
  unfold slotHead
  have h0 := putB_le gen 8 (by omega)
  have h1 := putB_le len 4 (by omega)
  have h2 := putB_le pos 4 (by omega)
  have h3 := putB_le num 8 (by omega)
  simp only [List.length_append, List.length_singleton]
  omega
theorem putB_le4 (n : Int) : (putB n 4).length ≤ 4 := by
  unfold putB
  split
  · rw [enc_length]; decide
  · simp
theorem slotHead_short2 (gen len pos num : Int) : (slotHead gen len pos num).length ≤ 32 := by
  unfold slotHead
  have h0 := putB_le gen 8 (by omega)
  have h1 := putB_le4 len
  have h2 := putB_le4 pos
  have h3 := putB_le num 8 (by omega)
  simp only [List.length_append, List.length_singleton]
  omega

set_option maxHeartbeats 800000 in
theorem DocRecordHead_any (num len : Int) (w : World) (h0 : num ≤ 9223372036854775807) (h1 : len ≤ 9223372036854775807) :
    Calls Tryz.prog 38 #[.int .i64 num, .int .i64 len] w fun e w' => e = .returned (.string (str (padB (recHead num len)))) ∧ Below w.heap.size w w' := by
  obtain ⟨P0, s0, e0, k0⟩ := docNumber_to num 8 (by omega) h0
  obtain ⟨P1, s1, e1, k1⟩ := docNumber_to len 4 (by omega) h1
  have HE : Hid (str (recHead num len) = ByteArray.mk #[82] ++ P0 ++ P1) := Lib.hid (by
    rw [← e0, ← e1]
    show _ = str [82] ++ _ ++ _
    rw [str_cat, str_cat]
    rfl)
  have HP : Hid (∀ w, Calls Tryz.prog 28 #[.string (ByteArray.mk #[82] ++ P0 ++ P1)] w fun e w' => e = .returned (.string (str (padB (recHead num len)))) ∧ w = w') := Lib.hid (fun w => by
    rw [← HE.out]
    exact RefPad_any _ (recHead_short num len) w)
  have K0 := Lib.hid k0
  have K1 := Lib.hid k1
  have n1 : ¬ 9223372036854775807 < 1 + P0.size := by omega
  have n2 : ¬ 9223372036854775807 < 1 + P0.size + P1.size := by omega
  clear e0 e1 k0 k1
  go_enter Tryz.func38, Tryz.ntmps38
  go_wp2_with fail
  refine (K0.out _).mono ?_
  rintro e w1 ⟨rfl, hb1⟩
  have HB1 := Lib.hid hb1
  clear hb1
  go_wp2_with fail
  refine (K1.out _).mono ?_
  rintro e w2 ⟨rfl, hb2⟩
  have HB2 := Lib.hid (below_next HB1.out hb2)
  clear hb2
  go_wp2_with fail
  refine (HP.out _).mono ?_
  rintro e w' ⟨rfl, rfl⟩
  go_wp2_with fail
  go_ret
  exact ⟨rfl, HB2.out⟩

set_option maxHeartbeats 1600000 in
theorem DocSlotHead_any (gen len pos num : Int) (w : World) (h0 : gen ≤ 9223372036854775807) (h1 : len ≤ 9223372036854775807) (h2 : pos ≤ 9223372036854775807) (h3 : num ≤ 9223372036854775807) :
    Calls Tryz.prog 48 #[.int .i64 gen, .int .i64 len, .int .i64 pos, .int .i64 num] w fun e w' => e = .returned (.string (str (padB (slotHead gen len pos num)))) ∧ Below w.heap.size w w' := by
  obtain ⟨P0, s0, e0, k0⟩ := docNumber_to gen 8 (by omega) h0
  obtain ⟨P1, s1, e1, k1⟩ := docNumber_to len 4 (by omega) h1
  obtain ⟨P2, s2, e2, k2⟩ := docNumber_to pos 4 (by omega) h2
  obtain ⟨P3, s3, e3, k3⟩ := docNumber_to num 8 (by omega) h3
  have HE : Hid (str (slotHead gen len pos num) = ByteArray.mk #[83] ++ P0 ++ P1 ++ P2 ++ P3) := Lib.hid (by
    rw [← e0, ← e1, ← e2, ← e3]
    show _ = str [83] ++ _ ++ _ ++ _ ++ _
    rw [str_cat, str_cat, str_cat, str_cat]
    rfl)
  have HP : Hid (∀ w, Calls Tryz.prog 28 #[.string (ByteArray.mk #[83] ++ P0 ++ P1 ++ P2 ++ P3)] w fun e w' => e = .returned (.string (str (padB (slotHead gen len pos num)))) ∧ w = w') := Lib.hid (fun w => by
    rw [← HE.out]
    exact RefPad_any _ (slotHead_short2 gen len pos num) w)
  have K0 := Lib.hid k0
  have K1 := Lib.hid k1
  have K2 := Lib.hid k2
  have K3 := Lib.hid k3
  have n1 : ¬ 9223372036854775807 < 1 + P0.size := by omega
  have n2 : ¬ 9223372036854775807 < 1 + P0.size + P1.size := by omega
  have n3 : ¬ 9223372036854775807 < 1 + P0.size + P1.size + P2.size := by omega
  have n4 : ¬ 9223372036854775807 < 1 + P0.size + P1.size + P2.size + P3.size := by omega
  clear e0 e1 e2 e3 k0 k1 k2 k3
  go_enter Tryz.func48, Tryz.ntmps48
  go_wp2_with fail
  refine (K0.out _).mono ?_
  rintro e w1 ⟨rfl, hb1⟩
  have HB1 := Lib.hid hb1
  clear hb1
  go_wp2_with fail
  refine (K1.out _).mono ?_
  rintro e w2 ⟨rfl, hb2⟩
  have HB2 := Lib.hid (below_next HB1.out hb2)
  clear hb2
  go_wp2_with fail
  refine (K2.out _).mono ?_
  rintro e w3 ⟨rfl, hb3⟩
  have HB3 := Lib.hid (below_next HB2.out hb3)
  clear hb3
  go_wp2_with fail
  refine (K3.out _).mono ?_
  rintro e w4 ⟨rfl, hb4⟩
  have HB4 := Lib.hid (below_next HB3.out hb4)
  clear hb4
  go_wp2_with fail
  refine (HP.out _).mono ?_
  rintro e w' ⟨rfl, rfl⟩
  go_wp2_with fail
  go_ret
  exact ⟨rfl, HB4.out⟩

set_option maxHeartbeats 800000 in
theorem DocSector_any {w : World} {d : DSt} (ho : d.Ok) (ht : d.Tru) {fA aA wA : Option Addr} {fc ac wc : Nat} (h : RefAt w w.heap.size d.firm d.loose fA aA ac wA wc) (hl : d.loose.length ≤ 1000001) (i L : Int) :
    Calls Tryz.prog 36 #[.agg #[.slice fA d.firm.length fc, .slice aA d.loose.length ac, .slice wA d.loose.length wc, .int .i64 L, .bool d.off], .int .i64 i] w fun e w' => e = .returned (.string (str (d.readB i))) ∧ Below w.heap.size w w' := by
  have HR : Hid (∀ w', Below w.heap.size w w' → Calls Tryz.prog 26 #[.agg #[.slice fA d.firm.length fc, .slice aA d.loose.length ac, .slice wA d.loose.length wc, .int .i64 L, .bool d.off], .int .i64 i] w' fun e w'' => e = .returned (.tuple #[.string (str (d.readB i)), .int .i64 (d.readE i)]) ∧ Below w'.heap.size w' w'') := Lib.hid (fun w' hb => RefRead_any ho ht (h.next hb) hl i L)
  generalize str (d.readB i) = X at *
  generalize d.readE i = E at *
  generalize d.firm.length = n at *
  generalize d.loose.length = m at *
  generalize d.off = o at *
  clear ho ht h hl
  have HB0 : Hid (Below w.heap.size w (w.alloc (.cells #[.slice fA n fc, .slice aA m ac, .slice wA m wc, .int .i64 L, .bool o] 30))) := Lib.hid ((Below.refl _ _).alloc (Nat.le_refl _) _)
  go_enter Tryz.func36, Tryz.ntmps36
  go_wp2_with fail
  refine (HR.out _ HB0.out).mono ?_
  rintro e w1 ⟨rfl, hb1⟩
  have HB1 := Lib.hid (below_next HB0.out hb1)
  clear hb1
  go_wp2_with fail
  go_ret
  exact ⟨rfl, HB1.out⟩

def natV (x : Nat) : Value := .int .i64 (x : Int)
/-- The sectors of a slot but its first. -/
def slotsL (slot k : Nat) : List Nat := (List.range (slot - 1)).map (fun j => k * slot + 1 + j)
theorem slotsL_length (slot k : Nat) : (slotsL slot k).length = slot - 1 := by unfold slotsL; simp
def slotsUpto (slot k i : Nat) : List Nat := (List.range i).map (fun j => k * slot + 1 + j)
theorem slotsUpto_succ (slot k i : Nat) : (slotsUpto slot k (i + 1)).map natV = (slotsUpto slot k i).map natV ++ [.int .i64 ((k * slot + 1 + i : Nat) : Int)] := by
  unfold slotsUpto
  rw [List.range_succ, List.map_append, List.map_append]
  rfl
set_option maxHeartbeats 1600000 in
set_option maxRecDepth 100000 in
theorem DocSlots_any (slot k : Nat) (hs : slot ≤ 4096) (hk : k ≤ 1) (hs1 : 1 ≤ slot) (w : World) :
    Calls Tryz.prog 47 #[.int .i64 slot, .int .i64 k] w fun e w' => ∃ A c, e = .returned (.slice A (slot - 1) c) ∧ Lies w' w'.heap.size A ((slotsL slot k).map natV) ∧ Below w.heap.size w w' := by
  obtain ⟨i1, hi1, hy0, hy1, hy2⟩ := info_parts Tryz.infoInt5
  have hkb : k * slot ≤ slot := by
    calc k * slot ≤ 1 * slot := Nat.mul_le_mul_right _ hk
      _ = slot := Nat.one_mul _
  obtain ⟨P, hP⟩ : ∃ P : Nat, k * slot = P := ⟨_, rfl⟩
  have hPz : (k : Int) * (slot : Int) = (P : Int) := by rw [← hP]; simp
  have hPw : IntKind.i64.wrap ((k : Int) * (slot : Int)) = (P : Int) := by rw [hPz, IntKind.wrap_i64]; omega
  have HP := Lib.hid hP
  clear hPz
  go_enter Tryz.func47, Tryz.ntmps47
  go_wp2_with fail
  go_loopg [5, 6] slot (fun kx s5 s6 wr => ∃ i : Nat, s6 = .int .i64 ((i + 1 : Nat) : Int) ∧ i + 1 ≤ slot ∧ slot - (i + 1) ≤ kx ∧ Hid (wr.ownsRow w.heap.size 3 1 s5 i ((slotsUpto slot k i).map natV)) ∧ Hid (Below w.heap.size w wr))
  case atStart => exact ⟨0, rfl, by omega, by omega, Lib.hid (World.ownsRow_nil _ _ _ _), Lib.hid (Below.refl _ _)⟩
  case round =>
    obtain ⟨i, rfl, hi, hix, HO, HB⟩ := hrel
    obtain ⟨A5, c5, h5, hxx⟩ := own_lies HO.out
    have HL5 := Lib.hid hxx.2
    clear hxx
    subst h5
    by_cases hlt : i + 1 < slot
    · have hltz : ((i + 1 : Nat) : Int) < (slot : Int) := by omega
      have hw1 : IntKind.i64.wrap ((P : Int) + ((i + 1 : Nat) : Int)) = ((P + 1 + i : Nat) : Int) := by rw [IntKind.wrap_i64]; omega
      have hwz : w.heap.size ≤ wr.heap.size := HB.out.size
      go_wp2_with (at_builtin; refine wpList_append_lies _ rfl (.tmp 12) (.tmp 18) 28 rfl w.heap.size 3 i1 (.int .i64 0) 1 8 Tryz.underlying28 hi1 hy0 hy1 hy2 rfl (by decide) (.slice A5 i c5) i ((slotsUpto slot k i).map natV) rfl (HO.out.alloc _) ⟨wr.heap.size, 0, none⟩ 1 1 [.int .i64 ((P : Int) + ((i : Int) + 1))] rfl rfl ?c1 ?c2 (by omega) ?c3 ?c4 ?c5 (wr.heap.size + 1) (by simp) ?_)
      case c1 => exact cell_one_new _ _ _
      case c2 => intro u hu; simp at hu; subst hu; rfl
      case c3 => unfold maxLen; omega
      case c4 => omega
      case c5 => simp; omega
      intro g cap w6 hown hg hat hlt6
      have HO6 : Hid (w6.ownsRow w.heap.size 3 1 (.slice (some ⟨g, 0, none⟩) (i + 1) cap) (i + 1) ((slotsUpto slot k (i + 1)).map natV)) := Lib.hid (by
        rw [slotsUpto_succ, HP.out, show ((P + 1 + i : Nat) : Int) = (P : Int) + ((i : Int) + 1) from by omega]; exact hown)
      have HB6 : Hid (Below w.heap.size w w6) := Lib.hid ((HB.out.alloc hwz _).grown hg (by simp; omega) (fun q hq => (HO.out.lt q hq).1))
      clear hown hg hat hlt6
      go_wp2_with fail
      go_roundg (slot - (i + 1 + 1))
      case measure => omega
      case rel => exact ⟨i + 1, by go_num, by omega, Nat.le_refl _, HO6, HB6⟩
    · have hltz : ¬ ((i + 1 : Nat) : Int) < (slot : Int) := by omega
      have hie : slot - 1 = i := by omega
      go_wp2_with fail
      go_ret
      refine ⟨A5, ⟨c5, rfl⟩, ?_, HB.out⟩
      have h := HL5.out
      unfold slotsL
      rw [hie]
      exact h

/-- n sectors of the ring from a place on. -/
def aroundL (slot m place n : Nat) : List Nat := (List.range n).map (fun j => 2 * slot + (place + j) % m)
theorem aroundL_length (slot m place n : Nat) : (aroundL slot m place n).length = n := by unfold aroundL; simp
theorem aroundL_succ (slot m place i : Nat) : (aroundL slot m place (i + 1)).map natV = (aroundL slot m place i).map natV ++ [.int .i64 ((2 * slot + (place + i) % m : Nat) : Int)] := by
  unfold aroundL
  rw [List.range_succ, List.map_append, List.map_append]
  rfl
theorem own_capD {w : World} {base : Nat} {e : TypeId} {size n c : Nat} {A : Option Addr} {cs : List Value} (h : w.ownsRow base e size (.slice A n c) n cs) : n ≤ c := by
  rcases h.2 with ⟨_, h0⟩ | ⟨g, cap, cur, e, _, _, hn, _⟩
  · omega
  · simp only [Value.slice.injEq] at e; omega
set_option maxHeartbeats 1600000 in
set_option maxRecDepth 100000 in
theorem DocAround_any (N slot m place n fc : Nat) (fA : Option Addr) (v1 v2 v3 v4 : Value) (hN : N ≤ 4096) (hm : N = 2 * slot + m) (hm0 : 0 < m) (hp : place < m) (hn : n ≤ 5000) (w : World) :
    Calls Tryz.prog 40 #[.agg #[.slice fA N fc, v1, v2, v3, v4], .int .i64 slot, .int .i64 place, .int .i64 n] w fun e w' => ∃ A c, e = .returned (.slice A n c) ∧ Lies w' w'.heap.size A ((aroundL slot m place n).map natV) ∧ n ≤ c ∧ Below w.heap.size w w' := by
  obtain ⟨i1, hi1, hy0, hy1, hy2⟩ := info_parts Tryz.infoInt5
  have hmz : (N : Int) - 2 * (slot : Int) = (m : Int) := by omega
  have hmb : m ≤ 4096 := by omega
  have hsb : slot ≤ 2048 := by omega
  clear hm
  have HB0 : Hid (Below w.heap.size w (w.alloc (.cells #[.slice fA N fc, v1, v2, v3, v4] 30))) := Lib.hid ((Below.refl _ _).alloc (Nat.le_refl _) _)
  have c0 : (w.alloc (.cells #[.slice fA N fc, v1, v2, v3, v4] 30)).cell? ⟨w.heap.size, 0, none⟩ = some (.slice fA N fc) := by rw [Lib.cell_of_heap (heap_alloc_new _ _)]; rfl
  go_enter Tryz.func40, Tryz.ntmps40
  go_wp2_with fail
  generalize w.alloc (.cells #[.slice fA N fc, v1, v2, v3, v4] 30) = w1 at *
  go_loopg [10, 11] n (fun kx s10 s11 wr => ∃ i : Nat, s11 = .int .i64 (i : Int) ∧ i ≤ n ∧ n - i ≤ kx ∧ Hid (wr.ownsRow w.heap.size 3 1 s10 i ((aroundL slot m place i).map natV)) ∧ Hid (Below w.heap.size w wr))
  case atStart => exact ⟨0, rfl, Nat.zero_le _, by omega, Lib.hid (World.ownsRow_nil _ _ _ _), HB0⟩
  case round =>
    obtain ⟨i, rfl, hi, hix, HO, HB⟩ := hrel
    obtain ⟨A5, c5, h5, hxx⟩ := own_lies HO.out
    have HL5 := Lib.hid hxx.2
    clear hxx
    subst h5
    have hi0 : (0 : Int) ≤ (i : Int) := Int.natCast_nonneg _
    by_cases hlt : i < n
    · have hltz : (i : Int) < (n : Int) := by omega
      obtain ⟨X, hX⟩ : ∃ X : Nat, (place + i) % m = X := ⟨_, rfl⟩
      have hXm : X < m := by rw [← hX]; exact Nat.mod_lt _ hm0
      have hXt : ((place : Int) + (i : Int)) % (m : Int) = (X : Int) := by rw [← hX]; simp
      have HX := Lib.hid hX
      have hmne : ¬ (m : Int) = 0 := by omega
      have hwz : w.heap.size ≤ wr.heap.size := HB.out.size
      clear hX
      go_wp2_with (at_builtin; refine wpList_append_lies _ rfl (.tmp 23) (.tmp 32) 28 rfl w.heap.size 3 i1 (.int .i64 0) 1 8 Tryz.underlying28 hi1 hy0 hy1 hy2 rfl (by decide) (.slice A5 i c5) i ((aroundL slot m place i).map natV) rfl (HO.out.alloc _) ⟨wr.heap.size, 0, none⟩ 1 1 [.int .i64 (2 * (slot : Int) + (X : Int))] rfl rfl ?c1 ?c2 (by omega) ?c3 ?c4 ?c5 (wr.heap.size + 1) (by simp) ?_)
      case c1 => exact cell_one_new _ _ _
      case c2 => intro u hu; simp at hu; subst hu; rfl
      case c3 => unfold maxLen; omega
      case c4 => omega
      case c5 => simp; omega
      intro g cap w6 hown hg hat hlt6
      have HO6 : Hid (w6.ownsRow w.heap.size 3 1 (.slice (some ⟨g, 0, none⟩) (i + 1) cap) (i + 1) ((aroundL slot m place (i + 1)).map natV)) := Lib.hid (by
        rw [aroundL_succ, HX.out, show ((2 * slot + X : Nat) : Int) = 2 * (slot : Int) + (X : Int) from by omega]; exact hown)
      have HB6 : Hid (Below w.heap.size w w6) := Lib.hid ((HB.out.alloc hwz _).grown hg (by simp; omega) (fun q hq => (HO.out.lt q hq).1))
      clear hown hg hat hlt6
      go_wp2_with fail
      go_roundg (n - (i + 1))
      case measure => omega
      case rel => exact ⟨i + 1, by go_num, by omega, Nat.le_refl _, HO6, HB6⟩
    · have hltz : ¬ (i : Int) < (n : Int) := by omega
      have hie : n = i := by omega
      subst hie
      go_wp2_with fail
      go_ret
      exact ⟨A5, c5, rfl, HL5.out, own_capD HO.out, HB.out⟩
end Go.Proofs.YtlelfakememckaaGreatDoor
