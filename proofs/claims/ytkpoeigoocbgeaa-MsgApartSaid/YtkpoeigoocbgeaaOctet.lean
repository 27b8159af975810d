/- Contracts of the functions of the package octet that answer numbers and texts: Put, Get, Number, Text, Take: for every argument each answers what the plain functions say, and changes nothing that was there. -/
import Derived.Test.YtkpoeigoocbgeaaLeaf
import Derived.Test.YtkpoeigoocbgeaaPlain
import Derived.Deep.QuietTactic
import Derived.BigQuiet
namespace Go.Proofs.Ytkpoeigoocbgeaa
open Go.RowKit

set_option maxHeartbeats 400000 in
theorem Put_any (n width : Int) (w : World) (hn : n ≤ 9223372036854775807) :
    Calls Try.prog 66 #[.int .i64 n, .int .i64 width] w fun e w' => e = .returned (.tuple #[.string (str (putB n width)), .int .i64 (putE n width)]) ∧ Below w.heap.size w w' := by
  by_cases h : width < 1 ∨ 8 < width
  · have H := Lib.hid (putE_arg (n := n) h)
    go_enter Try.func66, Try.ntmps66
    go_wp2_with (go_at_call 88; refine (isWidth_no _ _ h).mono ?_; rintro e w' ⟨rfl, rfl⟩)
    go_ret2
    rw [putB_no (by rw [H.out]; omega), H.out]
    exact ⟨rfl, Below.refl _ _⟩
  · have h1 : 1 ≤ width := by omega
    have h2 : width ≤ 8 := by omega
    clear h
    by_cases hneg : n < 0
    · have H := Lib.hid (putE_neg h1 h2 hneg)
      go_enter Try.func66, Try.ntmps66
      go_wp2_with (go_at_call 88; refine (isWidth_yes _ _ h1 h2).mono ?_; rintro e w' ⟨rfl, rfl⟩)
      go_ret2
      rw [putB_no (by rw [H.out]; omega), H.out]
      exact ⟨rfl, Below.refl _ _⟩
    · obtain ⟨m, rfl⟩ := Int.eq_ofNat_of_zero_le (show 0 ≤ n by omega)
      obtain ⟨k, rfl⟩ := Int.eq_ofNat_of_zero_le (show 0 ≤ width by omega)
      by_cases hf : m < 256 ^ k
      · have hb := shr_none hf
        have H := Lib.hid (putE_ok (by omega) (by omega) hf)
        clear hf
        go_enter Try.func66, Try.ntmps66
        go_wp2_with (first
          | (go_at_call 88; refine (isWidth_yes _ _ h1 h2).mono ?_; rintro e w' ⟨rfl, rfl⟩)
          | (go_at_call 75; refine (encode_any m k _ (by omega) (by omega) (by omega)).mono ?_; rintro e w' ⟨rfl, hbel⟩))
        go_ret2
        rw [putB_ok H.out, H.out]
        exact ⟨rfl, hbel⟩
      · have hb := shr_some (Nat.le_of_not_lt hf)
        have H := Lib.hid (putE_big (n := m) (k := k) (by omega) (by omega) (Nat.le_of_not_lt hf))
        clear hf
        go_enter Try.func66, Try.ntmps66
        go_wp2_with (first
          | (go_at_call 88; refine (isWidth_yes _ _ h1 h2).mono ?_; rintro e w' ⟨rfl, rfl⟩))
        go_ret2
        rw [putB_no (by rw [H.out]; omega), H.out]
        exact ⟨rfl, Below.refl _ _⟩

set_option maxHeartbeats 400000 in
theorem Number_any (s : ByteArray) (width : Int) (w : World) (_hs : s.size ≤ maxLen) :
    Calls Try.prog 70 #[.string s, .int .i64 width] w fun e w' => e = .returned (.tuple #[.int .i64 (numN s.data.toList width), .string (str (numR s.data.toList width)), .int .i64 (numE s.data.toList width)]) ∧ Below w.heap.size w w' := by
  unfold maxLen at _hs
  by_cases h : width < 1 ∨ 8 < width
  · have H := Lib.hid (numE_arg (l := s.data.toList) h)
    go_enter Try.func70, Try.ntmps70
    go_wp2_with (go_at_call 88; refine (isWidth_no _ _ h).mono ?_; rintro e w' ⟨rfl, rfl⟩)
    go_ret3
    rw [numN_no (by rw [H.out]; omega), numR_no (by rw [H.out]; omega), H.out]
    exact ⟨rfl, Below.refl _ _⟩
  · have h1 : 1 ≤ width := by omega
    have h2 : width ≤ 8 := by omega
    clear h
    by_cases hlt : (s.size : Int) < width
    · have H := Lib.hid (numE_short (l := s.data.toList) h1 h2 (by rw [list_length]; exact hlt))
      go_enter Try.func70, Try.ntmps70
      go_wp2_with (go_at_call 88; refine (isWidth_yes _ _ h1 h2).mono ?_; rintro e w' ⟨rfl, rfl⟩)
      go_ret3
      rw [numN_no (by rw [H.out]; omega), numR_no (by rw [H.out]; omega), H.out]
      exact ⟨rfl, Below.refl _ _⟩
    · obtain ⟨k, rfl⟩ := Int.eq_ofNat_of_zero_le (show 0 ≤ width by omega)
      have hk : k ≤ s.size := by omega
      have hlen : (s.data.toList.take k).length = k := by rw [List.length_take, list_length]; omega
      have hsz : (s.extract 0 k).size ≤ 8 := by rw [ByteArray.size_extract]; omega
      have HE := Lib.hid (numE_get (l := s.data.toList) (k := k) (by omega) (by omega) (by rw [list_length]; exact hk))
      have HX := Lib.hid (extract_take s k)
      have HL := Lib.hid hlen
      clear hlen
      by_cases hb : dec (s.extract 0 k).data.toList < 9223372036854775808
      · have H : Hid (numE s.data.toList (k : Int) = 0) := by
          rw [HX.out] at hb
          exact Lib.hid (HE.out.trans (getE_ok (by rw [HL.out]; omega) (by rw [HL.out]; omega) hb))
        clear HE HL
        go_enter Try.func70, Try.ntmps70
        go_wp2_with (first
          | (go_at_call 88; refine (isWidth_yes _ _ h1 h2).mono ?_; rintro e w' ⟨rfl, rfl⟩)
          | (go_at_call 89; refine (decode_small _ _ hsz hb).mono ?_; rintro e w' ⟨rfl, rfl⟩))
        go_quiet (fail)
        go_wp2
        go_ret3
        rw [numN_ok H.out, numR_ok H.out, H.out, ← extract_drop_str]
        exact ⟨rfl, below_drewN (Below.refl _ _) _⟩
      · have H : Hid (numE s.data.toList (k : Int) = 10) := by
          rw [HX.out] at hb
          exact Lib.hid (HE.out.trans (getE_big (by rw [HL.out]; omega) (by rw [HL.out]; omega) (Nat.le_of_not_lt hb)))
        clear HE HL
        go_enter Try.func70, Try.ntmps70
        go_wp2_with (first
          | (go_at_call 88; refine (isWidth_yes _ _ h1 h2).mono ?_; rintro e w' ⟨rfl, rfl⟩)
          | (go_at_call 89; refine (decode_big _ _ hsz (Nat.le_of_not_lt hb)).mono ?_; rintro e w' ⟨rfl, rfl⟩))
        go_ret3
        rw [numN_no (by rw [H.out]; omega), numR_no (by rw [H.out]; omega), H.out]
        exact ⟨rfl, Below.refl _ _⟩

set_option maxHeartbeats 400000 in
theorem Text_any (s : ByteArray) (w : World) (hs : s.size ≤ maxLen) :
    Calls Try.prog 40 #[.string s] w fun e w' => e = .returned (.tuple #[.string (str (textB s.data.toList)), .int .i64 (textE s.data.toList)]) ∧ Below w.heap.size w w' := by
  unfold maxLen at hs
  by_cases h : 65535 < s.size
  · have H := Lib.hid (textE_long (l := s.data.toList) (by rw [list_length]; exact h))
    go_enter Try.func40, Try.ntmps40
    go_wp2
    go_ret2
    rw [textB_long (by rw [H.out]; omega), H.out]
    exact ⟨rfl, Below.refl _ _⟩
  · have H := Lib.hid (textE_ok (l := s.data.toList) (by rw [list_length]; exact h))
    go_enter Try.func40, Try.ntmps40
    have hsum : ¬ 9223372036854775807 < (str (enc 2 s.size)).size + s.size := by rw [str_size, enc_length]; omega
    have HB := Lib.hid (textB_ok H.out)
    rw [list_length] at HB
    go_wp2_with (go_at_call 75; refine (encode_any s.size 2 _ (by omega) (by omega) (by omega)).mono ?_; rintro e w' ⟨rfl, hbel⟩)
    go_ret2
    rw [HB.out, H.out, ← str_cat_of]
    exact ⟨rfl, hbel⟩

set_option maxHeartbeats 400000 in
theorem Take_any (s : ByteArray) (w : World) (hs : s.size ≤ maxLen) :
    Calls Try.prog 78 #[.string s] w fun e w' => e = .returned (.tuple #[.string (str (takeA s.data.toList)), .string (str (takeR s.data.toList)), .int .i64 (takeE s.data.toList)]) ∧ Below w.heap.size w w' := by
  have hs' := hs
  unfold maxLen at hs
  have hd2 := dec_take_two s.data.toList
  by_cases h : s.size < 2
  · have H := Lib.hid (takeE_short (l := s.data.toList) (by rw [list_length]; exact h))
    have HE := Lib.hid (numE_short (l := s.data.toList) (width := 2) (by omega) (by omega) (by rw [list_length]; omega))
    go_enter Try.func78, Try.ntmps78
    go_wp2_with (go_at_call 70; refine (Number_any _ _ _ hs').mono ?_; rintro e w' ⟨rfl, hbel⟩; rw [HE.out])
    go_ret3
    rw [takeA_no (by rw [H.out]; omega), takeR_no (by rw [H.out]; omega), H.out]
    exact ⟨rfl, hbel⟩
  · have HE : Hid (numE s.data.toList 2 = 0) := Lib.hid ((numE_get (l := s.data.toList) (k := 2) (by omega) (by omega) (by rw [list_length]; omega)).trans (getE_ok (by rw [List.length_take, list_length]; omega) (by rw [List.length_take, list_length]; omega) (by omega)))
    have HN : Hid (numN s.data.toList 2 = (dec (s.data.toList.take 2) : Int)) := Lib.hid (numN_ok (k := 2) HE.out)
    have HR : Hid (numR s.data.toList 2 = s.data.toList.drop 2) := Lib.hid (numR_ok (k := 2) HE.out)
    obtain ⟨d, hd⟩ : ∃ d, d = dec (s.data.toList.take 2) := ⟨_, rfl⟩
    rw [← hd] at hd2
    have HD := Lib.hid hd
    obtain ⟨r, hr⟩ : ∃ r : ByteArray, r = str (s.data.toList.drop 2) := ⟨_, rfl⟩
    have hrs : r.size = s.size - 2 := by rw [hr, str_size, List.length_drop, list_length]
    have Hr := Lib.hid hr
    clear hr hd
    by_cases hlt : r.size < d
    · have H := Lib.hid (takeE_lack (l := s.data.toList) (by rw [list_length, ← HD.out]; omega))
      go_enter Try.func78, Try.ntmps78
      go_wp2_with (go_at_call 70; refine (Number_any _ _ _ hs').mono ?_; rintro e w' ⟨rfl, hbel⟩; rw [HE.out, HN.out, HR.out, ← HD.out, ← Hr.out])
      go_ret3
      rw [takeA_no (by rw [H.out]; omega), takeR_no (by rw [H.out]; omega), H.out]
      exact ⟨rfl, hbel⟩
    · have H := Lib.hid (takeE_ok (l := s.data.toList) (by rw [list_length]; omega) (by rw [list_length, ← HD.out]; omega))
      have HA := Lib.hid (takeA_ok H.out)
      have HB := Lib.hid (takeR_ok H.out)
      rw [← HD.out, ← str_list (List.drop 2 s.data.toList), ← Hr.out] at HA HB
      have hrd : d ≤ r.size := by omega
      clear hrs hlt
      go_enter Try.func78, Try.ntmps78
      go_wp2_with (go_at_call 70; refine (Number_any _ _ _ hs').mono ?_; rintro e w' ⟨rfl, hbel⟩; rw [HE.out, HN.out, HR.out, ← HD.out, ← Hr.out])
      go_quiet (fail)
      go_wp2
      go_ret3
      rw [HA.out, HB.out, H.out, ← extract_take_str, ← extract_drop_str]
      exact ⟨rfl, below_drewN hbel _⟩

end Go.Proofs.Ytkpoeigoocbgeaa
