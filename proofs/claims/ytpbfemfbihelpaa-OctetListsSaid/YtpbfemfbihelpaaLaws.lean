/- The walks of the laws OctetPuts, OctetGets, OctetNumbers, OctetTexts, OctetBack, OctetOrder, OctetTakes, OctetShort: each returns true, and changes nothing that was there. -/
import Derived.Test.YtpbfemfbihelpaaRef
import Derived.Test.YtpbfemfbihelpaaBack
namespace Go.Proofs.Ytpbfemfbihelpaa
open Go.RowKit

theorem put300 : str (putB 300 2) = ⟨#[1, 44]⟩ := by decide +kernel
theorem put300E : putE 300 2 = 0 := by decide +kernel
theorem get300 : getN (ByteArray.mk #[1, 44]).data.toList = 300 := by decide +kernel
theorem get300E : getE (ByteArray.mk #[1, 44]).data.toList = 0 := by decide +kernel

set_option maxHeartbeats 400000 in
theorem awake_any (w : World) : Calls Try.prog 16 #[] w fun e w' => e = .returned (.bool true) ∧ Below w.heap.size w w' := by
  go_enter Try.func16, Try.ntmps16
  go_wp2_with (first
    | (go_at_call 14; refine (Put_any _ _ _ (by omega)).mono ?_; rintro e w1 ⟨rfl, hb1⟩; rw [put300, put300E])
    | (go_at_call 17; refine (Get_any _ _ (by decide)).mono ?_; rintro e w2 ⟨rfl, rfl⟩; rw [get300, get300E]))
  go_ret
  exact ⟨rfl, hb1⟩

set_option maxHeartbeats 400000 in
theorem OctetPuts_walk (n width : Int) (w : World) (hn : n ≤ 9223372036854775807) :
    Calls Try.prog 3 #[.int .i64 n, .int .i64 width] w fun e w' => e = .returned (.bool true) ∧ Below w.heap.size w w' := by
  go_enter Try.func3, Try.ntmps3
  go_wp2_with (first
    | (go_at_call 14; refine (Put_any _ _ _ hn).mono ?_; rintro e w1 ⟨rfl, hb1⟩)
    | (go_at_call 15; refine (RefPut_any _ _ _ hn).mono ?_; rintro e w2 ⟨rfl, hb2⟩)
    | (go_at_call 16; refine (awake_any _).mono ?_; rintro e w3 ⟨rfl, hb3⟩))
  go_ret
  exact ⟨rfl, below_next (below_next hb1 hb2) hb3⟩

set_option maxHeartbeats 400000 in
theorem OctetGets_walk (s : ByteArray) (w : World) (hs : s.size ≤ maxLen) :
    Calls Try.prog 4 #[.string s] w fun e w' => e = .returned (.bool true) ∧ Below w.heap.size w w' := by
  go_enter Try.func4, Try.ntmps4
  go_wp2_with (first
    | (go_at_call 17; refine (Get_any _ _ hs).mono ?_; rintro e w1 ⟨rfl, rfl⟩)
    | (go_at_call 18; refine (RefGet_any _ _ hs).mono ?_; rintro e w2 ⟨rfl, rfl⟩)
    | (go_at_call 16; refine (awake_any _).mono ?_; rintro e w3 ⟨rfl, hb3⟩))
  go_ret
  exact ⟨rfl, hb3⟩

set_option maxHeartbeats 400000 in
theorem OctetNumbers_walk (s : ByteArray) (width : Int) (w : World) (hs : s.size ≤ maxLen) :
    Calls Try.prog 5 #[.string s, .int .i64 width] w fun e w' => e = .returned (.bool true) ∧ Below w.heap.size w w' := by
  go_enter Try.func5, Try.ntmps5
  go_wp2_with (first
    | (go_at_call 19; refine (Number_any _ _ _ hs).mono ?_; rintro e w1 ⟨rfl, hb1⟩)
    | (go_at_call 20; refine (RefNumber_any _ _ _ hs).mono ?_; rintro e w2 ⟨rfl, hb2⟩)
    | (go_at_call 16; refine (awake_any _).mono ?_; rintro e w3 ⟨rfl, hb3⟩))
  go_ret
  exact ⟨rfl, below_next (below_next hb1 hb2) hb3⟩

set_option maxHeartbeats 400000 in
theorem OctetTexts_walk (s : ByteArray) (w : World) (hs : s.size ≤ maxLen) :
    Calls Try.prog 6 #[.string s] w fun e w' => e = .returned (.bool true) ∧ Below w.heap.size w w' := by
  go_enter Try.func6, Try.ntmps6
  go_wp2_with (first
    | (go_at_call 21; refine (Text_any _ _ hs).mono ?_; rintro e w1 ⟨rfl, hb1⟩)
    | (go_at_call 22; refine (RefText_any _ _ hs).mono ?_; rintro e w2 ⟨rfl, hb2⟩)
    | (go_at_call 23; refine (Take_any _ _ hs).mono ?_; rintro e w3 ⟨rfl, hb3⟩)
    | (go_at_call 24; refine (RefTake_any _ _ hs).mono ?_; rintro e w4 ⟨rfl, hb4⟩)
    | (go_at_call 16; refine (awake_any _).mono ?_; rintro e w5 ⟨rfl, hb5⟩))
  go_ret
  exact ⟨rfl, below_next (below_next (below_next (below_next hb1 hb2) hb3) hb4) hb5⟩

set_option maxHeartbeats 400000 in
theorem OctetBack_walk (n width : Int) (more : ByteArray) (w : World) (hn : n ≤ 9223372036854775807) (hm : more.size ≤ 140737488351232) :
    Calls Try.prog 9 #[.int .i64 n, .int .i64 width, .string more] w fun e w' => e = .returned (.bool true) ∧ Below w.heap.size w w' := by
  by_cases hp : putE n width = 0
  · obtain ⟨m, k, rfl, rfl, h1, h2, hf⟩ := putE_zero hp
    have HE := Lib.hid hp
    have HB := Lib.hid (putB_ok hp)
    have hm' : m ≤ 9223372036854775807 := by omega
    have HG := Lib.hid (getN_enc h1 h2 hf hm')
    have HGE := Lib.hid (getE_enc h1 h2 hf hm')
    have HN := Lib.hid (numN_enc h1 h2 hf hm' more.data.toList)
    have HNR := Lib.hid (numR_enc h1 h2 hf hm' more.data.toList)
    have HNE := Lib.hid (numE_enc h1 h2 hf hm' more.data.toList)
    have hsz : (str (enc k m)).size ≤ maxLen := by rw [str_size, enc_length]; unfold maxLen; omega
    have hsz2 : (str (enc k m ++ more.data.toList)).size ≤ maxLen := by rw [str_size, List.length_append, enc_length, list_length]; unfold maxLen; omega
    have hsum : ¬ 9223372036854775807 < (str (enc k m)).size + more.size := by rw [str_size, enc_length]; omega
    have hlen : (((str (enc k m)).size : Int) == (k : Int)) = true := by rw [str_size, enc_length]; simp
    clear hp hf
    go_enter Try.func9, Try.ntmps9
    go_wp2_with (first
      | (go_at_call 14; refine (Put_any _ _ _ hn).mono ?_; rintro e w1 ⟨rfl, hb1⟩; rw [HE.out, HB.out])
      | (go_at_call 17; refine (Get_any _ _ hsz).mono ?_; rintro e w2 ⟨rfl, rfl⟩; rw [str_list, HG.out, HGE.out])
      | (go_at_call 19; rw [str_cat_of]; refine (Number_any _ _ _ hsz2).mono ?_; rintro e w3 ⟨rfl, hb3⟩; rw [str_list, HN.out, HNR.out, HNE.out])
      | (go_at_call 16; refine (awake_any _).mono ?_; rintro e w4 ⟨rfl, hb4⟩))
    go_ret
    exact ⟨rfl, below_next (below_next hb1 hb3) hb4⟩
  · have HB := Lib.hid (putB_no hp)
    have hem : (str []).toList.isEmpty = true := by decide +kernel
    have hne : (putE n width != 0) = true := by rw [bne_iff_ne]; exact hp
    clear hp
    go_enter Try.func9, Try.ntmps9
    go_wp2_with (first
      | (go_at_call 14; refine (Put_any _ _ _ hn).mono ?_; rintro e w1 ⟨rfl, hb1⟩; rw [HB.out])
      | (go_at_call 16; refine (awake_any _).mono ?_; rintro e w2 ⟨rfl, hb2⟩))
    go_ret
    exact ⟨rfl, below_next hb1 hb2⟩

set_option maxHeartbeats 400000 in
theorem OctetOrder_walk (a b width : Int) (w : World) (ha : a ≤ 9223372036854775807) (hb : b ≤ 9223372036854775807) :
    Calls Try.prog 10 #[.int .i64 a, .int .i64 b, .int .i64 width] w fun e w' => e = .returned (.bool true) ∧ Below w.heap.size w w' := by
  by_cases hp : putE a width = 0
  · obtain ⟨m, k, rfl, rfl, h1, h2, hf⟩ := putE_zero hp
    by_cases hq : putE b k = 0
    · obtain ⟨n, k', rfl, hk, _, _, hg⟩ := putE_zero hq
      obtain rfl : k = k' := by omega
      have HP := Lib.hid hp
      have HQ := Lib.hid hq
      have HA := Lib.hid (putB_ok hp)
      have HB := Lib.hid (putB_ok hq)
      have hless : (decide (m < n) == Op.bytesLess (str (enc k m)).toList (str (enc k n)).toList) = true := by rw [str_toList, str_toList, less_enc_of hf hg]; simp
      have hsame : (((m : Int) == (n : Int)) == ((str (enc k m)).toList == (str (enc k n)).toList)) = true := by
        rw [str_toList, str_toList, same_enc_of hf hg]
        by_cases e : m = n
        · simp [e]
        · simp [e]; omega
      clear hp hq hf hg hk
      go_enter Try.func10, Try.ntmps10
      go_wp2_with fail
      refine (Put_any _ _ _ ha).mono ?_
      rintro e w1 ⟨rfl, hb1⟩
      rw [HP.out, HA.out]
      go_wp2_with fail
      refine (Put_any _ _ _ hb).mono ?_
      rintro e w2 ⟨rfl, hb2⟩
      rw [HQ.out, HB.out]
      go_wp2_with (first
        | (go_at_call 16; refine (awake_any _).mono ?_; rintro e w3 ⟨rfl, hb3⟩))
      go_ret
      exact ⟨rfl, below_next (below_next hb1 hb2) hb3⟩
    · have hne : (putE b k != 0) = true := by rw [bne_iff_ne]; exact hq
      have HP := Lib.hid hp
      clear hp hq
      go_enter Try.func10, Try.ntmps10
      go_wp2_with fail
      refine (Put_any _ _ _ ha).mono ?_
      rintro e w1 ⟨rfl, hb1⟩
      rw [HP.out]
      go_wp2_with fail
      refine (Put_any _ _ _ hb).mono ?_
      rintro e w2 ⟨rfl, hb2⟩
      go_wp2_with (first
        | (go_at_call 16; refine (awake_any _).mono ?_; rintro e w3 ⟨rfl, hb3⟩))
      go_ret
      exact ⟨rfl, below_next (below_next hb1 hb2) hb3⟩
  · have hne : (putE a width != 0) = true := by rw [bne_iff_ne]; exact hp
    clear hp
    go_enter Try.func10, Try.ntmps10
    go_wp2_with fail
    refine (Put_any _ _ _ ha).mono ?_
    rintro e w1 ⟨rfl, hb1⟩
    go_wp2_with fail
    refine (Put_any _ _ _ hb).mono ?_
    rintro e w2 ⟨rfl, hb2⟩
    go_wp2_with (first
      | (go_at_call 16; refine (awake_any _).mono ?_; rintro e w3 ⟨rfl, hb3⟩))
    go_ret
    exact ⟨rfl, below_next (below_next hb1 hb2) hb3⟩

set_option maxHeartbeats 400000 in
theorem OctetTakes_walk (s more : ByteArray) (w : World) (hs : s.size ≤ 140737488351232) (hm : more.size ≤ 140737488351232) :
    Calls Try.prog 12 #[.string s, .string more] w fun e w' => e = .returned (.bool true) ∧ Below w.heap.size w w' := by
  have hsm : s.size ≤ maxLen := by unfold maxLen; omega
  by_cases hl : 65535 < s.size
  · have HE := Lib.hid (textE_long (l := s.data.toList) (by rw [list_length]; exact hl))
    have HB := Lib.hid (textB_long (l := s.data.toList) (by rw [HE.out]; omega))
    have hem : (str []).toList.isEmpty = true := by decide +kernel
    go_enter Try.func12, Try.ntmps12
    go_wp2_with (first
      | (go_at_call 21; refine (Text_any _ _ hsm).mono ?_; rintro e w1 ⟨rfl, hb1⟩; rw [HE.out, HB.out])
      | (go_at_call 16; refine (awake_any _).mono ?_; rintro e w2 ⟨rfl, hb2⟩))
    go_ret
    exact ⟨rfl, below_next hb1 hb2⟩
  · have HE := Lib.hid (textE_ok (l := s.data.toList) (by rw [list_length]; exact hl))
    have HB := Lib.hid (textB_ok HE.out)
    have HTE := Lib.hid (takeE_text s.data.toList more.data.toList (by rw [list_length]; omega))
    have HTA := Lib.hid (takeA_text s.data.toList more.data.toList (by rw [list_length]; omega))
    have HTR := Lib.hid (takeR_text s.data.toList more.data.toList (by rw [list_length]; omega))
    obtain ⟨t, ht⟩ : ∃ t, t = enc 2 s.data.toList.length ++ s.data.toList := ⟨_, rfl⟩
    rw [← ht] at HB HTE HTA HTR
    have htl : t.length = s.size + 2 := by rw [ht, List.length_append, enc_length, list_length]; omega
    have hsz2 : (str (t ++ more.data.toList)).size ≤ maxLen := by rw [str_size, List.length_append, list_length]; unfold maxLen; omega
    have hsum : ¬ 9223372036854775807 < (str t).size + more.size := by rw [str_size]; omega
    have hlen : (((str t).size : Int) == (s.size : Int) + 2) = true := by rw [str_size, beq_iff_eq]; omega
    clear ht htl
    go_enter Try.func12, Try.ntmps12
    go_wp2_with (first
      | (go_at_call 21; refine (Text_any _ _ hsm).mono ?_; rintro e w1 ⟨rfl, hb1⟩; rw [HE.out, HB.out])
      | (go_at_call 23; rw [str_cat_of]; refine (Take_any _ _ hsz2).mono ?_; rintro e w2 ⟨rfl, hb2⟩; rw [str_list, HTA.out, HTR.out, HTE.out, str_of, str_of])
      | (go_at_call 16; refine (awake_any _).mono ?_; rintro e w3 ⟨rfl, hb3⟩))
    go_ret
    exact ⟨rfl, below_next (below_next hb1 hb2) hb3⟩

set_option maxHeartbeats 400000 in
theorem OctetShort_walk (n width keep : Int) (w : World) (hn : n ≤ 9223372036854775807) :
    Calls Try.prog 13 #[.int .i64 n, .int .i64 width, .int .i64 keep] w fun e w' => e = .returned (.bool true) ∧ Below w.heap.size w w' := by
  by_cases hp : putE n width = 0
  · obtain ⟨m, k, rfl, rfl, h1, h2, hf⟩ := putE_zero hp
    have HE := Lib.hid hp
    have HB := Lib.hid (putB_ok hp)
    clear hp hf
    by_cases h0 : keep < 0
    · go_enter Try.func13, Try.ntmps13
      go_wp2_with (first
        | (go_at_call 14; refine (Put_any _ _ _ hn).mono ?_; rintro e w1 ⟨rfl, hb1⟩; rw [HE.out, HB.out])
        | (go_at_call 16; refine (awake_any _).mono ?_; rintro e w2 ⟨rfl, hb2⟩))
      go_ret
      exact ⟨rfl, below_next hb1 hb2⟩
    · obtain ⟨j, rfl⟩ := Int.eq_ofNat_of_zero_le (show 0 ≤ keep by omega)
      have hsz : (str (enc k m)).size = k := by rw [str_size, enc_length]
      by_cases hj : k ≤ j
      · have hge : (str (enc k m)).size ≤ j := by omega
        clear hsz
        go_enter Try.func13, Try.ntmps13
        go_wp2_with (first
          | (go_at_call 14; refine (Put_any _ _ _ hn).mono ?_; rintro e w1 ⟨rfl, hb1⟩; rw [HE.out, HB.out])
          | (go_at_call 16; refine (awake_any _).mono ?_; rintro e w2 ⟨rfl, hb2⟩))
        go_ret
        exact ⟨rfl, below_next hb1 hb2⟩
      · have hge : j < (str (enc k m)).size := by omega
        have hle : j ≤ (str (enc k m)).size := by omega
        have hx : ((str (enc k m)).extract 0 j).size ≤ maxLen := by rw [ByteArray.size_extract]; unfold maxLen; omega
        have HN := Lib.hid (numE_short (l := ((str (enc k m)).extract 0 j).data.toList) (width := (k : Int)) (by omega) (by omega) (by rw [list_length, ByteArray.size_extract]; omega))
        have HA := Lib.hid (numN_no (l := ((str (enc k m)).extract 0 j).data.toList) (width := (k : Int)) (by rw [HN.out]; omega))
        have HR := Lib.hid (numR_no (l := ((str (enc k m)).extract 0 j).data.toList) (width := (k : Int)) (by rw [HN.out]; omega))
        have hem : (str []).toList.isEmpty = true := by decide +kernel
        clear hsz
        go_enter Try.func13, Try.ntmps13
        go_wp2_with (first
          | (go_at_call 14; refine (Put_any _ _ _ hn).mono ?_; rintro e w1 ⟨rfl, hb1⟩; rw [HE.out, HB.out])
          | (go_at_call 19; refine (Number_any _ _ _ hx).mono ?_; rintro e w2 ⟨rfl, hb2⟩; rw [HA.out, HR.out, HN.out])
          | (go_at_call 16; refine (awake_any _).mono ?_; rintro e w3 ⟨rfl, hb3⟩))
        go_ret
        exact ⟨rfl, below_next (below_next hb1 hb2) hb3⟩
  · have hne : (putE n width != 0) = true := by rw [bne_iff_ne]; exact hp
    clear hp
    go_enter Try.func13, Try.ntmps13
    go_wp2_with (first
      | (go_at_call 14; refine (Put_any _ _ _ hn).mono ?_; rintro e w1 ⟨rfl, hb1⟩)
      | (go_at_call 16; refine (awake_any _).mono ?_; rintro e w2 ⟨rfl, hb2⟩))
    go_ret
    exact ⟨rfl, below_next hb1 hb2⟩

end Go.Proofs.Ytpbfemfbihelpaa
