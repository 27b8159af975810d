/- Contracts of the functions of the package frame: Seal, check, Open: for every argument each answers what the plain functions say, and changes nothing that was there. -/
import Derived.Test.YtdhmkcomngbmaaaFrameP
import Derived.Test.YtdhmkcomngbmaaaOctet
namespace Go.Proofs.Ytdhmkcomngbmaaa
open Go.RowKit

theorem putE_kind {k : Nat} (h : k < 256) : putE (k : Int) 1 = 0 := putE_ok (k := 1) (by omega) (by omega) (by simpa using h)
theorem putE_sum {c : Nat} (h : c < 4294967296) : putE (c : Int) 4 = 0 := putE_ok (k := 4) (by omega) (by omega) h
theorem putB_kind {k : Nat} (h : k < 256) : putB (k : Int) 1 = enc 1 k := putB_ok (k := 1) (putE_kind h)
theorem putB_sum {c : Nat} (h : c < 4294967296) : putB (c : Int) 4 = enc 4 c := putB_ok (k := 4) (putE_sum h)

set_option maxHeartbeats 400000 in
theorem Seal_any (kind : Int) (s : ByteArray) (w : World) (hs : s.size ≤ maxLen) :
    Calls Try.prog 48 #[.int .i64 kind, .string s] w fun e w' => e = .returned (.tuple #[.string (str (sealB kind s.data.toList)), .int .i64 (sealE kind s.data.toList)]) ∧ Below w.heap.size w w' := by
  have hs' := hs
  unfold maxLen at hs
  by_cases h : kind < 0 ∨ 255 < kind
  · have H := Lib.hid (sealE_kind (l := s.data.toList) h)
    rcases h with h | h
    · go_enter Try.func48, Try.ntmps48
      go_wp2
      go_ret2
      rw [sealB_no (by rw [H.out]; omega), H.out]
      exact ⟨rfl, Below.refl _ _⟩
    · have h0 : 0 ≤ kind := by omega
      go_enter Try.func48, Try.ntmps48
      go_wp2
      go_ret2
      rw [sealB_no (by rw [H.out]; omega), H.out]
      exact ⟨rfl, Below.refl _ _⟩
  · by_cases hl : 4096 < s.size
    · have H := Lib.hid (sealE_long h (l := s.data.toList) (by rw [list_length]; exact hl))
      have h0 : 0 ≤ kind := by omega
      have h1 : kind ≤ 255 := by omega
      clear h
      go_enter Try.func48, Try.ntmps48
      go_wp2
      go_ret2
      rw [sealB_no (by rw [H.out]; omega), H.out]
      exact ⟨rfl, Below.refl _ _⟩
    · obtain ⟨k, rfl⟩ := Int.eq_ofNat_of_zero_le (show 0 ≤ kind by omega)
      have hk : k < 256 := by omega
      have H := Lib.hid (sealE_ok h (l := s.data.toList) (by rw [list_length]; exact hl))
      have HB := Lib.hid (sealB_ok H.out)
      obtain ⟨p, HP⟩ : ∃ p, Hid (putB (k : Int) 1 = p) := ⟨_, Lib.hid rfl⟩
      obtain ⟨t, HT⟩ : ∃ t, Hid (textB s.data.toList = t) := ⟨_, Lib.hid rfl⟩
      obtain ⟨f, HF⟩ : ∃ f, Hid (frameHead k s.data.toList = f) := ⟨_, Lib.hid rfl⟩
      obtain ⟨c, HC⟩ : ∃ c : Nat, Hid (crcSum 0 f = c) := ⟨_, Lib.hid rfl⟩
      obtain ⟨q, HQ⟩ : ∃ q, Hid (putB (c : Int) 4 = q) := ⟨_, Lib.hid rfl⟩
      have hc : c < 4294967296 := by rw [← HC.out]; exact crcSum_lt _ _
      have hp := HP.out
      rw [putB_kind hk] at hp
      have ht := HT.out
      rw [textB_ok (textE_ok (l := s.data.toList) (by rw [list_length]; omega))] at ht
      have hq := HQ.out
      rw [putB_sum hc] at hq
      have hpt : p ++ t = f := by rw [← hp, ← ht, ← HF.out]; rfl
      have hfq : frameOf k s.data.toList = f ++ q := by rw [← hq, ← HC.out, ← HF.out]; rfl
      have hfl : f.length = s.size + 3 := by rw [← HF.out, frameHead_length, list_length]
      have hql : q.length = 4 := by rw [← hq, enc_length]
      have HCat : Hid (str p ++ str t = str f) := Lib.hid (by rw [str_cat, hpt])
      have HEnd : Hid (str f ++ str q = str (frameOf k s.data.toList)) := Lib.hid (by rw [str_cat, hfq])
      have hz1 : ¬ 9223372036854775807 < (str p).size + (str t).size := by
        have := congrArg List.length hpt
        rw [List.length_append] at this
        rw [str_size, str_size]
        omega
      have hz2 : ¬ 9223372036854775807 < (str f).size + (str q).size := by
        rw [str_size, str_size]
        omega
      have hz3 : (str f).size ≤ 9223372036854775807 := by omega
      clear h hp ht hq hpt hfq hfl hql
      go_enter Try.func48, Try.ntmps48
      go_wp2_with fail
      refine (Put_any k 1 _ (by omega)).mono ?_
      rintro e w1 ⟨rfl, hb1⟩
      rw [HP.out]
      go_wp2_with fail
      refine (Text_any _ _ hs').mono ?_
      rintro e w2 ⟨rfl, hb2⟩
      rw [HT.out]
      go_wp2_with fail
      rw [HCat.out]
      refine (Of_any _ _ hz3).mono ?_
      rintro e w3 ⟨rfl, rfl⟩
      rw [str_list, HC.out]
      go_wp2_with fail
      refine (Put_any c 4 _ (by omega)).mono ?_
      rintro e w3 ⟨rfl, hb3⟩
      rw [HQ.out]
      go_wp2
      go_ret2
      rw [HEnd.out, HB.out, H.out]
      exact ⟨rfl, below_next (below_next hb1 hb2) hb3⟩

set_option maxHeartbeats 400000 in
theorem check_any (s : ByteArray) (n : Nat) (w : World) (hs : s.size ≤ 9223372036854775807) (hn : n ≤ 65535) :
    Calls Try.prog 61 #[.string s, .int .i64 n] w fun e w' => e = .returned (.int .i64 (checkE s.data.toList n)) ∧ Below w.heap.size w w' := by
  by_cases h : 4096 < n
  · have H := Lib.hid (checkE_big (l := s.data.toList) (n := n) (by omega))
    go_enter Try.func61, Try.ntmps61
    go_wp2
    go_ret
    rw [H.out]
    exact ⟨rfl, Below.refl _ _⟩
  · by_cases h1 : (s.size : Int) < 7 + n
    · have H := Lib.hid (checkE_short (l := s.data.toList) (n := n) (by omega) (by rw [list_length]; exact h1))
      go_enter Try.func61, Try.ntmps61
      go_wp2
      go_ret
      rw [H.out]
      exact ⟨rfl, Below.refl _ _⟩
    · by_cases h2 : 7 + n < (s.size : Int)
      · have H := Lib.hid (checkE_more (l := s.data.toList) (n := n) (by omega) (by rw [list_length]; exact h2))
        go_enter Try.func61, Try.ntmps61
        go_wp2
        go_ret
        rw [H.out]
        exact ⟨rfl, Below.refl _ _⟩
      · have H := Lib.hid (checkE_sum (l := s.data.toList) (n := n) (by omega) (by rw [list_length]; omega))
        obtain ⟨r, HR⟩ : ∃ r, Hid (sumRight s.data.toList = r) := ⟨_, Lib.hid rfl⟩
        rw [HR.out] at H
        cases r
        · go_enter Try.func61, Try.ntmps61
          go_wp2_with (go_at_call 64; refine (Right_any _ _ hs).mono ?_; rintro e w1 ⟨rfl, hb1⟩; rw [HR.out])
          go_ret
          rw [H.out]
          exact ⟨rfl, hb1⟩
        · go_enter Try.func61, Try.ntmps61
          go_wp2_with (go_at_call 64; refine (Right_any _ _ hs).mono ?_; rintro e w1 ⟨rfl, hb1⟩; rw [HR.out])
          go_ret
          rw [H.out]
          exact ⟨rfl, hb1⟩

theorem numE_two (l : List UInt8) (h : 2 ≤ l.length) : numE l 2 = 0 := (numE_get (l := l) (k := 2) (by omega) (by omega) h).trans (getE_ok (by rw [List.length_take]; omega) (by rw [List.length_take]; omega) (by have := dec_take_two l; omega))
theorem dec_take_one (l : List UInt8) : dec (l.take 1) < 256 := by
  have h1 := dec_lt (l.take 1)
  have h2 : (l.take 1).length ≤ 1 := List.length_take_le _ _
  have h3 : 256 ^ (l.take 1).length ≤ 256 ^ 1 := Nat.pow_le_pow_right (by omega) h2
  omega
theorem numE_one (l : List UInt8) (h : 1 ≤ l.length) : numE l 1 = 0 := (numE_get (l := l) (k := 1) (by omega) (by omega) h).trans (getE_ok (by rw [List.length_take]; omega) (by rw [List.length_take]; omega) (by have := dec_take_one l; omega))
theorem numN_two (l : List UInt8) (h : 2 ≤ l.length) : numN l 2 = (dec (l.take 2) : Int) := numN_ok (k := 2) (numE_two l h)
theorem numN_one (l : List UInt8) (h : 1 ≤ l.length) : numN l 1 = (dec (l.take 1) : Int) := numN_ok (k := 1) (numE_one l h)
theorem numR_two (l : List UInt8) (h : 2 ≤ l.length) : numR l 2 = l.drop 2 := numR_ok (k := 2) (numE_two l h)
theorem numR_one (l : List UInt8) (h : 1 ≤ l.length) : numR l 1 = l.drop 1 := numR_ok (k := 1) (numE_one l h)

set_option maxHeartbeats 400000 in
theorem Open_any (s : ByteArray) (w : World) (hs : s.size ≤ maxLen) :
    Calls Try.prog 52 #[.string s] w fun e w' => e = .returned (.tuple #[.int .i64 (openK s.data.toList), .string (str (openB s.data.toList)), .int .i64 (openE s.data.toList)]) ∧ Below w.heap.size w w' := by
  have hs' := hs
  unfold maxLen at hs
  by_cases h : s.size < 7
  · have H := Lib.hid (openE_short (l := s.data.toList) (by rw [list_length]; exact h))
    go_enter Try.func52, Try.ntmps52
    go_wp2
    go_ret3
    rw [openK_no (by rw [H.out]; omega), openB_no (by rw [H.out]; omega), H.out]
    exact ⟨rfl, Below.refl _ _⟩
  · have H := Lib.hid (openE_long (l := s.data.toList) (by rw [list_length]; exact h))
    obtain ⟨k, HK⟩ : ∃ k : Nat, Hid (dec (s.data.toList.take 1) = k) := ⟨_, Lib.hid rfl⟩
    have HN1 := Lib.hid (numN_one s.data.toList (by rw [list_length]; omega))
    have HR1 := Lib.hid (numR_one s.data.toList (by rw [list_length]; omega))
    obtain ⟨t, HT⟩ : ∃ t, Hid (s.data.toList.drop 1 = t) := ⟨_, Lib.hid rfl⟩
    have htl : t.length = s.size - 1 := by rw [← HT.out, List.length_drop, list_length]
    have HN2 := Lib.hid (numN_two t (by omega))
    have HR2 := Lib.hid (numR_two t (by omega))
    obtain ⟨n, HN⟩ : ∃ n : Nat, Hid (dec (t.take 2) = n) := ⟨_, Lib.hid rfl⟩
    have hn : n ≤ 65535 := by rw [← HN.out]; have := dec_take_two t; omega
    have HL : Hid (frameLen s.data.toList = n) := Lib.hid (by unfold frameLen; rw [HT.out, HN.out])
    obtain ⟨u, HU⟩ : ∃ u, Hid (str (t.drop 2) = u) := ⟨_, Lib.hid rfl⟩
    have hul : u.size = s.size - 3 := by rw [← HU.out, str_size, List.length_drop, htl]; omega
    have HB : Hid ((s.data.toList.drop 3).take n = (u.extract 0 n).data.toList) := by
      apply Lib.hid
      rw [extract_take, ← HU.out, str_list, ← HT.out, List.drop_drop]
    rw [HL.out] at H
    have hts : (str t).size ≤ maxLen := by rw [str_size]; unfold maxLen; omega
    obtain ⟨e0, HE⟩ : ∃ e0, Hid (checkE s.data.toList n = e0) := ⟨_, Lib.hid rfl⟩
    rw [HE.out] at H
    by_cases he : e0 = 0
    · subst he
      have hz := (checkE_zero HE.out).2.1
      rw [list_length] at hz
      have hnu : n ≤ u.size := by omega
      have HBO := Lib.hid (openB_ok H.out)
      rw [HL.out, HB.out] at HBO
      clear hz hul htl
      go_enter Try.func52, Try.ntmps52
      go_wp2_with fail
      refine (Number_any s 1 _ hs').mono ?_
      rintro e w1 ⟨rfl, hb1⟩
      rw [HN1.out, HR1.out, HK.out, HT.out]
      go_wp2_with fail
      refine (Number_any (str t) 2 _ hts).mono ?_
      rintro e w2 ⟨rfl, hb2⟩
      rw [str_list, HN2.out, HR2.out, HN.out, HU.out]
      go_wp2_with fail
      refine (check_any s n _ hs hn).mono ?_
      rintro e w3 ⟨rfl, hb3⟩
      rw [HE.out]
      go_wp2
      go_quiet (fail)
      go_wp2
      go_ret3
      rw [HBO.out, openK_ok H.out, H.out, HK.out, str_of]
      exact ⟨rfl, below_drewN (below_next (below_next hb1 hb2) hb3) _⟩
    · have hbe : (e0 != 0) = true := by rw [bne_iff_ne]; exact he
      go_enter Try.func52, Try.ntmps52
      go_wp2_with fail
      refine (Number_any s 1 _ hs').mono ?_
      rintro e w1 ⟨rfl, hb1⟩
      rw [HN1.out, HR1.out, HK.out, HT.out]
      go_wp2_with fail
      refine (Number_any (str t) 2 _ hts).mono ?_
      rintro e w2 ⟨rfl, hb2⟩
      rw [str_list, HN2.out, HR2.out, HN.out, HU.out]
      go_wp2_with fail
      refine (check_any s n _ hs hn).mono ?_
      rintro e w3 ⟨rfl, hb3⟩
      rw [HE.out]
      go_wp2
      go_ret3
      rw [openK_no (by rw [H.out]; exact he), openB_no (by rw [H.out]; exact he), H.out]
      exact ⟨rfl, below_next (below_next hb1 hb2) hb3⟩
end Go.Proofs.Ytdhmkcomngbmaaa
