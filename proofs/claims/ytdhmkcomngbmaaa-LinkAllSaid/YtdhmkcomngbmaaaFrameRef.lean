/- Contracts of the document's answers for layer 3 (counterfoilref03): Seal, Open: the same plain functions as those of the package frame. -/
import Derived.Test.YtdhmkcomngbmaaaFrame
namespace Go.Proofs.Ytdhmkcomngbmaaa
open Go.RowKit

/-- A string of three bytes, out of a new row of three cells. -/
theorem conv_three (W : World) (a b c : Nat) (ha : a < 256) (hb : b < 256) (hc : c < 256) :
    (convert 88 9 (.slice (some ⟨W.heap.size, 0, none⟩) 3 3)).run Try.prog (W.alloc (.cells #[.int .u8 (a : Int), .int .u8 (b : Int), .int .u8 (c : Int)] 5)) = .ok (.string (str [UInt8.ofNat a, UInt8.ofNat b, UInt8.ofNat c])) (W.alloc (.cells #[.int .u8 (a : Int), .int .u8 (b : Int), .int .u8 (c : Int)] 5)) := by
  have h := run_convert_bytes_back (P := Try.prog) (W.alloc (.cells #[.int .u8 (a : Int), .int .u8 (b : Int), .int .u8 (c : Int)] 5)) 88 9 5 ⟨W.heap.size, 0, none⟩ 3 [UInt8.ofNat a, UInt8.ofNat b, UInt8.ofNat c] Try.underlying88 Try.underlying5 Try.underlying9 (fun j hj => by
    simp at hj
    rw [WideShapes.add_plain, Nat.zero_add, Lib.cell_of_heap (heap_alloc_new W _)]
    rcases (show j = 0 ∨ j = 1 ∨ j = 2 by omega) with rfl | rfl | rfl
    · simp; omega
    · simp; omega
    · simp; omega)
  exact h

theorem three_bytes (k : Nat) (l : List UInt8) : [UInt8.ofNat k, UInt8.ofNat (l.length / 256), UInt8.ofNat (l.length % 256)] ++ l = frameHead k l := by
  have e : UInt8.ofNat (l.length % 256) = UInt8.ofNat l.length := by
    apply UInt8.toNat_inj.1
    simp [UInt8.toNat_ofNat']
  rw [e]
  simp [frameHead, enc]

set_option maxHeartbeats 400000 in
set_option maxRecDepth 100000 in
theorem RefSeal_any (kind : Int) (s : ByteArray) (w : World) (hs : s.size ≤ maxLen) :
    Calls Try.prog 51 #[.int .i64 kind, .string s] w fun e w' => e = .returned (.tuple #[.string (str (sealB kind s.data.toList)), .int .i64 (sealE kind s.data.toList)]) ∧ Below w.heap.size w w' := by
  unfold maxLen at hs
  by_cases h : kind < 0 ∨ 255 < kind
  · have H := Lib.hid (sealE_kind (l := s.data.toList) h)
    rcases h with h | h
    · go_enter Try.func51, Try.ntmps51
      go_wp2
      go_ret2
      rw [sealB_no (by rw [H.out]; omega), H.out]
      exact ⟨rfl, Below.refl _ _⟩
    · have h0 : 0 ≤ kind := by omega
      go_enter Try.func51, Try.ntmps51
      go_wp2
      go_ret2
      rw [sealB_no (by rw [H.out]; omega), H.out]
      exact ⟨rfl, Below.refl _ _⟩
  · by_cases hl : 4096 < s.size
    · have H := Lib.hid (sealE_long h (l := s.data.toList) (by rw [list_length]; exact hl))
      have h0 : 0 ≤ kind := by omega
      have h1 : kind ≤ 255 := by omega
      clear h
      go_enter Try.func51, Try.ntmps51
      go_wp2
      go_ret2
      rw [sealB_no (by rw [H.out]; omega), H.out]
      exact ⟨rfl, Below.refl _ _⟩
    · obtain ⟨k, rfl⟩ := Int.eq_ofNat_of_zero_le (show 0 ≤ kind by omega)
      have hk : k < 256 := by omega
      have H := Lib.hid (sealE_ok h (l := s.data.toList) (by rw [list_length]; exact hl))
      have HB := Lib.hid (sealB_ok H.out)
      have h3 := three_bytes k s.data.toList
      rw [list_length] at h3
      have hcv := conv_three w k (s.size / 256) (s.size % 256) hk (by omega) (by omega)
      rw [show ((s.size % 256 : Nat) : Int) = (s.size : Int) % 256 from by omega, show ((s.size / 256 : Nat) : Int) = (s.size : Int) / 256 from by omega] at hcv
      obtain ⟨p, HP⟩ : ∃ p, Hid ([UInt8.ofNat k, UInt8.ofNat (s.size / 256), UInt8.ofNat (s.size % 256)] = p) := ⟨_, Lib.hid rfl⟩
      rw [HP.out] at hcv h3
      obtain ⟨f, HF⟩ : ∃ f, Hid (frameHead k s.data.toList = f) := ⟨_, Lib.hid rfl⟩
      obtain ⟨c, HC⟩ : ∃ c : Nat, Hid (crcSum 0 f = c) := ⟨_, Lib.hid rfl⟩
      have hc : c < 4294967296 := by rw [← HC.out]; exact crcSum_lt _ _
      obtain ⟨q, HQ⟩ : ∃ q, Hid (enc 4 c = q) := ⟨_, Lib.hid rfl⟩
      rw [HF.out] at h3
      have hfq : frameOf k s.data.toList = f ++ q := by rw [← HQ.out, ← HC.out, ← HF.out]; rfl
      have hfl : f.length = s.size + 3 := by rw [← HF.out, frameHead_length, list_length]
      have hql : q.length = 4 := by rw [← HQ.out, enc_length]
      have HCat : Hid (str p ++ s = str f) := Lib.hid (by rw [str_cat_of, h3])
      have HEnd : Hid (str f ++ str q = str (frameOf k s.data.toList)) := Lib.hid (by rw [str_cat, hfq])
      have hz1 : ¬ 9223372036854775807 < (str p).size + s.size := by
        have := congrArg List.length h3
        rw [List.length_append, list_length] at this
        rw [str_size]
        omega
      have hz2 : ¬ 9223372036854775807 < (str f).size + (str q).size := by
        rw [str_size, str_size]
        omega
      have hz3 : (str f).size ≤ 9223372036854775806 := by rw [str_size]; omega
      clear h hfq hfl hql h3
      go_enter Try.func51, Try.ntmps51
      go_wp2_with fail
      rw [HCat.out]
      refine (RefOn_any 0 _ _ (by omega) hz3).mono ?_
      rintro e w3 ⟨rfl, rfl⟩
      rw [str_list, HC.out]
      go_wp2_with fail
      refine (Four_any c _ hc).mono ?_
      rintro e w3 ⟨rfl, hb3⟩
      rw [HQ.out]
      go_wp2
      go_ret2
      rw [HEnd.out, HB.out, H.out]
      exact ⟨rfl, below_next ((Below.refl _ _).alloc (Nat.le_refl _) _) hb3⟩

theorem bt_len (s : ByteArray) (h : 2 < s.size) : 256 * PlainAid.bt s 1 + PlainAid.bt s 2 = (frameLen s.data.toList : Int) := by
  rw [← PlainAid.get_bt s 1 (by omega), ← PlainAid.get_bt s 2 h]
  obtain ⟨⟨l⟩⟩ := s
  match l, h with
  | a :: b :: c :: l, h =>
    have e : frameLen (a :: b :: c :: l) = 256 * b.toNat + c.toNat := by simp [frameLen, dec]
    show 256 * (b.toNat : Int) + (c.toNat : Int) = ((frameLen (a :: b :: c :: l) : Nat) : Int)
    rw [e]
    omega
theorem bt_kind (s : ByteArray) (h : 0 < s.size) : PlainAid.bt s 0 = (dec (s.data.toList.take 1) : Int) := by
  rw [← PlainAid.get_bt s 0 h]
  obtain ⟨⟨l⟩⟩ := s
  match l, h with
  | a :: l, h =>
    have e : dec ((a :: l).take 1) = a.toNat := by simp [dec]
    rw [e]
    rfl

/-- A text of the right length ends in its sum just if it is its own parts sealed again. -/
theorem seal_again {l : List UInt8} (h : l.length = 7 + frameLen l) : (frameOf (dec (l.take 1)) ((l.drop 3).take (frameLen l)) = l) ↔ sumRight l = true := by
  obtain ⟨n, hn⟩ : ∃ n, frameLen l = n := ⟨_, rfl⟩
  rw [hn] at h ⊢
  have hbl : ((l.drop 3).take n).length = n := by rw [List.length_take, List.length_drop]; omega
  have hp : l = l.take (n + 3) ++ l.drop (n + 3) := (List.take_append_drop _ _).symm
  have h1 : l.take (n + 3) = frameHead (dec (l.take 1)) ((l.drop 3).take n) := by
    have e1 : enc 1 (dec (l.take 1)) = l.take 1 := by
      have := enc_dec (l.take 1)
      rwa [show (l.take 1).length = 1 from by rw [List.length_take]; omega] at this
    have e2 : enc 2 n = (l.drop 1).take 2 := by
      have := enc_dec ((l.drop 1).take 2)
      rw [show ((l.drop 1).take 2).length = 2 from by rw [List.length_take, List.length_drop]; omega] at this
      rw [← this, ← hn]
      rfl
    unfold frameHead
    rw [hbl, e1, e2, show n + 3 = 1 + (2 + n) from by omega, List.take_add, List.take_add, List.drop_drop]
  have h4 : (l.drop (n + 3)).length = 4 := by rw [List.length_drop]; omega
  have hr : sumRight l = (crcSum 0 (l.take (n + 3)) == dec (l.drop (n + 3))) := by
    conv => lhs; rw [hp]
    exact sumRight_cat h4
  rw [hr, beq_iff_eq]
  unfold frameOf
  rw [← h1]
  constructor
  · intro e
    have e2 : enc 4 (crcSum 0 (l.take (n + 3))) = l.drop (n + 3) := by
      rw [hp] at e
      rw [← hp] at e
      have := List.append_cancel_left (e.trans hp)
      exact this
    rw [← e2, dec_enc_of_lt (show crcSum 0 (l.take (n + 3)) < 256 ^ 4 from crcSum_lt _ _)]
  · intro e
    have e4 := enc_dec (l.drop (n + 3))
    rw [h4] at e4
    rw [e, e4, List.take_append_drop]

theorem extract_three (s : ByteArray) (d : Nat) : s.extract 3 (3 + d) = str ((s.data.toList.drop 3).take d) := by
  rw [← str_of (s.extract 3 (3 + d)), Lib.extract_data, Nat.add_sub_cancel_left]

set_option maxHeartbeats 400000 in
theorem RefOpen_any (s : ByteArray) (w : World) (hs : s.size ≤ maxLen) :
    Calls Try.prog 44 #[.string s] w fun e w' => e = .returned (.tuple #[.int .i64 (openK s.data.toList), .string (str (openB s.data.toList)), .int .i64 (openE s.data.toList)]) ∧ Below w.heap.size w w' := by
  unfold maxLen at hs
  by_cases h : s.size < 7
  · have H := Lib.hid (openE_short (l := s.data.toList) (by rw [list_length]; exact h))
    go_enter Try.func44, Try.ntmps44
    go_wp2
    go_ret3
    rw [openK_no (by rw [H.out]; omega), openB_no (by rw [H.out]; omega), H.out]
    exact ⟨rfl, Below.refl _ _⟩
  · have H := Lib.hid (openE_long (l := s.data.toList) (by rw [list_length]; exact h))
    have h0 : 0 < s.size := by omega
    have h1 : 1 < s.size := by omega
    have h2 : 2 < s.size := by omega
    have b1 := PlainAid.bt_nonneg s 1
    have b2 := PlainAid.bt_nonneg s 2
    have c1 := PlainAid.bt_le s 1
    have c2 := PlainAid.bt_le s 2
    have hbt := PlainAid.get_bt s
    have h7 : (7 : Int) ≤ s.size := by omega
    go_enter Try.func44, Try.ntmps44
    go_wp2
    go_quiet (fail)
    have e := bt_len s h2
    have hk0 := bt_kind s h0
    rw [e]
    have hnb : frameLen s.data.toList ≤ 65535 := by have := dec_take_two (s.data.toList.drop 1); unfold frameLen; omega
    obtain ⟨n, HN⟩ : ∃ n : Nat, Hid (frameLen s.data.toList = n) := ⟨_, Lib.hid rfl⟩
    obtain ⟨k, HK⟩ : ∃ k : Nat, Hid (dec (s.data.toList.take 1) = k) := ⟨_, Lib.hid rfl⟩
    have hk8 : k < 256 := by rw [← HK.out]; exact dec_take_one _
    rw [HN.out] at hnb H e ⊢
    rw [HK.out] at hk0
    clear e b1 b2 c1 c2 h1 h2
    by_cases hbig : 4096 < n
    · have HC := Lib.hid (checkE_big (l := s.data.toList) (n := n) (by omega))
      rw [HC.out] at H
      go_wp2
      go_ret3
      rw [openK_no (by rw [H.out]; omega), openB_no (by rw [H.out]; omega), H.out]
      exact ⟨rfl, below_drewN (Below.refl _ _) _⟩
    · by_cases hsh : s.size - 7 < n
      · have HC := Lib.hid (checkE_short (l := s.data.toList) (n := n) (by omega) (by rw [list_length]; omega))
        rw [HC.out] at H
        have hsh' : (s.size : Int) - 7 < n := by omega
        go_wp2
        go_ret3
        rw [openK_no (by rw [H.out]; omega), openB_no (by rw [H.out]; omega), H.out]
        exact ⟨rfl, below_drewN (Below.refl _ _) _⟩
      · by_cases hmo : n < s.size - 7
        · have HC := Lib.hid (checkE_more (l := s.data.toList) (n := n) (by omega) (by rw [list_length]; omega))
          rw [HC.out] at H
          have hmo' : (n : Int) < (s.size : Int) - 7 := by omega
          go_wp2
          go_ret3
          rw [openK_no (by rw [H.out]; omega), openB_no (by rw [H.out]; omega), H.out]
          exact ⟨rfl, below_drewN (Below.refl _ _) _⟩
        · have HC := Lib.hid (checkE_sum (l := s.data.toList) (n := n) (by omega) (by rw [list_length]; omega))
          rw [HC.out] at H
          have hlen : s.data.toList.length = 7 + frameLen s.data.toList := by rw [list_length, HN.out]; omega
          have HA := Lib.hid (seal_again hlen)
          rw [HN.out, HK.out] at HA
          have hle : 3 + (n : Int) ≤ s.size := by omega
          have hle' : 3 + n ≤ s.size := by omega
          obtain ⟨u, HU⟩ : ∃ u, Hid (s.extract 3 (3 + n) = u) := ⟨_, Lib.hid rfl⟩
          have hus : u.size = n := by rw [← HU.out, ByteArray.size_extract]; omega
          have hum : u.size ≤ maxLen := by unfold maxLen; omega
          have HUL : Hid ((s.data.toList.drop 3).take n = u.data.toList) := Lib.hid (by rw [← HU.out, extract_three, str_list])
          have HS0 := Lib.hid (sealE_ok (kind := (k : Int)) (l := u.data.toList) (by omega) (by rw [list_length]; omega))
          have HSB := Lib.hid (sealB_ok HS0.out)
          rw [HUL.out] at HA
          obtain ⟨t, HT⟩ : ∃ t, Hid (frameOf k u.data.toList = t) := ⟨_, Lib.hid rfl⟩
          rw [HT.out] at HA HSB
          have hi1 : ¬ ((s.size : Int) - 7 < n) := by omega
          have hi2 : ¬ ((n : Int) < (s.size : Int) - 7) := by omega
          have hw1 : IntKind.i64.wrap (3 + (n : Int)) = 3 + (n : Int) := by rw [IntKind.wrap_i64]; omega
          have hw2 : IntKind.i64.wrap (k : Int) = (k : Int) := by rw [IntKind.wrap_i64]; omega
          have hw3 : (3 + (n : Int)).toNat = 3 + n := by omega
          have hw4 : (3 : Int) ≤ 3 + (n : Int) := by omega
          have hw5 : (0 : Int) ≤ 3 + (n : Int) := by omega
          clear hlen hus hsh hmo
          go_wp2_with fail
          go_region_with (go_at_call 51; rw [HU.out]; refine (RefSeal_any k _ _ hum).mono ?_; rintro e w1 ⟨rfl, hb1⟩; rw [HSB.out, HS0.out])
          by_cases hr : sumRight s.data.toList = true
          · have hcmp : ((str t).toList == s.toList) = true := by
              rw [beq_iff_eq, byteArray_toList, byteArray_toList, str_list]
              exact HA.out.2 hr
            rw [if_pos hr] at H
            have HBO := Lib.hid (openB_ok H.out)
            rw [HN.out, HUL.out] at HBO
            go_wp2
            go_quiet (fail)
            go_wp2
            go_ret3
            rw [HBO.out, openK_ok H.out, H.out, HK.out, str_of, ← HU.out]
            exact ⟨rfl, below_drewN (below_next (below_drewN (Below.refl _ _) _) hb1) _⟩
          · have hcmp : ((str t).toList == s.toList) = false := by
              rw [beq_eq_false_iff_ne, ne_eq, byteArray_toList, byteArray_toList, str_list]
              intro e
              exact hr (HA.out.1 e)
            rw [if_neg hr] at H
            go_wp2
            go_ret3
            rw [openK_no (by rw [H.out]; omega), openB_no (by rw [H.out]; omega), H.out]
            exact ⟨rfl, below_next (below_drewN (Below.refl _ _) _) hb1⟩
end Go.Proofs.Ytdhmkcomngbmaaa
