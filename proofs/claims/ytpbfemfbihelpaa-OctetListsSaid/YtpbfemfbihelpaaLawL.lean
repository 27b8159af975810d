/- The walks of the laws OctetLists and OctetKept: each returns true, and changes nothing that was there. -/
import Derived.Test.YtpbfemfbihelpaaJoin
namespace Go.Proofs.Ytpbfemfbihelpaa
open Go.RowKit

set_option maxHeartbeats 800000 in
theorem OctetLists_walk (A : Option Addr) (n c : Nat) (ss : List ByteArray) (w : World) (hss : IsStrs w A n c ss) :
    Calls Try.prog 7 #[.slice A n c] w fun e w' => e = .returned (.bool true) ∧ Below w.heap.size w w' := by
  obtain ⟨xs, hl, hm, hst, hx⟩ := hss.open_
  have HL := Lib.hid hl
  by_cases hsm : small xs 200 262144 = true
  · have hsz : n ≤ 200 ∧ total xs ≤ 262144 := by unfold small at hsm; simp at hsm; omega
    obtain ⟨hn, ht⟩ := hsz
    have HS := Lib.hid hsm
    clear hsm hl
    go_enter Try.func7, Try.ntmps7
    go_wp2_with (first
      | (go_at_call 25; refine (Small_any A c n 200 262144 xs _ HL.out hm (by omega) (by omega) hx hst).mono ?_; rintro e w0 ⟨rfl, rfl⟩; rw [HS.out])
      | (go_at_call 26; refine (List_any A c n xs _ HL.out (by omega) (by omega) hst).mono ?_; rintro e w1 ⟨rfl, hb1⟩; have hst1 := hst.next hb1)
      | (go_at_call 27; refine (RefList_any A c n xs _ HL.out (by omega) (by omega) hst1).mono ?_; rintro e w2 ⟨rfl, hb2⟩)
      | (go_at_call 16; refine (awake_any _).mono ?_; rintro e w3 ⟨rfl, hb3⟩))
    go_ret
    exact ⟨rfl, below_next (below_next hb1 hb2) hb3⟩
  · have HS : Hid (small xs 200 262144 = false) := Lib.hid (by simpa using hsm)
    clear hsm hl
    go_enter Try.func7, Try.ntmps7
    go_wp2_with (first
      | (go_at_call 25; refine (Small_any A c n 200 262144 xs _ HL.out hm (by omega) (by omega) hx hst).mono ?_; rintro e w0 ⟨rfl, rfl⟩; rw [HS.out])
      | (go_at_call 16; refine (awake_any _).mono ?_; rintro e w3 ⟨rfl, hb3⟩))
    go_ret
    exact ⟨rfl, hb3⟩

set_option maxHeartbeats 800000 in
theorem OctetKept_walk (A : Option Addr) (n c : Nat) (ss : List ByteArray) (more : ByteArray) (w : World) (hss : IsStrs w A n c ss) (hmore : more.size ≤ 140737488351232) :
    Calls Try.prog 11 #[.slice A n c, .string more] w fun e w' => e = .returned (.bool true) ∧ Below w.heap.size w w' := by
  obtain ⟨xs, hl, hm, hst, hx⟩ := hss.open_
  have HL := Lib.hid hl
  by_cases hsm : small xs 200 262144 = true
  · have hsz : n ≤ 200 ∧ total xs ≤ 262144 := by unfold small at hsm; simp at hsm; omega
    obtain ⟨hn, ht⟩ := hsz
    have HS := Lib.hid hsm
    clear hsm
    by_cases hf : fits xs = true
    · obtain ⟨h5, h6⟩ := list_ok hf
      have H5 := Lib.hid h5
      have H6 := Lib.hid h6
      obtain ⟨i1, i2, i3⟩ := it_some (items_list xs more.data.toList hf (by omega))
      obtain ⟨t, htd⟩ : ∃ t, t = enc 2 xs.length ++ catTexts xs := ⟨_, rfl⟩
      have htl : t.length ≤ 262700 := by rw [htd, List.length_append, enc_length, catTexts_length]; omega
      rw [← htd] at H6 i1 i2 i3
      have I1 := Lib.hid i1
      have I2 := Lib.hid i2
      have I3 := Lib.hid i3
      have hsz2 : (str (t ++ more.data.toList)).size ≤ maxLen := by rw [str_size, List.length_append, list_length]; unfold maxLen; omega
      have hsum : ¬ 9223372036854775807 < (str t).size + more.size := by rw [str_size]; omega
      clear hf h5 h6 i1 i2 i3 htd hl
      go_enter Try.func11, Try.ntmps11
      go_wp2_with (first
        | (go_at_call 25; refine (Small_any A c n 200 262144 xs _ HL.out hm (by omega) (by omega) hx hst).mono ?_; rintro e w0 ⟨rfl, rfl⟩; rw [HS.out])
        | (go_at_call 26; refine (List_any A c n xs _ HL.out (by omega) (by omega) hst).mono ?_; rintro e w1 ⟨rfl, hb1⟩; rw [H5.out, H6.out]; have hst1 := hst.next hb1))
      rw [str_cat_of]
      refine (Items_any _ _ hsz2).mono ?_
      rintro e w2 ⟨v2, rfl, hown2, hb2⟩
      rw [str_list, I1.out, I3.out, str_of]
      rw [str_list, I2.out] at hown2
      obtain ⟨A2, c2, hv2, _, hst2⟩ := own_strs hown2
      subst hv2
      have hst1' := hst1.next hb2
      have hlen := own_len hown2
      clear hown2 hst1
      go_wp2_with fail
      rw [← HL.out]
      refine (Same_yes _ _ _ _ _ _ xs _ hlen hst1' hst2).mono ?_
      rintro e w3 ⟨rfl, hb3⟩
      go_wp2_with (go_at_call 16; refine (awake_any _).mono ?_; rintro e w4 ⟨rfl, hb4⟩)
      go_ret
      exact ⟨rfl, below_next (below_next (below_next hb1 hb2) hb3) hb4⟩
    · have hf' : fits xs = false := by simpa using hf
      obtain ⟨h5, h6⟩ := list_long hf'
      have H5 := Lib.hid h5
      have H6 := Lib.hid h6
      have hem : (str []).toList.isEmpty = true := by decide +kernel
      clear hf hf' h5 h6 hl
      go_enter Try.func11, Try.ntmps11
      go_wp2_with (first
        | (go_at_call 25; refine (Small_any A c n 200 262144 xs _ HL.out hm (by omega) (by omega) hx hst).mono ?_; rintro e w0 ⟨rfl, rfl⟩; rw [HS.out])
        | (go_at_call 26; refine (List_any A c n xs _ HL.out (by omega) (by omega) hst).mono ?_; rintro e w1 ⟨rfl, hb1⟩; rw [H5.out, H6.out])
        | (go_at_call 16; refine (awake_any _).mono ?_; rintro e w3 ⟨rfl, hb3⟩))
      go_ret
      exact ⟨rfl, below_next hb1 hb3⟩
  · have HS : Hid (small xs 200 262144 = false) := Lib.hid (by simpa using hsm)
    clear hsm hl
    go_enter Try.func11, Try.ntmps11
    go_wp2_with (first
      | (go_at_call 25; refine (Small_any A c n 200 262144 xs _ HL.out hm (by omega) (by omega) hx hst).mono ?_; rintro e w0 ⟨rfl, rfl⟩; rw [HS.out])
      | (go_at_call 16; refine (awake_any _).mono ?_; rintro e w3 ⟨rfl, hb3⟩))
    go_ret
    exact ⟨rfl, hb3⟩

end Go.Proofs.Ytpbfemfbihelpaa
