/- Bitmaps: the walks of DirtyParses and DirtyBytes. -/
import Derived.Test.YtpefhocjnkbklaaDirX
namespace Go.Proofs.Ytpefhocjnkbklaa
open Go.RowKit

set_option maxHeartbeats 2000000 in
set_option maxRecDepth 100000 in
theorem DirtyParses_walk (s : ByteArray) (w : World) (hs : s.size ≤ 140737488351232) :
    Calls Try.prog 8 #[.string s] w fun e w' => e = .returned (.bool true) ∧ Below w.heap.size w w' := by
  have hl : s.data.toList.length ≤ 9223372036854775807 := by rw [list_length]; omega
  have H1 := Lib.hid fun w => Parse_any s.data.toList w hl
  have H2 := Lib.hid fun w => DocParse_any s.data.toList w hl
  have HM : Hid ((parM s.data.toList).length ≤ 9223372036854775807) := Lib.hid (by
    unfold parM
    split
    · rw [parseN_length]
      have := dec_one_lt s.data.toList
      unfold parN
      omega
    · simp)
  rw [str_of] at H1 H2
  generalize parM s.data.toList = M at *
  generalize parE s.data.toList = E at *
  generalize str (parR s.data.toList) = R at *
  have ht : (R.toList == R.toList) = true := by simp
  have hE : (E == E) = true := by simp
  clear hl hs
  go_enter Try.func8, Try.ntmps8
  go_wp2_with fail
  refine (H1.out _).mono ?_
  rintro e w1 ⟨A1, c1, rfl, hA1, hb1⟩
  have HA1 := Lib.hid hA1
  have HB1 := Lib.hid hb1
  clear hA1 hb1
  go_wp2_with fail
  refine (H2.out _).mono ?_
  rintro e w2 ⟨A2, c2, rfl, hA2, hb2⟩
  have HA1' := Lib.hid (HA1.out.next hb2)
  have HA2 := Lib.hid hA2
  have HB2 := Lib.hid (below_next HB1.out hb2)
  clear hA2 hb2 HA1 HB1
  go_wp2_with fail
  refine (DocEqual_any HA1'.out HA2.out HM.out).mono ?_
  rw [eqBt_self]
  rintro e w3 ⟨rfl, hb3⟩
  have HB3 := Lib.hid (below_next HB2.out hb3)
  clear hb3
  go_wp2_with fail
  refine (awake10_any _).mono ?_
  rintro e w4 ⟨rfl, hb4⟩
  have HB4 := Lib.hid (below_next HB3.out hb4)
  clear hb4
  go_wp2_with fail
  go_ret
  exact ⟨rfl, HB4.out⟩

set_option maxHeartbeats 2000000 in
set_option maxRecDepth 100000 in
theorem DirtyBytes_walk {w : World} {A : Option Addr} {c : Nat} {m : List Bt} (h : BtsAt w w.heap.size A m) (hf : BtsFit m) (s : ByteArray) (hs : s.size ≤ 140737488351232) :
    Calls Try.prog 7 #[.slice A m.length c, .string s] w fun e w' => e = .returned (.bool true) ∧ Below w.heap.size w w' := by
  have HV := Lib.hid h
  have HF := Lib.hid hf
  have hl := hf.1
  clear h hf
  by_cases h300 : 300 < m.length
  · have hd : decide ((300 : Int) < (m.length : Int)) = true := by rw [decide_eq_true_iff]; omega
    go_enter Try.func7, Try.ntmps7
    go_wp2_with fail
    refine (awake10_any _).mono ?_
    rintro e w4 ⟨rfl, hb4⟩
    replace hb4 := Lib.hid hb4
    go_wp2_with fail
    go_ret
    exact ⟨rfl, hb4.out⟩
  · have hd : decide ((300 : Int) < (m.length : Int)) = false := by rw [decide_eq_false_iff_not]; omega
    cases hr : bitsOk m with
    | false =>
      have H1 : Hid (∀ c, Calls Try.prog 32 #[.slice A m.length c] w fun e w' => e = .returned (.tuple #[.string ⟨#[]⟩, .int .i64 1]) ∧ Below w.heap.size w w') := Lib.hid fun c => Bytes_not HV.out HF.out hr
      have H2 : Hid (∀ c w1, Below w.heap.size w w1 → Calls Try.prog 11 #[.slice A m.length c] w1 fun e w' => e = .returned (.bool false) ∧ Below w.heap.size w w') := Lib.hid fun c w1 h => by
        refine (DocRight_any (HV.out.next h) HF.out.1).mono ?_; rw [hr]; exact fun _ _ h3 => ⟨h3.1, below_next h h3.2⟩
      clear hr
      go_enter Try.func7, Try.ntmps7
      go_wp2_with fail
      refine (H1.out _).mono ?_
      rintro e w1 ⟨rfl, hb1⟩
      replace hb1 := Lib.hid hb1
      go_wp2_with fail
      refine (H2.out _ _ hb1.out).mono ?_
      rintro e w2 ⟨rfl, hb2⟩
      replace hb2 := Lib.hid hb2
      go_wp2_with fail
      refine (awake10_any _).mono ?_
      rintro e w4 ⟨rfl, hb4⟩
      have HB4 := Lib.hid (below_next hb2.out hb4)
      clear hb4
      go_wp2_with fail
      go_ret
      exact ⟨rfl, HB4.out⟩
    | true =>
      have hp : ∀ b ∈ m, 0 ≤ b.mask := fun b hb => (HF.out.2 b hb).1
      have h255 := bitsOk_length hr
      have hbl : (bytM m).length ≤ 1300 := by unfold bytM; rw [List.length_append, enc_length, eltsB_length]; omega
      have H1 : Hid (∀ c, Calls Try.prog 32 #[.slice A m.length c] w fun e w' => e = .returned (.tuple #[.string (str (bytM m)), .int .i64 0]) ∧ Below w.heap.size w w') := Lib.hid fun c => Bytes_ok HV.out HF.out hr
      have H2 : Hid (∀ c w1, Below w.heap.size w w1 → Calls Try.prog 11 #[.slice A m.length c] w1 fun e w' => e = .returned (.bool true) ∧ Below w.heap.size w w') := Lib.hid fun c w1 h => by
        refine (DocRight_any (HV.out.next h) HF.out.1).mono ?_; rw [hr]; exact fun _ _ h3 => ⟨h3.1, below_next h h3.2⟩
      have H3 : Hid (∀ w1, Calls Try.prog 33 #[.string (str (bytM m) ++ s)] w1 fun e w' => ∃ A c, e = .returned (.tuple #[.slice A m.length c, .string s, .int .i64 0]) ∧ BtsAt w' w'.heap.size A m ∧ Below w1.heap.size w1 w') := Lib.hid fun w1 => by
        obtain ⟨e1, e2, e3⟩ := parse_bytes hr hp s.data.toList
        have := Parse_any (bytM m ++ s.data.toList) w1 (by rw [List.length_append, list_length]; omega)
        rw [e1, e2, e3, str_of, ← str_cat_of] at this
        exact this
      have H4 : Hid (∀ c w1, Below w.heap.size w w1 → Calls Try.prog 34 #[.slice A m.length c] w1 fun e w' => e = .returned (.string (str (bytM m))) ∧ Below w1.heap.size w1 w') := Lib.hid fun c w1 h => DocBytes_any (HV.out.next h) HF.out hr
      have HEq : Hid (∀ w1 w2 A3 c3, BtsAt w1 w1.heap.size A3 m → Below w.heap.size w w1 → Below w1.heap.size w1 w2 → Calls Try.prog 18 #[.slice A3 m.length c3, .slice A m.length c] w2 fun e w' => e = .returned (.bool true) ∧ Below w2.heap.size w2 w') := Lib.hid fun w1 w2 A3 c3 h1 h2 h3 => by
        refine (DocEqual_any (h1.next h3) (HV.out.next (below_next h2 h3)) hl).mono ?_
        rw [eqBt_self]
        exact fun _ _ h => h
      have hsz : (str (bytM m)).size ≤ 1300 := by rw [str_size]; exact hbl
      generalize str (bytM m) = B at *
      have hsum : ¬ 9223372036854775807 < B.size + s.size := by omega
      have ht1 : (B.toList == B.toList) = true := by simp
      have ht2 : (s.toList == s.toList) = true := by simp
      clear hr hp h255 hbl hsz
      go_enter Try.func7, Try.ntmps7
      go_wp2_with fail
      refine (H1.out _).mono ?_
      rintro e w1 ⟨rfl, hb1⟩
      replace hb1 := Lib.hid hb1
      go_wp2_with fail
      refine (H2.out _ _ hb1.out).mono ?_
      rintro e w2 ⟨rfl, hb2⟩
      replace hb2 := Lib.hid hb2
      go_wp2_with fail
      refine (H3.out _).mono ?_
      rintro e w3 ⟨A3, c3, rfl, hA3, hb3⟩
      have HB3 := Lib.hid (below_next hb2.out hb3)
      have HA3 := Lib.hid hA3
      clear hb3 hA3
      go_wp2_with fail
      refine (H4.out _ _ HB3.out).mono ?_
      rintro e w4 ⟨rfl, hb4⟩
      have HEq4 := Lib.hid (fun c3 => HEq.out w3 w4 A3 c3 HA3.out HB3.out hb4)
      have HB4 := Lib.hid (below_next HB3.out hb4)
      clear hb4 HA3 HEq
      go_wp2_with fail
      refine (HEq4.out _).mono ?_
      rintro e w5 ⟨rfl, hb5⟩
      have HB5 := Lib.hid (below_next HB4.out hb5)
      clear hb5
      go_wp2_with fail
      refine (awake10_any _).mono ?_
      rintro e w6 ⟨rfl, hb6⟩
      have HB6 := Lib.hid (below_next HB5.out hb6)
      clear hb6
      go_wp2_with fail
      go_ret
      exact ⟨rfl, HB6.out⟩
end Go.Proofs.Ytpefhocjnkbklaa
