/- Contracts of the inner functions of the package seg: count, seal, open; of the document's two. -/
import Derived.Test.YtlncedjgpndlpaaSegP
import Derived.Test.YtlncedjgpndlpaaRef
import Derived.Test.YtlncedjgpndlpaaBack
namespace Go.Proofs.Ytlncedjgpndlpaa
open Go.RowKit

set_option maxHeartbeats 400000 in
theorem count_any (size n : Nat) (w : World) (h1 : 1 ≤ n) (h2 : n ≤ 508) (hs : size ≤ 281474976710656) :
    Calls Try.prog 16 #[.int .i64 size, .int .i64 n] w fun e w' => e = .returned (.int .i64 (cntN size n)) ∧ w = w' := by
  obtain ⟨q, hq⟩ : ∃ q, q = (size + n - 1) / n := ⟨_, rfl⟩
  have hqi : ((size : Int) + (n : Int) - 1) / (n : Int) = (q : Int) := by
    rw [hq, show ((size : Int) + (n : Int) - 1) = ((size + n - 1 : Nat) : Int) from by omega]; exact (Int.natCast_ediv _ _).symm
  have hql : q ≤ 281474976711164 := by rw [hq]; exact Nat.le_trans (Nat.div_le_self _ _) (by omega)
  have HC : Hid (cntN size n = max 1 q) := Lib.hid (by rw [hq]; rfl)
  clear hq
  by_cases hq1 : 1 < q
  · have HD : Hid (cntN size n = q) := Lib.hid (by rw [HC.out]; omega)
    clear HC
    go_enter Try.func16, Try.ntmps16
    go_wp2
    go_ret
    rw [HD.out]
    exact ⟨rfl, rfl⟩
  · have HD : Hid (cntN size n = 1) := Lib.hid (by rw [HC.out]; omega)
    clear HC
    go_enter Try.func16, Try.ntmps16
    go_wp2
    go_ret
    rw [HD.out]
    exact ⟨rfl, rfl⟩

theorem put_two {i : Nat} (h : i < 65536) : putE (i : Int) 2 = 0 ∧ putB (i : Int) 2 = enc 2 i := by
  have h1 := putE_ok (n := i) (k := 2) (by omega) (by omega) (by omega)
  exact ⟨h1, putB_ok (n := i) (k := 2) h1⟩

set_option maxHeartbeats 400000 in
theorem seal_any (i of : Nat) (s : ByteArray) (w : World) (hi : i < 65536) (ho : of < 65536) (hs : s.size ≤ 281474976710656) :
    Calls Try.prog 17 #[.int .i64 i, .int .i64 of, .string s] w fun e w' => e = .returned (.string (str (enc 2 i ++ enc 2 of ++ s.data.toList))) ∧ Below w.heap.size w w' := by
  obtain ⟨a1, a2⟩ := put_two hi
  obtain ⟨b1, b2⟩ := put_two ho
  have A1 := Lib.hid a1
  have A2 := Lib.hid a2
  have B1 := Lib.hid b1
  have B2 := Lib.hid b2
  clear a1 a2 b1 b2
  have hs1 : ¬ 9223372036854775807 < (str (enc 2 i)).size + (str (enc 2 of)).size := by rw [str_size, str_size, enc_length, enc_length]; omega
  have hs2 : ¬ 9223372036854775807 < (str (enc 2 i) ++ str (enc 2 of)).size + s.size := by rw [str_cat, str_size, List.length_append, enc_length, enc_length]; omega
  have HE : Hid (str (enc 2 i) ++ str (enc 2 of) ++ s = str (enc 2 i ++ enc 2 of ++ s.data.toList)) := Lib.hid (by rw [str_cat, str_cat_of])
  generalize str (enc 2 i ++ enc 2 of ++ s.data.toList) = R at HE ⊢
  have HA : Hid (∀ W : World, Calls Try.prog 22 #[.int .i64 i, .int .i64 2] W fun e w' => e = .returned (.tuple #[.string (str (enc 2 i)), .int .i64 0]) ∧ Below W.heap.size W w') := Lib.hid (fun W => by
    have := Put_any i 2 W (by omega)
    rwa [A1.out, A2.out] at this)
  have HB : Hid (∀ W : World, Calls Try.prog 22 #[.int .i64 of, .int .i64 2] W fun e w' => e = .returned (.tuple #[.string (str (enc 2 of)), .int .i64 0]) ∧ Below W.heap.size W w') := Lib.hid (fun W => by
    have := Put_any of 2 W (by omega)
    rwa [B1.out, B2.out] at this)
  clear A1 A2 B1 B2
  generalize str (enc 2 i) = a at hs1 hs2 HE HA
  generalize str (enc 2 of) = b at hs1 hs2 HE HB
  go_enter Try.func17, Try.ntmps17
  go_wp2_with fail
  refine (HA.out _).mono ?_
  rintro e w1 ⟨rfl, hb1⟩
  go_wp2_with fail
  refine (HB.out _).mono ?_
  rintro e w2 ⟨rfl, hb2⟩
  go_wp2
  go_ret
  rw [HE.out]
  exact ⟨rfl, below_next hb1 hb2⟩

/-- A number of two bytes off a text of at least two. -/
theorem num_two {l : List UInt8} (h : 2 ≤ l.length) : numE l 2 = 0 ∧ numN l 2 = (dec (l.take 2) : Int) ∧ numR l 2 = l.drop 2 := by
  have hd := dec_take_two l
  have HE : numE l ((2 : Nat) : Int) = 0 := (numE_get (l := l) (k := 2) (by omega) (by omega) (by omega)).trans (getE_ok (by rw [List.length_take]; omega) (by rw [List.length_take]; omega) (by omega))
  exact ⟨HE, numN_ok (k := 2) HE, numR_ok (k := 2) HE⟩

set_option maxHeartbeats 400000 in
theorem open_any (s : ByteArray) (w : World) (hs : s.size ≤ 281474976710656) :
    Calls Try.prog 19 #[.string s] w fun e w' => e = .returned (.tuple #[.int .i64 (opI s.data.toList), .int .i64 (opN s.data.toList), .string (str (opP s.data.toList)), .int .i64 (opE s.data.toList)]) ∧ Below w.heap.size w w' := by
  by_cases h : s.size < 4
  · have e := opE_short (p := s.data.toList) (by rw [list_length]; exact h)
    obtain ⟨e1, e2, e3⟩ := op_no (p := s.data.toList) (by rw [e]; omega)
    rw [e, e1, e2, e3]
    clear e e1 e2 e3
    go_enter Try.func19, Try.ntmps19
    go_wp2
    exact bodyPost_ret (v := .tuple #[.int .i64 0, .int .i64 0, .string ⟨#[]⟩, .int .i64 2]) (by simp [results, Try.results19, go_sem]) rfl ⟨rfl, Below.refl _ _⟩
  · obtain ⟨a1, a2, a3⟩ := num_two (l := s.data.toList) (by rw [list_length]; omega)
    obtain ⟨b1, b2, b3⟩ := num_two (l := s.data.toList.drop 2) (by rw [List.length_drop, list_length]; omega)
    have hsm : s.size ≤ maxLen := by unfold maxLen; omega
    have HA : Hid (∀ W : World, Calls Try.prog 23 #[.string s, .int .i64 2] W fun e w' => e = .returned (.tuple #[.int .i64 (fIdx s.data.toList : Int), .string (str (s.data.toList.drop 2)), .int .i64 0]) ∧ Below W.heap.size W w') := Lib.hid (fun W => by
      have := Number_any s 2 W hsm
      rwa [a1, a2, a3] at this)
    have HB : Hid (∀ W : World, Calls Try.prog 23 #[.string (str (s.data.toList.drop 2)), .int .i64 2] W fun e w' => e = .returned (.tuple #[.int .i64 (fCnt s.data.toList : Int), .string (str (fPart s.data.toList)), .int .i64 0]) ∧ Below W.heap.size W w') := Lib.hid (fun W => by
      have := Number_any (str (s.data.toList.drop 2)) 2 W (by rw [str_size, List.length_drop, list_length]; omega)
      rw [str_list, b1, b2, b3, List.drop_drop] at this
      exact this)
    have hi := fIdx_lt s.data.toList
    have ho := fCnt_lt s.data.toList
    clear a1 a2 a3 b1 b2 b3
    generalize str (s.data.toList.drop 2) = r at HA HB
    by_cases hf : fCnt s.data.toList ≤ fIdx s.data.toList
    · have e := opE_form (p := s.data.toList) (by rw [list_length]; omega) hf
      obtain ⟨e1, e2, e3⟩ := op_no (p := s.data.toList) (by rw [e]; omega)
      rw [e, e1, e2, e3]
      clear e e1 e2 e3
      generalize fIdx s.data.toList = i at *
      generalize fCnt s.data.toList = of at *
      generalize str (fPart s.data.toList) = p at *
      go_enter Try.func19, Try.ntmps19
      go_wp2_with fail
      refine (HA.out _).mono ?_
      rintro e w1 ⟨rfl, hb1⟩
      go_wp2_with fail
      refine (HB.out _).mono ?_
      rintro e w2 ⟨rfl, hb2⟩
      go_wp2
      exact bodyPost_ret (v := .tuple #[.int .i64 0, .int .i64 0, .string ⟨#[]⟩, .int .i64 3]) (by simp [results, Try.results19, go_sem]) rfl ⟨rfl, below_next hb1 hb2⟩
    · have e := opE_ok (p := s.data.toList) (by rw [list_length]; omega) (by omega)
      obtain ⟨e1, e2, e3⟩ := op_yes (p := s.data.toList) e
      rw [e, e1, e2, e3]
      clear e e1 e2 e3
      generalize fIdx s.data.toList = i at *
      generalize fCnt s.data.toList = of at *
      generalize str (fPart s.data.toList) = p at *
      go_enter Try.func19, Try.ntmps19
      go_wp2_with fail
      refine (HA.out _).mono ?_
      rintro e w1 ⟨rfl, hb1⟩
      go_wp2_with fail
      refine (HB.out _).mono ?_
      rintro e w2 ⟨rfl, hb2⟩
      go_wp2
      exact bodyPost_ret (v := .tuple #[.int .i64 i, .int .i64 of, .string p, .int .i64 0]) (by simp [results, Try.results19, go_sem]) rfl ⟨rfl, below_next hb1 hb2⟩

set_option maxHeartbeats 400000 in
theorem two_any (n : Nat) (w : World) (hn : n < 65536) :
    Calls Try.prog 18 #[.int .i64 n] w fun e w' => e = .returned (.string (str (enc 2 n))) ∧ Below w.heap.size w w' := by
  have hcv := conv_two w (n / 256) (n % 256) (by omega) (by omega)
  rw [show ((n % 256 : Nat) : Int) = (n : Int) % 256 from by omega, show ((n / 256 : Nat) : Int) = (n : Int) / 256 from by omega, two_bytes] at hcv
  go_enter Try.func18, Try.ntmps18
  go_wp2
  go_ret
  exact ⟨rfl, (Below.refl _ _).alloc (Nat.le_refl _) _⟩
end Go.Proofs.Ytlncedjgpndlpaa
