/- Contracts of octet.join and octet.List, of the document's answer for lists, and of the bound Small. -/
import Derived.Test.YtpbfemfbihelpaaItems
import Derived.Test.YtpbfemfbihelpaaShelf
namespace Go.Proofs.Ytpbfemfbihelpaa
open Go.RowKit

theorem builder_below {T e : TypeId} {B b : Nat} {p : Value} {bs : List Value} {w w' : World} (h : Lib.BuilderAt T e B b p bs w) (hb : Below w.heap.size w w') : Lib.BuilderAt T e B b p bs w' := by
  have hlt := h.lt
  obtain ⟨hB, v, hk, hown, hne⟩ := h
  exact ⟨hB, v, (hb.block b hlt).trans hk, own_below hown hb, hne⟩

theorem cells_cat (l m : List UInt8) : Lib.byteCells l ++ Lib.strCells (str m) = Lib.byteCells (l ++ m) := by rw [Lib.byteCells_append]; rfl

set_option maxHeartbeats 800000 in
theorem join_any (A : Option Addr) (c n : Nat) (size : Nat) (xs : List (List UInt8)) (w : World) (hl : xs.length = n) (hn : n ≤ 65535) (hsz : size ≤ 281474976710656) (ht : total xs ≤ 1073741824) (h : Strs w w.heap.size A xs) :
    Calls Try.prog 34 #[.slice A n c, .int .i64 size] w fun e w' => e = .returned (.string (str (enc 2 n ++ catTexts xs))) ∧ Below w.heap.size w w' := by
  have HL := Lib.hid hl
  clear hl
  have hnew : (w.alloc (.cells #[.pointer none, .slice none 0 0] 67)).heap[w.heap.size]? = some (.cells #[.pointer none, .slice none 0 0] 67 (0, 0)) := heap_alloc_new w _
  have Hnew := Lib.hid hnew
  clear hnew
  go_enter Try.func34, Try.ntmps34
  go_wp2_with fail
  refine (Try.Builder_Grow_fresh w.heap.size w.heap.size size _ (Nat.le_refl _) Hnew.out (by simp) hsz).mono ?_
  rintro e w1 ⟨rfl, hb1, hbel1⟩
  have hBel1 : Below w.heap.size w w1 := ((Below.refl _ _).alloc (Nat.le_refl _) _).trans hbel1
  clear hbel1 Hnew
  go_wp2_with fail
  refine (encode_any n 2 _ (by omega) (by omega) (by omega)).mono ?_
  rintro e w2 ⟨rfl, hbel2⟩
  have hb2 := builder_below hb1 hbel2
  have hBel2 := below_next hBel1 hbel2
  clear hb1 hbel2 hBel1
  go_wp2_with fail
  refine (Try.Builder_WriteString w.heap.size w.heap.size [] (str (enc 2 n)) _ (.inr hb2) (by rw [str_size, enc_length]; simp) hBel2.size).mono ?_
  rintro e w3 ⟨rfl, hb3, hbel3⟩
  have hBel3 := hBel2.trans hbel3
  rw [show ([] : List Value) = Lib.byteCells [] from rfl, cells_cat, List.nil_append] at hb3
  clear hb2 hbel3 hBel2
  go_wp2
  go_loopw [16] (fun i wr => ∃ k : Nat, k ≤ n ∧ i = .int .i64 k ∧ Lib.BuilderAt 67 5 w.heap.size w.heap.size (.pointer (some ⟨w.heap.size, 0, none⟩)) (Lib.byteCells (enc 2 n ++ catTexts (xs.take k))) wr ∧ Below w.heap.size w wr) (fun i _ => n - (intOf i).toNat)
  case atStart => exact ⟨0, by omega, rfl, by simpa [catTexts] using hb3, hBel3⟩
  case round =>
    obtain ⟨k, hk, rfl, hb, hbel⟩ := hrel
    by_cases hlt : k < n
    · have hkl : k < xs.length := by rw [HL.out]; exact hlt
      obtain ⟨xb, xo, rfl, hxb, hc⟩ := (h.below hbel).at_ hkl
      have hxt : xs[k].length ≤ total xs := length_le_total (List.getElem_mem hkl)
      have hct : (catTexts (xs.take k)).length ≤ 2 * n + 1073741824 := by
        have := total_take_le xs k
        rw [catTexts_length, List.length_take]; omega
      have HS : Hid (catTexts (xs.take (k + 1)) = catTexts (xs.take k) ++ (enc 2 xs[k].length ++ xs[k])) := Lib.hid (by rw [List.take_succ_eq_append_getElem hkl, catTexts_snoc])
      generalize xs[k] = x at hc hxt HS
      have hi0 : (0 : Int) ≤ (k : Int) := by omega
      have hi1 : (k : Int) < (n : Int) := by omega
      unfold txt at hc
      have hxs : (str x).size = x.length := str_size x
      have Hxs := Lib.hid hxs
      clear hxs hkl
      have hdl : (enc 2 n ++ catTexts (xs.take k)).length ≤ 1073873000 := by rw [List.length_append, enc_length]; omega
      have HS2 : Hid (enc 2 n ++ catTexts (xs.take (k + 1)) = (enc 2 n ++ catTexts (xs.take k)) ++ enc 2 x.length ++ x) := Lib.hid (by rw [HS.out]; simp)
      clear HS hct
      generalize enc 2 n ++ catTexts (xs.take k) = done at hb hdl HS2
      go_wp2_with fail
      refine (encode_any (str x).size 2 _ (by rw [Hxs.out]; omega) (by omega) (by omega)).mono ?_
      rintro e w4 ⟨rfl, hbel4⟩
      rw [Hxs.out]
      have hb4 := builder_below hb hbel4
      have hBel4 := below_next hbel hbel4
      go_wp2_with fail
      refine (Try.Builder_WriteString w.heap.size w.heap.size _ (str (enc 2 x.length)) _ (.inr hb4) ?_ hBel4.size).mono ?_
      · rw [Lib.byteCells_length, str_size, enc_length]; omega
      rintro e w5 ⟨rfl, hb5, hbel5⟩
      rw [cells_cat] at hb5
      have hBel5 := hBel4.trans hbel5
      go_wp2_with fail
      refine (Try.Builder_WriteString w.heap.size w.heap.size _ (str x) _ (.inr hb5) ?_ hBel5.size).mono ?_
      · rw [Lib.byteCells_length, List.length_append, enc_length, Hxs.out]; omega
      rintro e w6 ⟨rfl, hb6, hbel6⟩
      rw [cells_cat] at hb6
      have hBel6 := hBel5.trans hbel6
      clear hb hb4 hb5 hbel4 hbel5 hbel6 hBel4 hBel5 hbel hc
      go_wp2
      go_roundw
      case rel => exact ⟨k + 1, by omega, by go_num, by rw [HS2.out]; exact hb6, hBel6⟩
      case measure => simp [intOf]; omega
    · have Hk : Hid (xs.take k = xs) := Lib.hid (List.take_of_length_le (by rw [HL.out]; omega))
      go_wp2_with fail
      refine (Try.Builder_String_any w.heap.size w.heap.size _ _ (.inr hb) hbel.size).mono ?_
      rintro e w4 ⟨rfl, hbel4⟩
      go_wp2
      go_ret
      rw [Hk.out]
      exact ⟨rfl, hbel.trans hbel4⟩

set_option maxHeartbeats 800000 in
theorem List_any (A : Option Addr) (c n : Nat) (xs : List (List UInt8)) (w : World) (hl : xs.length = n) (hn : n ≤ 65535) (ht : total xs ≤ 1073741824) (h : Strs w w.heap.size A xs) :
    Calls Try.prog 26 #[.slice A n c] w fun e w' => e = .returned (.tuple #[.string (str (listB xs)), .int .i64 (listE xs)]) ∧ Below w.heap.size w w' := by
  have HL := Lib.hid hl
  clear hl
  go_enter Try.func26, Try.ntmps26
  go_wp2
  go_loop [4, 12] (fun sz i => ∃ k z : Nat, k ≤ n ∧ i = .int .i64 k ∧ sz = .int .i64 z ∧ z ≤ 2 + 2 * k + 1073741824 ∧ Hid (z = 2 + 2 * k + total (xs.take k)) ∧ Hid (fits (xs.take k) = true)) (fun _ i => n - (intOf i).toNat)
  case atStart => exact ⟨0, 2, by omega, rfl, rfl, by omega, Lib.hid (by simp [total]), Lib.hid (by simp [fits])⟩
  case round =>
    obtain ⟨k, z, hk, rfl, rfl, hz, HZ, HF⟩ := hrel
    by_cases hlt : k < n
    · have hkl : k < xs.length := by rw [HL.out]; exact hlt
      obtain ⟨xb, xo, rfl, hxb, hc⟩ := h.at_ hkl
      have hxt : xs[k].length ≤ total xs := length_le_total (List.getElem_mem hkl)
      have HT := Lib.hid (total_take hkl)
      have HFs := Lib.hid (fits_take hkl)
      have HFn : Hid (65535 < xs[k].length → fits xs = false) := Lib.hid (fits_not hkl)
      have hle := total_take_le xs (k + 1)
      generalize xs[k] = x at hc hxt HT HFs HFn
      have hi0 : (0 : Int) ≤ (k : Int) := by omega
      have hi1 : (k : Int) < (n : Int) := by omega
      unfold txt at hc
      have hxs : (str x).size = x.length := str_size x
      have Hxs := Lib.hid hxs
      by_cases hbig : 65535 < x.length
      · have hb : 65535 < (str x).size := by omega
        obtain ⟨h5, h6⟩ := list_long (HFn.out hbig)
        have H5 := Lib.hid h5
        have H6 := Lib.hid h6
        clear hxs hkl hbig h5 h6 hle
        go_wp2
        go_ret2
        rw [H5.out, H6.out]
        exact ⟨rfl, Below.refl _ _⟩
      · have hb : (str x).size ≤ 65535 := by omega
        have hz2 : z + (2 + x.length) ≤ 2 + 2 * (k + 1) + 1073741824 := by rw [HZ.out]; rw [HT.out] at hle; omega
        have HZ2 : Hid (z + (2 + (str x).size) = 2 + 2 * (k + 1) + total (xs.take (k + 1))) := Lib.hid (by rw [HZ.out, HT.out, Hxs.out]; omega)
        have HF2 : Hid (fits (xs.take (k + 1)) = true) := Lib.hid (by rw [HFs.out, HF.out]; simp; omega)
        have hz3 : z + (2 + (str x).size) ≤ 2 + 2 * (k + 1) + 1073741824 := by omega
        clear hxs hkl hbig hle hz2
        go_wp2
        go_round
        case rel => exact ⟨k + 1, z + (2 + (str x).size), by omega, by go_num, by go_num, hz3, HZ2, HF2⟩
        case measure => simp [intOf]; omega
    · have Hk : Hid (xs.take k = xs) := Lib.hid (List.take_of_length_le (by rw [HL.out]; omega))
      have hfit : fits xs = true := by have := HF.out; rwa [Hk.out] at this
      obtain ⟨h5, h6⟩ := list_ok hfit
      have H5 := Lib.hid h5
      have H6 := Lib.hid h6
      have hl2 := HL.out
      rw [hl2] at H6
      have HL2 := Lib.hid hl2
      clear h5 h6 hfit hl2
      go_wp2_with (go_at_call 34; refine (join_any A c n z xs _ HL2.out hn (by omega) ht h).mono ?_; rintro e w1 ⟨rfl, hb1⟩)
      go_ret2
      rw [H5.out, H6.out]
      exact ⟨rfl, hb1⟩

set_option maxHeartbeats 800000 in
theorem RefList_any (A : Option Addr) (c n : Nat) (xs : List (List UInt8)) (w : World) (hl : xs.length = n) (hn : n ≤ 65535) (ht : total xs ≤ 1073741824) (h : Strs w w.heap.size A xs) :
    Calls Try.prog 27 #[.slice A n c] w fun e w' => e = .returned (.tuple #[.string (str (listB xs)), .int .i64 (listE xs)]) ∧ Below w.heap.size w w' := by
  have HL := Lib.hid hl
  clear hl
  have hcv := conv_two w (n / 256) (n % 256) (by omega) (by omega)
  rw [show ((n % 256 : Nat) : Int) = (n : Int) % 256 from by omega, show ((n / 256 : Nat) : Int) = (n : Int) / 256 from by omega, two_bytes] at hcv
  go_enter Try.func27, Try.ntmps27
  go_wp2
  clear hcv
  go_loopw [4, 5] (fun s i wr => ∃ k : Nat, k ≤ n ∧ i = .int .i64 k ∧ s = .string (str (enc 2 n ++ catTexts (xs.take k))) ∧ Hid (fits (xs.take k) = true) ∧ Below w.heap.size w wr) (fun _ i _ => n - (intOf i).toNat)
  case atStart => exact ⟨0, by omega, rfl, by simp [catTexts], Lib.hid (by simp [fits]), (Below.refl _ _).alloc (Nat.le_refl _) _⟩
  case round =>
    obtain ⟨k, hk, rfl, rfl, HF, hbel⟩ := hrel
    by_cases hlt : k < n
    · have hkl : k < xs.length := by rw [HL.out]; exact hlt
      obtain ⟨xb, xo, rfl, hxb, hc⟩ := (h.below hbel).at_ hkl
      have hxt : xs[k].length ≤ total xs := length_le_total (List.getElem_mem hkl)
      have hct : (catTexts (xs.take k)).length ≤ 2 * n + 1073741824 := by
        have := total_take_le xs k
        rw [catTexts_length, List.length_take]; omega
      have HS : Hid (catTexts (xs.take (k + 1)) = catTexts (xs.take k) ++ (enc 2 xs[k].length ++ xs[k])) := Lib.hid (by rw [List.take_succ_eq_append_getElem hkl, catTexts_snoc])
      have HFs := Lib.hid (fits_take hkl)
      have HFn : Hid (65535 < xs[k].length → fits xs = false) := Lib.hid (fits_not hkl)
      generalize xs[k] = x at hc hxt HS HFs HFn
      have hdl : (enc 2 n ++ catTexts (xs.take k)).length ≤ 1073873000 := by rw [List.length_append, enc_length]; omega
      have HS2 : Hid (enc 2 n ++ catTexts (xs.take (k + 1)) = (enc 2 n ++ catTexts (xs.take k)) ++ (enc 2 x.length ++ x)) := Lib.hid (by rw [HS.out]; simp)
      clear HS hct
      have hi0 : (0 : Int) ≤ (k : Int) := by omega
      have hi1 : (k : Int) < (n : Int) := by omega
      unfold txt at hc
      have hsx : (str x).size ≤ maxLen := by rw [str_size]; unfold maxLen; omega
      by_cases hbig : 65535 < x.length
      · obtain ⟨h5, h6⟩ := list_long (HFn.out hbig)
        have H5 := Lib.hid h5
        have H6 := Lib.hid h6
        have HE := Lib.hid (textE_long (l := x) hbig)
        clear hkl hbig h5 h6
        go_wp2_with (go_at_call 22; refine (RefText_any _ _ hsx).mono ?_; rintro e w2 ⟨rfl, hb2⟩; rw [str_list, HE.out])
        go_ret2
        rw [H5.out, H6.out]
        exact ⟨rfl, below_next hbel hb2⟩
      · have HE := Lib.hid (textE_ok (l := x) hbig)
        have HB := Lib.hid (textB_ok HE.out)
        have HF2 : Hid (fits (xs.take (k + 1)) = true) := Lib.hid (by rw [HFs.out, HF.out]; simp; omega)
        have hsum : ¬ 9223372036854775807 < (str (enc 2 n ++ catTexts (xs.take k))).size + (str (enc 2 x.length ++ x)).size := by
          have e2 : (enc 2 x.length ++ x).length = 2 + x.length := by rw [List.length_append, enc_length]
          rw [str_size, str_size, e2]; omega
        generalize enc 2 n ++ catTexts (xs.take k) = done at hdl HS2 hsum ⊢
        clear hkl hbig
        go_wp2_with (go_at_call 22; refine (RefText_any _ _ hsx).mono ?_; rintro e w2 ⟨rfl, hb2⟩; rw [str_list, HE.out, HB.out])
        go_roundw
        case rel => exact ⟨k + 1, by omega, by go_num, by rw [HS2.out, str_cat], HF2, below_next hbel hb2⟩
        case measure => simp [intOf]; omega
    · have Hk : Hid (xs.take k = xs) := Lib.hid (List.take_of_length_le (by rw [HL.out]; omega))
      have hfit : fits xs = true := by have := HF.out; rwa [Hk.out] at this
      obtain ⟨h5, h6⟩ := list_ok hfit
      have H5 := Lib.hid h5
      have H6 := Lib.hid h6
      have hl2 := HL.out
      rw [hl2] at H6
      clear h5 h6 hfit hl2
      go_wp2
      go_ret2
      rw [H5.out, H6.out, Hk.out]
      exact ⟨rfl, hbel⟩

set_option maxHeartbeats 800000 in
theorem Small_any (A : Option Addr) (c n many bytes : Nat) (xs : List (List UInt8)) (w : World) (hl : xs.length = n) (hn : n ≤ maxLen) (hm : many ≤ 1073741824) (hby : bytes ≤ 1073741824) (hx : ∀ x ∈ xs, x.length ≤ maxLen) (h : Strs w w.heap.size A xs) :
    Calls Try.prog 25 #[.slice A n c, .int .i64 many, .int .i64 bytes] w fun e w' => e = .returned (.bool (small xs many bytes)) ∧ w = w' := by
  have HL := Lib.hid hl
  clear hl
  unfold maxLen at hn
  by_cases hbig : many < n
  · have HS : Hid (small xs many bytes = false) := Lib.hid (by unfold small; rw [HL.out]; simp; omega)
    go_enter Try.func25, Try.ntmps25
    go_wp2
    go_ret
    rw [HS.out]
    exact ⟨rfl, rfl⟩
  · go_enter Try.func25, Try.ntmps25
    go_wp2
    go_loop [7, 8] (fun z i => ∃ k t : Nat, k ≤ n ∧ i = .int .i64 k ∧ z = .int .i64 t ∧ t ≤ bytes ∧ Hid (t = total (xs.take k))) (fun _ i => n - (intOf i).toNat)
    case atStart => exact ⟨0, 0, by omega, rfl, rfl, by omega, Lib.hid (by simp [total])⟩
    case round =>
      obtain ⟨k, t, hk, rfl, rfl, htb, HT⟩ := hrel
      by_cases hlt : k < n
      · have hkl : k < xs.length := by rw [HL.out]; exact hlt
        obtain ⟨xb, xo, rfl, hxb, hc⟩ := h.at_ hkl
        have hxm := hx _ (List.getElem_mem hkl)
        have HT2 := Lib.hid (total_take hkl)
        have hle := total_take_le xs (k + 1)
        generalize xs[k] = x at hc hxm HT2
        have hi0 : (0 : Int) ≤ (k : Int) := by omega
        have hi1 : (k : Int) < (n : Int) := by omega
        unfold txt at hc
        unfold maxLen at hxm
        have hxs : (str x).size = x.length := str_size x
        by_cases hov : bytes < x.length
        · have HS : Hid (small xs many bytes = false) := Lib.hid (by have := HT2.out; unfold small; simp; omega)
          have hb : bytes < (str x).size := by omega
          clear hxs hkl hle hov hx
          go_wp2
          go_ret
          rw [HS.out]
          exact ⟨rfl, rfl⟩
        · have hb : (str x).size ≤ bytes := by omega
          by_cases hov2 : bytes < t + x.length
          · have HS : Hid (small xs many bytes = false) := Lib.hid (by have := HT2.out; have := HT.out; unfold small; simp; omega)
            have hb2 : bytes < t + (str x).size := by omega
            clear hxs hkl hle hov hov2 hx
            go_wp2
            go_ret
            rw [HS.out]
            exact ⟨rfl, rfl⟩
          · have hb2 : t + (str x).size ≤ bytes := by omega
            have HT3 : Hid (t + (str x).size = total (xs.take (k + 1))) := Lib.hid (by rw [HT2.out, HT.out, hxs])
            clear hxs hkl hle hov hov2 hx
            go_wp2
            go_round
            case rel => exact ⟨k + 1, t + (str x).size, by omega, by go_num, by go_num, hb2, HT3⟩
            case measure => simp [intOf]; omega
      · have HS : Hid (small xs many bytes = true) := Lib.hid (by
          have e : xs.take k = xs := List.take_of_length_le (by rw [HL.out]; omega)
          have := HT.out
          rw [e] at this
          have := HL.out
          unfold small; simp; omega)
        clear hx
        go_wp2
        go_ret
        rw [HS.out]
        exact ⟨rfl, rfl⟩

end Go.Proofs.Ytpbfemfbihelpaa
