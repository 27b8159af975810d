/- Bitmaps as bytes: the contract of the document's Bytes; plain: what is parsed; the contract of take. -/
import Derived.Test.YtpefhocjnkbklaaDirS
import Derived.PlainAid
namespace Go.Proofs.Ytpefhocjnkbklaa
open Go.RowKit

/-- A string of one byte, out of a new row of one cell. -/
theorem conv_one (W : World) (c : Nat) (hc : c < 256) :
    (convert 81 9 (.slice (some ⟨W.heap.size, 0, none⟩) 1 1)).run Try.prog (W.alloc (.cells #[.int .u8 (c : Int)] 5)) = .ok (.string (str (enc 1 c))) (W.alloc (.cells #[.int .u8 (c : Int)] 5)) := by
  have h := run_convert_bytes_back (P := Try.prog) (W.alloc (.cells #[.int .u8 (c : Int)] 5)) 81 9 5 ⟨W.heap.size, 0, none⟩ 1 [UInt8.ofNat c] Try.underlying81 Try.underlying5 Try.underlying9 (fun j hj => by
    simp at hj
    subst hj
    rw [WideShapes.add_plain, Nat.zero_add, Lib.cell_of_heap (heap_alloc_new W _)]
    simp
    omega)
  have e : enc 1 c = [UInt8.ofNat c] := by rw [enc_cons]; simp [enc]
  rw [e]
  exact h
theorem enc_four (U : Nat) : enc 4 U = [UInt8.ofNat (U / 16777216), UInt8.ofNat (U / 65536), UInt8.ofNat (U / 256), UInt8.ofNat U] := by
  rw [enc_cons, enc_cons, enc_cons, enc_cons]; simp [enc]
theorem conv_five (W : World) (V U : Nat) (hV : V < 256) (hU : U < 4294967296) :
    (convert 81 9 (.slice (some ⟨W.heap.size, 0, none⟩) 5 5)).run Try.prog (W.alloc (.cells #[.int .u8 (V : Int), .int .u8 ((U : Int) / 16777216), .int .u8 ((U : Int) / 65536 % 256), .int .u8 ((U : Int) / 256 % 256), .int .u8 ((U : Int) % 256)] 5)) = .ok (.string (str (enc 1 V ++ enc 4 U))) (W.alloc (.cells #[.int .u8 (V : Int), .int .u8 ((U : Int) / 16777216), .int .u8 ((U : Int) / 65536 % 256), .int .u8 ((U : Int) / 256 % 256), .int .u8 ((U : Int) % 256)] 5)) := by
  have e : enc 1 V ++ enc 4 U = [UInt8.ofNat V, UInt8.ofNat (U / 16777216), UInt8.ofNat (U / 65536), UInt8.ofNat (U / 256), UInt8.ofNat U] := by
    rw [enc_four, enc_cons]; simp [enc]
  rw [e]
  have h := run_convert_bytes_back (P := Try.prog) (W.alloc (.cells #[.int .u8 (V : Int), .int .u8 ((U : Int) / 16777216), .int .u8 ((U : Int) / 65536 % 256), .int .u8 ((U : Int) / 256 % 256), .int .u8 ((U : Int) % 256)] 5)) 81 9 5 ⟨W.heap.size, 0, none⟩ 5 [UInt8.ofNat V, UInt8.ofNat (U / 16777216), UInt8.ofNat (U / 65536), UInt8.ofNat (U / 256), UInt8.ofNat U] Try.underlying81 Try.underlying5 Try.underlying9 (fun j hj => by
    simp at hj
    rw [WideShapes.add_plain, Nat.zero_add, Lib.cell_of_heap (heap_alloc_new W _)]
    rcases (show j = 0 ∨ j = 1 ∨ j = 2 ∨ j = 3 ∨ j = 4 by omega) with rfl | rfl | rfl | rfl | rfl
    · simp; omega
    · simp; omega
    · simp
    · simp
    · simp)
  exact h

set_option maxHeartbeats 4000000 in
set_option maxRecDepth 100000 in
theorem DocBytes_any {w : World} {A : Option Addr} {c : Nat} {m : List Bt} (h : BtsAt w w.heap.size A m) (hf : BtsFit m) (hr : bitsOk m = true) :
    Calls Try.prog 34 #[.slice A m.length c] w fun e w' => e = .returned (.string (str (bytM m))) ∧ Below w.heap.size w w' := by
  have HV := Lib.hid h
  have HAll := Lib.hid (bitsFrom_le hr)
  have HF := Lib.hid hf
  have hl := bitsOk_length hr
  obtain ⟨n, hn⟩ : ∃ n, m.length = n := ⟨_, rfl⟩
  have HN := Lib.hid hn
  rw [hn] at hl ⊢
  clear h hf hr hn
  have hn8 : n < 256 := by omega
  have hcv := conv_one w n hn8
  go_enter Try.func34, Try.ntmps34
  go_wp2_with fail
  clear hcv
  go_loopg [3, 4] n (fun kx s3 s4 wr => ∃ k : Nat, s4 = .int .i64 k ∧ k ≤ n ∧ n - k ≤ kx ∧ s3 = .string (str (enc 1 n ++ eltsB (m.take k))) ∧ Hid (Below w.heap.size w wr))
  case atStart => exact ⟨0, rfl, Nat.zero_le _, by omega, by simp [eltsB], Lib.hid ((Below.refl _ _).alloc (Nat.le_refl _) _)⟩
  case round =>
    obtain ⟨k, rfl, hk, hkx, rfl, HB⟩ := hrel
    by_cases hlt : k < n
    · have hltz : (k : Int) < (n : Int) := by omega
      have hk0 : (0 : Int) ≤ (k : Int) := Int.natCast_nonneg _
      have hkl : k < m.length := by rw [HN.out]; exact hlt
      obtain ⟨b, off, hA, hbl, c1, c2⟩ := HV.out.at_ HB.out hkl
      subst hA
      have HT := Lib.hid (eltsB_take hkl)
      have HMk := Lib.hid (HAll.out _ (List.getElem_mem hkl))
      have HMf := Lib.hid (HF.out.2 _ (List.getElem_mem hkl))
      obtain ⟨x, hx⟩ : ∃ x, m[k] = x := ⟨_, rfl⟩
      rw [hx] at c1 c2 HT HMk HMf
      clear hx hkl
      obtain ⟨i1, u1⟩ := x
      simp only at c1 c2 HT HMk HMf
      obtain ⟨V, hV⟩ : ∃ V : Nat, i1 = (V : Int) := ⟨i1.toNat, by have := HMk.out; omega⟩
      obtain ⟨U, hU⟩ : ∃ U : Nat, u1 = (U : Int) := ⟨u1.toNat, by have := HMf.out; omega⟩
      subst hV hU
      have hV2 : V < 256 := by have := HMk.out; omega
      have hU2 : U < 4294967296 := by have := HMk.out; omega
      have HS : Hid (str (enc 1 n ++ eltsB (m.take (k + 1))) = str (enc 1 n ++ eltsB (m.take k)) ++ str (enc 1 V ++ enc 4 U)) := Lib.hid (by
        rw [str_cat, HT.out, eltB, Int.toNat_natCast, Int.toNat_natCast]; simp)
      have hdl : (str (enc 1 n ++ eltsB (m.take k))).size ≤ 10000 := by rw [str_size, List.length_append, enc_length, eltsB_length, List.length_take]; omega
      generalize str (enc 1 n ++ eltsB (m.take k)) = S at hdl HS
      have hcv := conv_five wr V U hV2 hU2
      have h5 : (str (enc 1 V ++ enc 4 U)).size = 5 := by rw [str_size, List.length_append, enc_length, enc_length]
      generalize str (enc 1 V ++ enc 4 U) = T at hcv h5 HS
      have hsum : ¬ 9223372036854775807 < S.size + T.size := by omega
      have hw : IntKind.i64.wrap (U : Int) = (U : Int) := by rw [IntKind.wrap_i64]; omega
      clear h5
      go_wp2_with fail
      clear hcv hw c1 c2 hsum
      go_wp2_with fail
      go_roundg (n - (k + 1))
      case measure => omega
      case rel => exact ⟨k + 1, by go_num, by omega, Nat.le_refl _, by rw [HS.out], Lib.hid (HB.out.alloc HB.out.size _)⟩
    · have hltz : ¬ (k : Int) < (n : Int) := by omega
      have Hk : Hid (enc 1 n ++ eltsB (m.take k) = bytM m) := Lib.hid (by rw [List.take_of_length_le (by rw [HN.out]; omega), bytM, HN.out])
      go_wp2_with fail
      go_ret
      rw [Hk.out]
      exact ⟨rfl, HB.out⟩
end Go.Proofs.Ytpefhocjnkbklaa
