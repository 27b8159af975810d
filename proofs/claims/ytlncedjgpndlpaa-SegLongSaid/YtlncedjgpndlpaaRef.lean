/- Contracts of the document's answer (the package counterfoilref01) for numbers and texts: Put, Get, Number, Text, Take: the same plain functions as those of the package octet. -/
import Derived.Test.YtlncedjgpndlpaaOctet
import Derived.PlainAid
namespace Go.Proofs.Ytlncedjgpndlpaa
open Go.RowKit

/-- A string of one byte, out of a new row of one cell. -/
theorem conv_one (W : World) (c : Nat) (hc : c < 256) :
    (convert 31 9 (.slice (some ⟨W.heap.size, 0, none⟩) 1 1)).run Try.prog (W.alloc (.cells #[.int .u8 (c : Int)] 5)) = .ok (.string (str [UInt8.ofNat c])) (W.alloc (.cells #[.int .u8 (c : Int)] 5)) := by
  have h := run_convert_bytes_back (P := Try.prog) (W.alloc (.cells #[.int .u8 (c : Int)] 5)) 31 9 5 ⟨W.heap.size, 0, none⟩ 1 [UInt8.ofNat c] Try.underlying31 Try.underlying5 Try.underlying9 (fun j hj => by
    simp at hj
    subst hj
    rw [WideShapes.add_plain, Nat.zero_add, Lib.cell_of_heap (heap_alloc_new W _)]
    simp
    omega)
  exact h

/-- A string of two bytes, out of a new row of two cells. -/
theorem conv_two (W : World) (c d : Nat) (hc : c < 256) (hd : d < 256) :
    (convert 31 9 (.slice (some ⟨W.heap.size, 0, none⟩) 2 2)).run Try.prog (W.alloc (.cells #[.int .u8 (c : Int), .int .u8 (d : Int)] 5)) = .ok (.string (str [UInt8.ofNat c, UInt8.ofNat d])) (W.alloc (.cells #[.int .u8 (c : Int), .int .u8 (d : Int)] 5)) := by
  have h := run_convert_bytes_back (P := Try.prog) (W.alloc (.cells #[.int .u8 (c : Int), .int .u8 (d : Int)] 5)) 31 9 5 ⟨W.heap.size, 0, none⟩ 2 [UInt8.ofNat c, UInt8.ofNat d] Try.underlying31 Try.underlying5 Try.underlying9 (fun j hj => by
    simp at hj
    rw [WideShapes.add_plain, Nat.zero_add, Lib.cell_of_heap (heap_alloc_new W _)]
    rcases (show j = 0 ∨ j = 1 by omega) with rfl | rfl
    · simp; omega
    · simp; omega)
  exact h

theorem div_next {n X j : Nat} (hX : X = n / 256 ^ j) : X / 256 = n / 256 ^ (j + 1) := by rw [hX, Nat.div_div_eq_div_mul, ← Nat.pow_succ]
theorem ref_step {n X j : Nat} (hX : X = n / 256 ^ j) : str [UInt8.ofNat (X % 256)] ++ str (enc j n) = str (enc (j + 1) n) := by
  rw [str_cat, enc_cons, ← hX]
  have : UInt8.ofNat (X % 256) = UInt8.ofNat X := by
    apply UInt8.toNat_inj.1
    simp [UInt8.toNat_ofNat']
  rw [this]
  rfl
theorem le_of_div {n k : Nat} (h : 0 < n / 256 ^ k) : 256 ^ k ≤ n := by
  rcases Nat.lt_or_ge n (256 ^ k) with h' | h'
  · rw [Nat.div_eq_of_lt h'] at h; omega
  · exact h'
theorem lt_of_div {n k : Nat} (h : n / 256 ^ k = 0) : n < 256 ^ k := by
  rcases Nat.lt_or_ge n (256 ^ k) with h' | h'
  · exact h'
  · have := Nat.div_pos h' (Nat.pow_pos (by omega)); omega

theorem first_byte (s : ByteArray) (h : s.size = 8) (h0 : 0 < s.size) : (9223372036854775808 ≤ dec s.data.toList) ↔ 128 ≤ s[0].toNat := by
  obtain ⟨⟨l⟩⟩ := s
  match l, h with
  | c :: l, h => exact dec_eight c l (by simp [ByteArray.size] at h; omega)

theorem get_step (s : ByteArray) (k : Nat) (h : k < s.size) : 256 * dec (s.data.toList.take k) + s[k].toNat = dec (s.data.toList.take (k + 1)) := by
  rw [take_snoc s k h, dec_snoc]

theorem two_bytes (n : Nat) : [UInt8.ofNat (n / 256), UInt8.ofNat (n % 256)] = enc 2 n := by
  have : UInt8.ofNat (n % 256) = UInt8.ofNat n := by
    apply UInt8.toNat_inj.1
    simp [UInt8.toNat_ofNat']
  rw [this]
  simp [enc]

theorem bt_two (s : ByteArray) (h : 1 < s.size) : 256 * PlainAid.bt s 0 + PlainAid.bt s 1 = (dec (s.data.toList.take 2) : Int) := by
  rw [← PlainAid.get_bt s 0 (by omega), ← PlainAid.get_bt s 1 h]
  obtain ⟨⟨l⟩⟩ := s
  match l, h with
  | a :: b :: l, h =>
    have e : dec ((a :: b :: l).take 2) = 256 * a.toNat + b.toNat := by simp [dec]
    rw [e]
    show 256 * (a.toNat : Int) + (b.toNat : Int) = _
    omega

theorem extract_mid (s : ByteArray) (d : Nat) : s.extract 2 (2 + d) = str ((s.data.toList.drop 2).take d) := by
  rw [← str_of (s.extract 2 (2 + d)), Lib.extract_data, Nat.add_sub_cancel_left]
theorem extract_rest (s : ByteArray) (d : Nat) : s.extract (2 + d) s.size = str ((s.data.toList.drop 2).drop d) := by
  rw [extract_drop_str, List.drop_drop]

end Go.Proofs.Ytlncedjgpndlpaa
