/- Contracts of the document's answers for layer 2 (counterfoilref02): On, Four, Right; and of sum.Right. -/
import Derived.Test.YtdhmkcomngbmaaaSumLeaf
import Derived.Deep.QuietTactic
import Derived.BigQuiet
import Derived.Deep.RegionWith
namespace Go.Proofs.Ytdhmkcomngbmaaa
open Go.RowKit

theorem alloc_size (w : World) (o : Obj) : (w.alloc o).heap.size = w.heap.size + 1 := by
  show (w.heap.push o).size = _
  simp

theorem i64_and_nat (a b : Nat) (ha : a < 9223372036854775808) (hb : b < 9223372036854775808) : bits .and .i64 (a : Int) (b : Int) = ((a &&& b : Nat) : Int) := by
  have hx : a &&& b < 2 ^ 63 := Nat.and_lt_two_pow _ (by omega)
  show IntKind.i64.wrap ((BitVec.ofInt 64 (a : Int) &&& BitVec.ofInt 64 (b : Int)).toNat : Int) = _
  rw [BitVec.toNat_and, ofInt_u64 a (by omega), ofInt_u64 b (by omega), IntKind.wrap_i64]
  omega
theorem i64_xor_nat (a b : Nat) (ha : a < 9223372036854775808) (hb : b < 9223372036854775808) : bits .xor .i64 (a : Int) (b : Int) = ((a ^^^ b : Nat) : Int) := by
  have hx : a ^^^ b < 2 ^ 63 := Nat.xor_lt_two_pow (by omega) (by omega)
  show IntKind.i64.wrap ((BitVec.ofInt 64 (a : Int) ^^^ BitVec.ofInt 64 (b : Int)).toNat : Int) = _
  rw [BitVec.toNat_xor, ofInt_u64 a (by omega), ofInt_u64 b (by omega), IntKind.wrap_i64]
  omega

theorem bit_of (c : UInt8) (b i : Nat) (h : c.toNat = b) : bits BinOp.and IntKind.i64 (wrap64 ((c.toNat : Nat) : Int) / 2 ^ i) 1 = ((b / 2 ^ i % 2 : Nat) : Int) := by
  have h8 := c.toNat_lt
  have e : wrap64 ((c.toNat : Nat) : Int) / 2 ^ i = ((b / 2 ^ i : Nat) : Int) := by
    rw [show wrap64 ((c.toNat : Nat) : Int) = (b : Int) from by unfold wrap64; omega]
    simp
  have h2 : b / 2 ^ i ≤ b := Nat.div_le_self _ _
  rw [e]
  have := i64_and_nat (b / 2 ^ i) 1 (by omega) (by omega)
  rw [Nat.and_one_is_mod] at this
  exact this

theorem bitStep_same {y b i : Nat} {e : Int} (he : e = ((b / 2 ^ i % 2 : Nat) : Int)) (h : (((y : Nat) : Int) % 2 != e) = false) : (y : Int) / 2 = ((bitStep y b i : Nat) : Int) := by
  rw [he, bne_eq_false_iff_eq] at h
  unfold bitStep
  rw [if_pos (by omega)]
  omega
theorem bitStep_other {y b i : Nat} {e : Int} (hy : y < 4294967296) (he : e = ((b / 2 ^ i % 2 : Nat) : Int)) (h : (((y : Nat) : Int) % 2 != e) = true) : bits BinOp.xor IntKind.i64 ((y : Int) / 2) 3988292384 = ((bitStep y b i : Nat) : Int) := by
  rw [he, bne_iff_ne] at h
  unfold bitStep
  rw [if_neg (by omega), show (y : Int) / 2 = ((y / 2 : Nat) : Int) from by omega]
  exact i64_xor_nat (y / 2) 3988292384 (by omega) (by omega)

theorem sub32 (x : Nat) (h : x < 4294967296) : (4294967295 : Int) - (x : Int) = ((4294967295 - x : Nat) : Int) := by omega

set_option maxHeartbeats 400000 in
theorem RefOn_any (begin : Nat) (s : ByteArray) (w : World) (hb : begin < 4294967296) (hs : s.size ≤ 9223372036854775806) :
    Calls Try.prog 60 #[.int .u32 begin, .string s] w fun e w' => e = .returned (.int .u32 (crcSum begin s.data.toList)) ∧ w = w' := by
  go_enter Try.func60, Try.ntmps60
  go_wp2
  go_loop [5, 6] (fun c i => ∃ k x : Nat, k ≤ s.size ∧ x < 4294967296 ∧ Hid (x = crcOn (4294967295 - begin) (s.data.toList.take k)) ∧ i = .int .i64 k ∧ c = .int .i64 x) (fun _ i => s.size - (intOf i).toNat)
  case atStart => exact ⟨0, 4294967295 - begin, Nat.zero_le _, by omega, Lib.hid rfl, rfl, by go_num⟩
  case round =>
    obtain ⟨k, x, hk, hx, HX, rfl, rfl⟩ := hrel
    by_cases hlt : k < s.size
    · have HB := Lib.hid (take_next s (4294967295 - begin) k hlt)
      obtain ⟨b, hb8, Hb⟩ : ∃ b : Nat, b < 256 ∧ Hid (s[k].toNat = b) := ⟨s[k].toNat, s[k].toNat_lt, Lib.hid rfl⟩
      go_wp2
      go_loop [5, 7] (fun c j => ∃ i y : Nat, i ≤ 8 ∧ y < 4294967296 ∧ Hid (y = (crcSteps i (x ^^^ b) ^^^ b / 2 ^ i)) ∧ j = .int .i64 i ∧ c = .int .i64 y) (fun _ j => 8 - (intOf j).toNat)
      case atStart => exact ⟨0, x, by omega, hx, Lib.hid (bit_begin x b), rfl, rfl⟩
      case round =>
        obtain ⟨i, y, hi, hy, HY, rfl, rfl⟩ := hrel
        by_cases hi8 : i < 8
        · have HBit := Lib.hid (bit_of s[k] b i Hb.out)
          go_wp2
          · rename_i h
            go_round
            case rel => exact ⟨i + 1, bitStep y b i, by omega, bitStep_lt hy, Lib.hid (bitStep_next HY.out), by go_num, by rw [bitStep_other hy HBit.out h]⟩
            case measure => simp [intOf]; omega
          · rename_i h
            go_round
            case rel => exact ⟨i + 1, bitStep y b i, by omega, bitStep_lt hy, Lib.hid (bitStep_next HY.out), by go_num, by rw [bitStep_same HBit.out h]⟩
            case measure => simp [intOf]; omega
        · obtain rfl : i = 8 := by omega
          have HEnd := Lib.hid (bit_end hb8 HY.out)
          go_wp2
          go_round
          case rel => exact ⟨k + 1, y, by omega, hy, Lib.hid (by rw [HEnd.out, HX.out, ← Hb.out, HB.out]), by go_num, rfl⟩
          case measure => simp [intOf]; omega
    · have HE := Lib.hid (take_all s k hlt)
      go_wp2
      go_ret
      rw [sub32 x hx, HX.out, HE.out]
      exact ⟨rfl, rfl⟩

/-- The cells of some bytes. -/
def byteCells (l : List UInt8) : Array Value := (l.map (fun c => Value.int .u8 (c.toNat : Int))).toArray

theorem byteCells_at {l : List UInt8} {j : Nat} (h : j < l.length) : (byteCells l)[j]? = some (.int .u8 (l[j].toNat : Int)) := by
  simp [byteCells, List.getElem?_eq_getElem h]
theorem byteCells_size (l : List UInt8) : (byteCells l).size = l.length := by simp [byteCells]

theorem enc4 (c : Nat) : enc 4 c = [UInt8.ofNat (c / 16777216), UInt8.ofNat (c / 65536), UInt8.ofNat (c / 256), UInt8.ofNat c] := by
  simp [enc, Nat.div_div_eq_div_mul]

theorem fourCells (c : Nat) (h : c < 4294967296) :
    #[Value.int .u8 ((c : Int) / 16777216), Value.int .u8 ((c : Int) / 65536 % 256), Value.int .u8 ((c : Int) / 256 % 256), Value.int .u8 ((c : Int) % 256)] = byteCells (enc 4 c) := by
  have e1 : (c : Int) / 16777216 = ((c / 16777216 % 256 : Nat) : Int) := by omega
  rw [enc4, e1]
  simp [byteCells, UInt8.toNat_ofNat']

set_option maxHeartbeats 400000 in
theorem Four_any (c : Nat) (w : World) (hc : c < 4294967296) :
    Calls Try.prog 59 #[.int .u32 c] w fun e w' => e = .returned (.string (str (enc 4 c))) ∧ Below w.heap.size w w' := by
  have hcv := run_convert_bytes_back (P := Try.prog) (w.alloc (Obj.cells #[Value.int .u8 ((c : Int) / 16777216), Value.int .u8 ((c : Int) / 65536 % 256), Value.int .u8 ((c : Int) / 256 % 256), Value.int .u8 ((c : Int) % 256)] 5)) 88 9 5 ⟨w.heap.size, 0, none⟩ 4 (enc 4 c) Try.underlying88 Try.underlying5 Try.underlying9 (fun j hj => by
        rw [WideShapes.add_plain, Nat.zero_add, Lib.cell_of_heap (heap_alloc_new _ _), fourCells c hc, byteCells_at hj])
  rw [enc_length] at hcv
  go_enter Try.func59, Try.ntmps59
  go_wp2
  go_ret
  exact ⟨rfl, (Below.refl _ _).alloc (Nat.le_refl _) _⟩

/-- Does a text end in its sum? -/
def sumRight (l : List UInt8) : Bool := if l.length < 4 then false else crcSum 0 (l.take (l.length - 4)) == dec (l.drop (l.length - 4))

theorem sumRight_short {l : List UInt8} (h : l.length < 4) : sumRight l = false := by unfold sumRight; rw [if_pos h]
theorem sumRight_long {s : ByteArray} {n : Nat} (h : s.size = n + 4) : sumRight s.data.toList = (((crcSum 0 (s.data.toList.take n) : Nat) : Int) == ((dec ((s.data.toList.drop n).take (s.size - n)) : Nat) : Int)) := by
  have hl : s.data.toList.length = n + 4 := by rw [list_length, h]
  have ht : (s.data.toList.drop n).take (s.size - n) = s.data.toList.drop n := List.take_of_length_le (by rw [List.length_drop, list_length]; exact Nat.le_refl _)
  unfold sumRight
  rw [ht, if_neg (by omega), hl, show n + 4 - 4 = n from by omega, Bool.eq_iff_iff, beq_iff_eq, beq_iff_eq]
  omega

set_option maxHeartbeats 400000 in
theorem Right_any (s : ByteArray) (w : World) (hs : s.size ≤ 9223372036854775807) :
    Calls Try.prog 64 #[.string s] w fun e w' => e = .returned (.bool (sumRight s.data.toList)) ∧ Below w.heap.size w w' := by
  by_cases h : s.size < 4
  · have H := Lib.hid (sumRight_short (l := s.data.toList) (by rw [list_length]; exact h))
    have hd : decide (4 ≤ (s.size : Int)) = false := by rw [decide_eq_false_iff_not]; omega
    go_enter Try.func64, Try.ntmps64
    go_wp2
    go_quiet (fail)
    go_wp2
    go_ret
    rw [H.out]
    exact ⟨rfl, below_drewN (Below.refl _ _) _⟩
  · obtain ⟨n, hn⟩ : ∃ n : Nat, s.size = n + 4 := ⟨s.size - 4, by omega⟩
    have H := Lib.hid (sumRight_long hn)
    have hi : (s.size : Int) - 4 = (n : Int) := by omega
    have hx1 : (s.extract 0 n).size ≤ 9223372036854775807 := by rw [ByteArray.size_extract]; omega
    have hx2 : (s.extract n s.size).size ≤ 4 := by rw [ByteArray.size_extract]; omega
    have hns : (n : Int) ≤ (s.size : Int) := by omega
    clear hn h
    go_enter Try.func64, Try.ntmps64
    go_wp2
    go_quiet (first
      | (go_at_call 58; refine Calls.quiet_of_same ((Of_any _ _ hx1).mono fun e w' h => ⟨h.1, h.2.symm⟩))
      | (go_at_call 66; refine Calls.quiet_of_same ((bigEndian_any _ _ hx2).mono fun e w' h => ⟨h.1, h.2.symm⟩)))
    go_wp2
    go_ret
    rw [H.out]
    exact ⟨rfl, below_drewN (Below.refl _ _) _⟩

theorem same_enc4 {l : List UInt8} {c : Nat} (hl : l.length = 4) (hc : c < 4294967296) : (l == enc 4 c) = (((c : Nat) : Int) == ((dec l : Nat) : Int)) := by
  rw [Bool.eq_iff_iff, beq_iff_eq, beq_iff_eq]
  constructor
  · intro h
    rw [h, dec_enc_of_lt (show c < 256 ^ 4 from hc)]
  · intro h
    have h2 : c = dec l := by omega
    rw [h2, ← hl, enc_dec]

theorem byteArray_toList (s : ByteArray) : s.toList = s.data.toList := Lib.toList_data s
theorem right_same {s : ByteArray} {n : Nat} (h : s.size = n + 4) : ((s.extract n s.size).toList == (str (enc 4 (crcSum 0 (s.data.toList.take n)))).toList) = sumRight s.data.toList := by
  have ht : (s.data.toList.drop n).take (s.size - n) = s.data.toList.drop n := List.take_of_length_le (by rw [List.length_drop, list_length]; exact Nat.le_refl _)
  rw [sumRight_long h, ht, byteArray_toList, byteArray_toList, extract_drop, str_list]
  exact same_enc4 (by rw [List.length_drop, list_length]; omega) (crcSum_lt _ _)

end Go.Proofs.Ytdhmkcomngbmaaa
