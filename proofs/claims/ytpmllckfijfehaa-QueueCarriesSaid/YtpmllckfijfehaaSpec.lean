/- What the functions of the package octet answer, as plain functions on lists of bytes; small facts on them. No program in sight. -/
import Derived.WalkKit
import Derived.Lib.Strings
import Derived.Test.YtpmllckfijfehaaNums
namespace Go.Proofs.Ytpmllckfijfehaa
open Go.RowKit

def putE (n width : Int) : Int := if width < 1 ∨ 8 < width then 1 else if n < 0 ∨ (256 : Int) ^ width.toNat ≤ n then 10 else 0
def putB (n width : Int) : List UInt8 := if putE n width = 0 then enc width.toNat n.toNat else []
def getE (l : List UInt8) : Int := if l.length < 1 ∨ 8 < l.length then 1 else if 9223372036854775808 ≤ dec l then 10 else 0
def getN (l : List UInt8) : Int := if getE l = 0 then (dec l : Int) else 0
def numE (l : List UInt8) (width : Int) : Int := if width < 1 ∨ 8 < width then 1 else if (l.length : Int) < width then 2 else getE (l.take width.toNat)
def numN (l : List UInt8) (width : Int) : Int := if numE l width = 0 then (dec (l.take width.toNat) : Int) else 0
def numR (l : List UInt8) (width : Int) : List UInt8 := if numE l width = 0 then l.drop width.toNat else []
def textE (l : List UInt8) : Int := if 65535 < l.length then 5 else 0
def textB (l : List UInt8) : List UInt8 := if textE l = 0 then enc 2 l.length ++ l else []
def takeE (l : List UInt8) : Int := if l.length < 2 ∨ l.length - 2 < dec (l.take 2) then 2 else 0
def takeA (l : List UInt8) : List UInt8 := if takeE l = 0 then (l.drop 2).take (dec (l.take 2)) else []
def takeR (l : List UInt8) : List UInt8 := if takeE l = 0 then (l.drop 2).drop (dec (l.take 2)) else []

theorem below_next {w w1 w2 : World} (h1 : Below w.heap.size w w1) (h2 : Below w1.heap.size w1 w2) : Below w.heap.size w w2 := h1.trans (h2.mono h1.size)

theorem pow_256 (k : Nat) : (256 : Nat) ^ k = 2 ^ (8 * k) := by rw [Nat.pow_mul]
theorem shr_none {n k : Nat} (h : n < 256 ^ k) : ((n : Int) / 2 ^ (8 * k) != 0) = false := by
  rw [pow_256] at h
  have e : (n : Int) / 2 ^ (8 * k) = ((n / 2 ^ (8 * k) : Nat) : Int) := by simp
  rw [e, Nat.div_eq_of_lt h]
  rfl
theorem shr_some {n k : Nat} (h : 256 ^ k ≤ n) : ((n : Int) / 2 ^ (8 * k) != 0) = true := by
  rw [pow_256] at h
  have e : (n : Int) / 2 ^ (8 * k) = ((n / 2 ^ (8 * k) : Nat) : Int) := by simp
  have h2 : 0 < n / 2 ^ (8 * k) := Nat.div_pos h (Nat.pow_pos (by omega))
  rw [e, bne_iff_ne]
  omega

theorem pow_256_le (k : Nat) (n : Nat) : ((256 : Int) ^ k ≤ (n : Int)) ↔ 256 ^ k ≤ n := by
  have : ((256 : Int) ^ k) = ((256 ^ k : Nat) : Int) := by simp
  rw [this]; omega

theorem putE_ok {n k : Nat} (h1 : 1 ≤ k) (h2 : k ≤ 8) (h : n < 256 ^ k) : putE (n : Int) (k : Int) = 0 := by
  have h3 : ¬ ((256 : Int) ^ k ≤ (n : Int)) := by rw [pow_256_le]; omega
  unfold putE
  rw [if_neg (by omega), if_neg (by rw [Int.toNat_natCast]; omega)]
theorem putE_big {n k : Nat} (h1 : 1 ≤ k) (h2 : k ≤ 8) (h : 256 ^ k ≤ n) : putE (n : Int) (k : Int) = 10 := by
  have h3 : (256 : Int) ^ k ≤ (n : Int) := by rw [pow_256_le]; omega
  unfold putE
  rw [if_neg (by omega), if_pos (by rw [Int.toNat_natCast]; exact Or.inr h3)]
theorem putE_neg {n width : Int} (h1 : 1 ≤ width) (h2 : width ≤ 8) (h : n < 0) : putE n width = 10 := by
  unfold putE
  rw [if_neg (by omega), if_pos (Or.inl h)]
theorem putE_arg {n width : Int} (h : width < 1 ∨ 8 < width) : putE n width = 1 := by
  unfold putE
  rw [if_pos h]
theorem putB_ok {n k : Nat} (h : putE (n : Int) (k : Int) = 0) : putB (n : Int) (k : Int) = enc k n := by
  unfold putB
  rw [if_pos h, Int.toNat_natCast, Int.toNat_natCast]
theorem putB_no {n width : Int} (h : putE n width ≠ 0) : putB n width = [] := by
  unfold putB
  rw [if_neg h]

theorem getN_no {l : List UInt8} (h : getE l ≠ 0) : getN l = 0 := by unfold getN; rw [if_neg h]
theorem getN_ok {l : List UInt8} (h : getE l = 0) : getN l = dec l := by unfold getN; rw [if_pos h]
theorem getE_arg {l : List UInt8} (h : l.length < 1 ∨ 8 < l.length) : getE l = 1 := by unfold getE; rw [if_pos h]
theorem getE_big {l : List UInt8} (h1 : 1 ≤ l.length) (h2 : l.length ≤ 8) (h : 9223372036854775808 ≤ dec l) : getE l = 10 := by unfold getE; rw [if_neg (by omega), if_pos h]
theorem getE_ok {l : List UInt8} (h1 : 1 ≤ l.length) (h2 : l.length ≤ 8) (h : dec l < 9223372036854775808) : getE l = 0 := by unfold getE; rw [if_neg (by omega), if_neg (by omega)]

theorem numE_arg {l : List UInt8} {width : Int} (h : width < 1 ∨ 8 < width) : numE l width = 1 := by unfold numE; rw [if_pos h]
theorem numE_short {l : List UInt8} {width : Int} (h1 : 1 ≤ width) (h2 : width ≤ 8) (h : (l.length : Int) < width) : numE l width = 2 := by unfold numE; rw [if_neg (by omega), if_pos h]
theorem numE_get {l : List UInt8} {k : Nat} (h1 : 1 ≤ k) (h2 : k ≤ 8) (h : k ≤ l.length) : numE l (k : Int) = getE (l.take k) := by unfold numE; rw [if_neg (by omega), if_neg (by omega), Int.toNat_natCast]
theorem numN_no {l : List UInt8} {width : Int} (h : numE l width ≠ 0) : numN l width = 0 := by unfold numN; rw [if_neg h]
theorem numR_no {l : List UInt8} {width : Int} (h : numE l width ≠ 0) : numR l width = [] := by unfold numR; rw [if_neg h]
theorem numN_ok {l : List UInt8} {k : Nat} (h : numE l (k : Int) = 0) : numN l (k : Int) = dec (l.take k) := by unfold numN; rw [if_pos h, Int.toNat_natCast]
theorem numR_ok {l : List UInt8} {k : Nat} (h : numE l (k : Int) = 0) : numR l (k : Int) = l.drop k := by unfold numR; rw [if_pos h, Int.toNat_natCast]

theorem textE_long {l : List UInt8} (h : 65535 < l.length) : textE l = 5 := by unfold textE; rw [if_pos h]
theorem textE_ok {l : List UInt8} (h : ¬ 65535 < l.length) : textE l = 0 := by unfold textE; rw [if_neg h]
theorem textB_long {l : List UInt8} (h : textE l ≠ 0) : textB l = [] := by unfold textB; rw [if_neg h]
theorem textB_ok {l : List UInt8} (h : textE l = 0) : textB l = enc 2 l.length ++ l := by unfold textB; rw [if_pos h]

theorem takeE_short {l : List UInt8} (h : l.length < 2) : takeE l = 2 := by unfold takeE; rw [if_pos (Or.inl h)]
theorem takeE_lack {l : List UInt8} (h : l.length - 2 < dec (l.take 2)) : takeE l = 2 := by unfold takeE; rw [if_pos (Or.inr h)]
theorem takeE_ok {l : List UInt8} (h : 2 ≤ l.length) (h2 : dec (l.take 2) ≤ l.length - 2) : takeE l = 0 := by unfold takeE; rw [if_neg (by omega)]
theorem takeA_no {l : List UInt8} (h : takeE l ≠ 0) : takeA l = [] := by unfold takeA; rw [if_neg h]
theorem takeR_no {l : List UInt8} (h : takeE l ≠ 0) : takeR l = [] := by unfold takeR; rw [if_neg h]
theorem takeA_ok {l : List UInt8} (h : takeE l = 0) : takeA l = (l.drop 2).take (dec (l.take 2)) := by unfold takeA; rw [if_pos h]
theorem takeR_ok {l : List UInt8} (h : takeE l = 0) : takeR l = (l.drop 2).drop (dec (l.take 2)) := by unfold takeR; rw [if_pos h]

theorem dec_take_two (l : List UInt8) : dec (l.take 2) < 65536 := by
  have h1 := dec_lt (l.take 2)
  have h2 : (l.take 2).length ≤ 2 := List.length_take_le _ _
  have h3 : 256 ^ (l.take 2).length ≤ 256 ^ 2 := Nat.pow_le_pow_right (by omega) h2
  omega

theorem extract_take (s : ByteArray) (k : Nat) : (s.extract 0 k).data.toList = s.data.toList.take k := by
  rw [Lib.extract_data]; simp
theorem extract_drop (s : ByteArray) (k : Nat) : (s.extract k s.size).data.toList = s.data.toList.drop k := by
  rw [Lib.extract_data, List.take_of_length_le]; rw [List.length_drop, list_length]; exact Nat.le_refl _
theorem extract_take_str (s : ByteArray) (k : Nat) : s.extract 0 k = str (s.data.toList.take k) := by rw [← extract_take]; rfl
theorem extract_drop_str (s : ByteArray) (k : Nat) : s.extract k s.size = str (s.data.toList.drop k) := by rw [← extract_drop]; rfl

theorem str_cat (l m : List UInt8) : str l ++ str m = str (l ++ m) := by
  apply ByteArray.ext
  rw [ByteArray.data_append]
  simp [str]
theorem str_cat_of (l : List UInt8) (s : ByteArray) : str l ++ s = str (l ++ s.data.toList) := by rw [← str_cat]; rfl

end Go.Proofs.Ytpmllckfijfehaa
