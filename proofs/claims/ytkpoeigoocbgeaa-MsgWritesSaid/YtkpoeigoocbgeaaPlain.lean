/- Plain facts on big-endian bytes: 'enc w n' (n in w bytes) and 'dec l' (the number of the bytes l) are inverse to one another, and order is kept. No program in sight. Small facts on numbers, bytes and blocks of memory that the walks of the octet functions use. No function of the program in sight. What the functions of the package octet answer, as plain functions on lists of bytes; small facts on them. No program in sight. -/
import Derived.WalkKit
import Derived.Lib.Builder
import Derived.Lib.Strings
namespace Go.Proofs.Ytkpoeigoocbgeaa

/-- n in w bytes, the greatest first. -/
def enc : Nat → Nat → List UInt8
  | 0, _ => []
  | w + 1, n => enc w (n / 256) ++ [UInt8.ofNat n]

/-- The number of some bytes, the greatest first. -/
def dec (l : List UInt8) : Nat := l.foldl (fun a c => 256 * a + c.toNat) 0

theorem enc_length (w n : Nat) : (enc w n).length = w := by
  induction w generalizing n with
  | zero => rfl
  | succ w ih => simp [enc, ih]

theorem dec_nil : dec [] = 0 := rfl

theorem dec_snoc (l : List UInt8) (c : UInt8) : dec (l ++ [c]) = 256 * dec l + c.toNat := by
  simp [dec, List.foldl_append]

theorem dec_lt (l : List UInt8) : dec l < 256 ^ l.length := by
  have h : ∀ n (l : List UInt8), l.length = n → dec l < 256 ^ n := by
    intro n
    induction n with
    | zero => intro l h; have := List.eq_nil_of_length_eq_zero h; subst this; simp [dec]
    | succ n ih =>
      intro l h
      have hne : l ≠ [] := by intro e; subst e; simp at h
      have hs := List.dropLast_concat_getLast hne
      have hl : l.dropLast.length = n := by simp [h]
      have hi := ih _ hl
      rw [← hs, dec_snoc, Nat.pow_succ]
      have := (l.getLast hne).toNat_lt
      omega
  exact h _ l rfl

theorem dec_enc (w n : Nat) : dec (enc w n) = n % 256 ^ w := by
  induction w generalizing n with
  | zero => simp [enc, dec, Nat.mod_one]
  | succ w ih =>
    rw [enc, dec_snoc, ih, Nat.pow_succ, Nat.mul_comm (256 ^ w) 256, Nat.mod_mul]
    simp [UInt8.toNat_ofNat']
    omega

theorem dec_enc_of_lt {w n : Nat} (h : n < 256 ^ w) : dec (enc w n) = n := by rw [dec_enc, Nat.mod_eq_of_lt h]

theorem enc_dec (l : List UInt8) : enc l.length (dec l) = l := by
  have h : ∀ n (l : List UInt8), l.length = n → enc n (dec l) = l := by
    intro n
    induction n with
    | zero => intro l h; have := List.eq_nil_of_length_eq_zero h; subst this; rfl
    | succ n ih =>
      intro l h
      have hne : l ≠ [] := by intro e; subst e; simp at h
      have hs := List.dropLast_concat_getLast hne
      have hl : l.dropLast.length = n := by simp [h]
      have hi := ih _ hl
      have hd : dec l = 256 * dec l.dropLast + (l.getLast hne).toNat := by
        rw [← dec_snoc, hs]
      have hb := (l.getLast hne).toNat_lt
      rw [enc]
      have e1 : dec l / 256 = dec l.dropLast := by omega
      have e2 : UInt8.ofNat (dec l) = l.getLast hne := by
        apply UInt8.toNat_inj.1
        rw [UInt8.toNat_ofNat']
        omega
      rw [e1, hi, e2, hs]
  exact h _ l rfl

theorem enc_inj {w a b : Nat} (ha : a < 256 ^ w) (hb : b < 256 ^ w) (h : enc w a = enc w b) : a = b := by
  have := congrArg dec h
  rwa [dec_enc_of_lt ha, dec_enc_of_lt hb] at this

/-- Bytes from place k on of the whole: the low digits. -/
theorem enc_cons (w n : Nat) : enc (w + 1) n = UInt8.ofNat (n / 256 ^ w) :: enc w n := by
  induction w generalizing n with
  | zero => simp [enc]
  | succ w ih =>
    rw [enc, ih (n / 256), enc, List.cons_append, Nat.div_div_eq_div_mul, Nat.pow_succ, Nat.mul_comm 256]

theorem enc_cat (a b n : Nat) : enc (a + b) n = enc a (n / 256 ^ b) ++ enc b n := by
  induction a generalizing n with
  | zero => simp [enc]
  | succ a ih =>
    rw [show a + 1 + b = (a + b) + 1 from by omega, enc_cons, ih, enc_cons, Nat.div_div_eq_div_mul, ← Nat.pow_add, Nat.add_comm b a, List.cons_append]

theorem dec_cat (l m : List UInt8) : dec (l ++ m) = dec l * 256 ^ m.length + dec m := by
  have h : ∀ n (m : List UInt8), m.length = n → dec (l ++ m) = dec l * 256 ^ n + dec m := by
    intro n
    induction n with
    | zero => intro m h; have := List.eq_nil_of_length_eq_zero h; subst this; simp [dec]
    | succ n ih =>
      intro m h
      have hne : m ≠ [] := by intro e; subst e; simp at h
      have hs := List.dropLast_concat_getLast hne
      have hl : m.dropLast.length = n := by simp [h]
      have hi := ih _ hl
      rw [← hs, ← List.append_assoc, dec_snoc, hi, dec_snoc, Nat.pow_succ]
      have e : dec l * (256 ^ n * 256) = 256 * (dec l * 256 ^ n) := by rw [← Nat.mul_assoc, Nat.mul_comm]
      rw [e]
      omega
  exact h _ m rfl

theorem dec_take_le (l : List UInt8) (k : Nat) : dec (l.take k) ≤ dec l := by
  have h := dec_cat (l.take k) (l.drop k)
  rw [List.take_append_drop] at h
  have h2 : dec (l.take k) * 1 ≤ dec (l.take k) * 256 ^ (l.drop k).length := Nat.mul_le_mul_left _ (Nat.pow_pos (by omega))
  omega

theorem dec_head (c : UInt8) (l : List UInt8) : dec (c :: l) = c.toNat * 256 ^ l.length + dec l := by
  have h := dec_cat [c] l
  have e : dec [c] = c.toNat := by simp [dec]
  rw [e] at h
  exact h

/-- Eight bytes pass the half of 2^64 just if their first does. -/
theorem dec_eight (c : UInt8) (l : List UInt8) (h : l.length = 7) : (9223372036854775808 ≤ dec (c :: l)) ↔ 128 ≤ c.toNat := by
  have h1 := dec_lt l
  rw [dec_head]
  rw [h] at h1 ⊢
  have e : (256 : Nat) ^ 7 = 72057594037927936 := by decide
  rw [e] at h1 ⊢
  omega

/-- Less than eight bytes never do. -/
theorem dec_seven (l : List UInt8) (h : l.length ≤ 7) : dec l < 9223372036854775808 := by
  have h1 := dec_lt l
  have h2 : 256 ^ l.length ≤ 256 ^ 7 := Nat.pow_le_pow_right (by omega) h
  have e : (256 : Nat) ^ 7 = 72057594037927936 := by decide
  omega

end Go.Proofs.Ytkpoeigoocbgeaa

namespace Go.Proofs.Ytkpoeigoocbgeaa
open Go.RowKit

/-- A string out of bytes. -/
def str (l : List UInt8) : ByteArray := ⟨l.toArray⟩
theorem str_size (l : List UInt8) : (str l).size = l.length := by simp [str, ByteArray.size]
theorem str_list (l : List UInt8) : (str l).data.toList = l := rfl
theorem str_of (s : ByteArray) : str s.data.toList = s := rfl
theorem list_length (s : ByteArray) : s.data.toList.length = s.size := Array.length_toList

theorem or_step (d c : Nat) (hd : d < 72057594037927936) (hc : c < 256) : bits BinOp.or IntKind.u64 (IntKind.u64.wrap ((d : Int) * 256)) (IntKind.u64.wrap (c : Int)) = ((256 * d + c : Nat) : Int) := by
  have e1 : IntKind.u64.wrap ((d : Int) * 256) = ((d * 256 : Nat) : Int) := by rw [IntKind.wrap_u64]; omega
  have e2 : IntKind.u64.wrap (c : Int) = (c : Int) := by rw [IntKind.wrap_u64]; omega
  rw [e1, e2, u64_or_nat _ _ (by omega) (by omega), Nat.or_comm, nat_join8' (d * 256) c (by omega) hc]
  congr 1
  omega

theorem take_snoc (s : ByteArray) (k : Nat) (h : k < s.size) : s.data.toList.take (k + 1) = s.data.toList.take k ++ [s[k]] := by
  rw [List.take_succ_eq_append_getElem (by simpa using h)]; rfl

theorem pow8 {k : Nat} (h : k < 8) : 256 ^ k ≤ 72057594037927936 := by
  have : 256 ^ k ≤ 256 ^ 7 := Nat.pow_le_pow_right (by omega) (by omega)
  exact this

/-- Less than eight bytes make less than 2^56. -/
theorem dec_take_lt (s : ByteArray) (k : Nat) (h : k < s.size) (h8 : s.size ≤ 8) : dec (s.data.toList.take k) < 72057594037927936 := by
  have h1 := dec_lt (s.data.toList.take k)
  have h2 : (s.data.toList.take k).length ≤ k := List.length_take_le _ _
  have h3 : 256 ^ (s.data.toList.take k).length ≤ 72057594037927936 := pow8 (by omega)
  omega

theorem dec_step (s : ByteArray) (k : Nat) (h : k < s.size) (h8 : s.size ≤ 8) :
    bits BinOp.or IntKind.u64 (IntKind.u64.wrap ((dec (s.data.toList.take k) : Int) * 256)) (IntKind.u64.wrap ((s[k].toNat : Nat) : Int)) = ((dec (s.data.toList.take (k + 1)) : Nat) : Int) := by
  rw [or_step _ _ (dec_take_lt s k h h8) (s[k]).toNat_lt, take_snoc s k h, dec_snoc]

theorem take_all (s : ByteArray) (k : Nat) (h : ¬ k < s.size) : s.data.toList.take k = s.data.toList := List.take_of_length_le (by simp; omega)

theorem dec_lt64 (s : ByteArray) (h8 : s.size ≤ 8) : dec s.data.toList < 18446744073709551616 := by
  have h1 := dec_lt s.data.toList
  have h3 : 256 ^ s.data.toList.length ≤ 256 ^ 8 := Nat.pow_le_pow_right (by omega) (by rw [list_length]; exact h8)
  have h4 : (256 : Nat) ^ 8 = 18446744073709551616 := by decide
  omega

/-- A store into a row of cells that is known. -/
theorem row_set {w : World} {g : Nat} {t : TypeId} {cs : Array Value} (h : w.heap[g]? = some (.cells cs t (0, 0))) (i : Nat) (u : Value) :
    (w.setCell ⟨g, i, none⟩ u).heap[g]? = some (.cells (cs.setIfInBounds i u) t (0, 0)) := by
  simp [World.setCell, Array.getElem?_modify, h]

/-! ### The cells of a number that is being written from its end -/

def encCells (width k n : Nat) : Array Value := (List.replicate k (Value.int .u8 0) ++ (enc (width - k) n).map (fun c => Value.int .u8 (c.toNat : Int))).toArray

theorem encCells_all (width n : Nat) : encCells width width n = madeCells #[.int .u8 0] width := by
  apply Array.ext
  · simp [encCells, enc, madeCells]
  · intro i h1 h2
    simp [encCells, enc, madeCells]
    rw [Nat.mod_one]
    rfl

theorem encCells_at {width k n j : Nat} (h : j < k) : (encCells width k n)[j]? = some (.int .u8 0) := by
  simp [encCells, List.getElem?_append_left, h]

theorem encCells_done {width n j : Nat} (h : j < (enc width n).length) : (encCells width 0 n)[j]? = some (.int .u8 ((enc width n)[j].toNat : Int)) := by
  simp [encCells, List.getElem?_eq_getElem h]

theorem encCells_step {width j n : Nat} (h : j + 1 ≤ width) (v : Int) (hv : v = ((n / 256 ^ (width - (j + 1)) % 256 : Nat) : Int)) :
    (encCells width (j + 1) n).setIfInBounds j (.int .u8 v) = encCells width j n := by
  have e1 : width - j = (width - (j + 1)) + 1 := by omega
  have e2 : (UInt8.ofNat (n / 256 ^ (width - (j + 1)))).toNat = n / 256 ^ (width - (j + 1)) % 256 := by simp [UInt8.toNat_ofNat']
  unfold encCells
  rw [e1, enc_cons, List.setIfInBounds_toArray, List.set_append, List.length_replicate, if_pos (by omega), List.replicate_succ', List.set_append, List.length_replicate, if_neg (by omega), Nat.sub_self, List.map_cons, e2, hv]
  simp

end Go.Proofs.Ytkpoeigoocbgeaa

namespace Go.Proofs.Ytkpoeigoocbgeaa
open Go.RowKit

def putE (n width : Int) : Int := if width < 1 ∨ 8 < width then 1 else if n < 0 ∨ (256 : Int) ^ width.toNat ≤ n then 10 else 0
def putB (n width : Int) : List UInt8 := if putE n width = 0 then enc width.toNat n.toNat else []
def getE (l : List UInt8) : Int := if l.length < 1 ∨ 8 < l.length then 1 else if 9223372036854775808 ≤ dec l then 10 else 0
def getN (l : List UInt8) : Int := if getE l = 0 then (dec l : Int) else 0
def numE (l : List UInt8) (width : Int) : Int := if width < 1 ∨ 8 < width then 1 else if (l.length : Int) < width then 2 else getE (l.take width.toNat)
def numN (l : List UInt8) (width : Int) : Int := if numE l width = 0 then (dec (l.take width.toNat) : Int) else 0
def numR (l : List UInt8) (width : Int) : List UInt8 := if numE l width = 0 then l.drop width.toNat else []
def textE (l : List UInt8) : Int := if 65535 < l.length then 5 else 0
def textB (l : List UInt8) : List UInt8 := if textE l = 0 then enc 2 l.length ++ l else []
def takeE (l : List UInt8) : Int := if l.length < 2 ∨ l.length - 2 < dec (l.take 2) then 2 else 0
def takeA (l : List UInt8) : List UInt8 := if takeE l = 0 then (l.drop 2).take (dec (l.take 2)) else []
def takeR (l : List UInt8) : List UInt8 := if takeE l = 0 then (l.drop 2).drop (dec (l.take 2)) else []

theorem below_next {w w1 w2 : World} (h1 : Below w.heap.size w w1) (h2 : Below w1.heap.size w1 w2) : Below w.heap.size w w2 := h1.trans (h2.mono h1.size)

theorem pow_256 (k : Nat) : (256 : Nat) ^ k = 2 ^ (8 * k) := by rw [Nat.pow_mul]
theorem shr_none {n k : Nat} (h : n < 256 ^ k) : ((n : Int) / 2 ^ (8 * k) != 0) = false := by
  rw [pow_256] at h
  have e : (n : Int) / 2 ^ (8 * k) = ((n / 2 ^ (8 * k) : Nat) : Int) := by simp
  rw [e, Nat.div_eq_of_lt h]
  rfl
theorem shr_some {n k : Nat} (h : 256 ^ k ≤ n) : ((n : Int) / 2 ^ (8 * k) != 0) = true := by
  rw [pow_256] at h
  have e : (n : Int) / 2 ^ (8 * k) = ((n / 2 ^ (8 * k) : Nat) : Int) := by simp
  have h2 : 0 < n / 2 ^ (8 * k) := Nat.div_pos h (Nat.pow_pos (by omega))
  rw [e, bne_iff_ne]
  omega

theorem pow_256_le (k : Nat) (n : Nat) : ((256 : Int) ^ k ≤ (n : Int)) ↔ 256 ^ k ≤ n := by
  have : ((256 : Int) ^ k) = ((256 ^ k : Nat) : Int) := by simp
  rw [this]; omega

theorem putE_ok {n k : Nat} (h1 : 1 ≤ k) (h2 : k ≤ 8) (h : n < 256 ^ k) : putE (n : Int) (k : Int) = 0 := by
  have h3 : ¬ ((256 : Int) ^ k ≤ (n : Int)) := by rw [pow_256_le]; omega
  unfold putE
  rw [if_neg (by omega), if_neg (by rw [Int.toNat_natCast]; omega)]
theorem putE_big {n k : Nat} (h1 : 1 ≤ k) (h2 : k ≤ 8) (h : 256 ^ k ≤ n) : putE (n : Int) (k : Int) = 10 := by
  have h3 : (256 : Int) ^ k ≤ (n : Int) := by rw [pow_256_le]; omega
  unfold putE
  rw [if_neg (by omega), if_pos (by rw [Int.toNat_natCast]; exact Or.inr h3)]
theorem putE_neg {n width : Int} (h1 : 1 ≤ width) (h2 : width ≤ 8) (h : n < 0) : putE n width = 10 := by
  unfold putE
  rw [if_neg (by omega), if_pos (Or.inl h)]
theorem putE_arg {n width : Int} (h : width < 1 ∨ 8 < width) : putE n width = 1 := by
  unfold putE
  rw [if_pos h]
theorem putB_ok {n k : Nat} (h : putE (n : Int) (k : Int) = 0) : putB (n : Int) (k : Int) = enc k n := by
  unfold putB
  rw [if_pos h, Int.toNat_natCast, Int.toNat_natCast]
theorem putB_no {n width : Int} (h : putE n width ≠ 0) : putB n width = [] := by
  unfold putB
  rw [if_neg h]

theorem getN_no {l : List UInt8} (h : getE l ≠ 0) : getN l = 0 := by unfold getN; rw [if_neg h]
theorem getN_ok {l : List UInt8} (h : getE l = 0) : getN l = dec l := by unfold getN; rw [if_pos h]
theorem getE_arg {l : List UInt8} (h : l.length < 1 ∨ 8 < l.length) : getE l = 1 := by unfold getE; rw [if_pos h]
theorem getE_big {l : List UInt8} (h1 : 1 ≤ l.length) (h2 : l.length ≤ 8) (h : 9223372036854775808 ≤ dec l) : getE l = 10 := by unfold getE; rw [if_neg (by omega), if_pos h]
theorem getE_ok {l : List UInt8} (h1 : 1 ≤ l.length) (h2 : l.length ≤ 8) (h : dec l < 9223372036854775808) : getE l = 0 := by unfold getE; rw [if_neg (by omega), if_neg (by omega)]

theorem numE_arg {l : List UInt8} {width : Int} (h : width < 1 ∨ 8 < width) : numE l width = 1 := by unfold numE; rw [if_pos h]
theorem numE_short {l : List UInt8} {width : Int} (h1 : 1 ≤ width) (h2 : width ≤ 8) (h : (l.length : Int) < width) : numE l width = 2 := by unfold numE; rw [if_neg (by omega), if_pos h]
theorem numE_get {l : List UInt8} {k : Nat} (h1 : 1 ≤ k) (h2 : k ≤ 8) (h : k ≤ l.length) : numE l (k : Int) = getE (l.take k) := by unfold numE; rw [if_neg (by omega), if_neg (by omega), Int.toNat_natCast]
theorem numN_no {l : List UInt8} {width : Int} (h : numE l width ≠ 0) : numN l width = 0 := by unfold numN; rw [if_neg h]
theorem numR_no {l : List UInt8} {width : Int} (h : numE l width ≠ 0) : numR l width = [] := by unfold numR; rw [if_neg h]
theorem numN_ok {l : List UInt8} {k : Nat} (h : numE l (k : Int) = 0) : numN l (k : Int) = dec (l.take k) := by unfold numN; rw [if_pos h, Int.toNat_natCast]
theorem numR_ok {l : List UInt8} {k : Nat} (h : numE l (k : Int) = 0) : numR l (k : Int) = l.drop k := by unfold numR; rw [if_pos h, Int.toNat_natCast]

theorem textE_long {l : List UInt8} (h : 65535 < l.length) : textE l = 5 := by unfold textE; rw [if_pos h]
theorem textE_ok {l : List UInt8} (h : ¬ 65535 < l.length) : textE l = 0 := by unfold textE; rw [if_neg h]
theorem textB_long {l : List UInt8} (h : textE l ≠ 0) : textB l = [] := by unfold textB; rw [if_neg h]
theorem textB_ok {l : List UInt8} (h : textE l = 0) : textB l = enc 2 l.length ++ l := by unfold textB; rw [if_pos h]

theorem takeE_short {l : List UInt8} (h : l.length < 2) : takeE l = 2 := by unfold takeE; rw [if_pos (Or.inl h)]
theorem takeE_lack {l : List UInt8} (h : l.length - 2 < dec (l.take 2)) : takeE l = 2 := by unfold takeE; rw [if_pos (Or.inr h)]
theorem takeE_ok {l : List UInt8} (h : 2 ≤ l.length) (h2 : dec (l.take 2) ≤ l.length - 2) : takeE l = 0 := by unfold takeE; rw [if_neg (by omega)]
theorem takeA_no {l : List UInt8} (h : takeE l ≠ 0) : takeA l = [] := by unfold takeA; rw [if_neg h]
theorem takeR_no {l : List UInt8} (h : takeE l ≠ 0) : takeR l = [] := by unfold takeR; rw [if_neg h]
theorem takeA_ok {l : List UInt8} (h : takeE l = 0) : takeA l = (l.drop 2).take (dec (l.take 2)) := by unfold takeA; rw [if_pos h]
theorem takeR_ok {l : List UInt8} (h : takeE l = 0) : takeR l = (l.drop 2).drop (dec (l.take 2)) := by unfold takeR; rw [if_pos h]

theorem dec_take_two (l : List UInt8) : dec (l.take 2) < 65536 := by
  have h1 := dec_lt (l.take 2)
  have h2 : (l.take 2).length ≤ 2 := List.length_take_le _ _
  have h3 : 256 ^ (l.take 2).length ≤ 256 ^ 2 := Nat.pow_le_pow_right (by omega) h2
  omega

theorem extract_take (s : ByteArray) (k : Nat) : (s.extract 0 k).data.toList = s.data.toList.take k := by
  rw [Lib.extract_data]; simp
theorem extract_drop (s : ByteArray) (k : Nat) : (s.extract k s.size).data.toList = s.data.toList.drop k := by
  rw [Lib.extract_data, List.take_of_length_le]; rw [List.length_drop, list_length]; exact Nat.le_refl _
theorem extract_take_str (s : ByteArray) (k : Nat) : s.extract 0 k = str (s.data.toList.take k) := by rw [← extract_take]; rfl
theorem extract_drop_str (s : ByteArray) (k : Nat) : s.extract k s.size = str (s.data.toList.drop k) := by rw [← extract_drop]; rfl

theorem str_cat (l m : List UInt8) : str l ++ str m = str (l ++ m) := by
  apply ByteArray.ext
  rw [ByteArray.data_append]
  simp [str]
theorem str_cat_of (l : List UInt8) (s : ByteArray) : str l ++ s = str (l ++ s.data.toList) := by rw [← str_cat]; rfl

end Go.Proofs.Ytkpoeigoocbgeaa
