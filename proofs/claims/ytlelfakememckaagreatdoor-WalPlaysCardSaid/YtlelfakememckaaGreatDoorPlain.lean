/- Plain facts on big-endian bytes: 'enc w n' (n in w bytes) and 'dec l' (the number of the bytes l) are inverse to one another, and order is kept. No program in sight. Small facts on numbers, bytes and blocks of memory that the walks of the octet functions use. No function of the program in sight. What the functions of the package octet answer, as plain functions on lists of bytes; small facts on them. No program in sight. Words for slices in memory: the cells of a slice lie where its address says ('Lies'), also those of a row of the call's own. No function of the program in sight. Laws for single operations of a plain region whose run is known: build, alloc, store and load of an aggregate, copy of a text. No function of the program in sight. A region that draws its order, whose operations only read what was there, and whose callees leave what was there: walked once, in the order of the text. The class of worlds: all in which what was there is as it was ('LatW'). What a call leaves alone ('Moves'). No function of the program in sight. -/
import Derived.WalkKit
import Derived.Lib.Builder
import Derived.Lib.Strings
import Derived.Below
import Derived.Laws.OwnMore
import Derived.Deep.OwnRows
import Derived.Maps.AppendAt
import Derived.Deep.Draws
import Derived.Lib.Hide
import Derived.WalkSpells
import Derived.Deep.MidRow
import Derived.Deep.WholeRow
import Derived.Lib.LazyBuf
import Derived.Deep.QuietTactic
namespace Go.Proofs.YtlelfakememckaaGreatDoor

/-- n in w bytes, the greatest first. -/
def enc : Nat → Nat → List UInt8
  | 0, _ => []
  | w + 1, n => enc w (n / 256) ++ [UInt8.ofNat n]

/-- The number of some bytes, the greatest first. -/
def dec (l : List UInt8) : Nat := l.foldl (fun a c => 256 * a + c.toNat) 0

theorem enc_length (w n : Nat) : (enc w n).length = w := by
  induction w generalizing n with
  | zero => rfl
  | succ w ih => simp [enc, ih]

theorem dec_nil : dec [] = 0 := rfl

theorem dec_snoc (l : List UInt8) (c : UInt8) : dec (l ++ [c]) = 256 * dec l + c.toNat := by
  simp [dec, List.foldl_append]

theorem dec_lt (l : List UInt8) : dec l < 256 ^ l.length := by
  have h : ∀ n (l : List UInt8), l.length = n → dec l < 256 ^ n := by
    intro n
    induction n with
    | zero => intro l h; have := List.eq_nil_of_length_eq_zero h; subst this; simp [dec]
    | succ n ih =>
      intro l h
      have hne : l ≠ [] := by intro e; subst e; simp at h
      have hs := List.dropLast_concat_getLast hne
      have hl : l.dropLast.length = n := by simp [h]
      have hi := ih _ hl
      rw [← hs, dec_snoc, Nat.pow_succ]
      have := (l.getLast hne).toNat_lt
      omega
  exact h _ l rfl

theorem dec_enc (w n : Nat) : dec (enc w n) = n % 256 ^ w := by
  induction w generalizing n with
  | zero => simp [enc, dec, Nat.mod_one]
  | succ w ih =>
    rw [enc, dec_snoc, ih, Nat.pow_succ, Nat.mul_comm (256 ^ w) 256, Nat.mod_mul]
    simp [UInt8.toNat_ofNat']
    omega

theorem dec_enc_of_lt {w n : Nat} (h : n < 256 ^ w) : dec (enc w n) = n := by rw [dec_enc, Nat.mod_eq_of_lt h]

theorem enc_dec (l : List UInt8) : enc l.length (dec l) = l := by
  have h : ∀ n (l : List UInt8), l.length = n → enc n (dec l) = l := by
    intro n
    induction n with
    | zero => intro l h; have := List.eq_nil_of_length_eq_zero h; subst this; rfl
    | succ n ih =>
      intro l h
      have hne : l ≠ [] := by intro e; subst e; simp at h
      have hs := List.dropLast_concat_getLast hne
      have hl : l.dropLast.length = n := by simp [h]
      have hi := ih _ hl
      have hd : dec l = 256 * dec l.dropLast + (l.getLast hne).toNat := by
        rw [← dec_snoc, hs]
      have hb := (l.getLast hne).toNat_lt
      rw [enc]
      have e1 : dec l / 256 = dec l.dropLast := by omega
      have e2 : UInt8.ofNat (dec l) = l.getLast hne := by
        apply UInt8.toNat_inj.1
        rw [UInt8.toNat_ofNat']
        omega
      rw [e1, hi, e2, hs]
  exact h _ l rfl

theorem enc_inj {w a b : Nat} (ha : a < 256 ^ w) (hb : b < 256 ^ w) (h : enc w a = enc w b) : a = b := by
  have := congrArg dec h
  rwa [dec_enc_of_lt ha, dec_enc_of_lt hb] at this

/-- Bytes from place k on of the whole: the low digits. -/
theorem enc_cons (w n : Nat) : enc (w + 1) n = UInt8.ofNat (n / 256 ^ w) :: enc w n := by
  induction w generalizing n with
  | zero => simp [enc]
  | succ w ih =>
    rw [enc, ih (n / 256), enc, List.cons_append, Nat.div_div_eq_div_mul, Nat.pow_succ, Nat.mul_comm 256]

theorem enc_cat (a b n : Nat) : enc (a + b) n = enc a (n / 256 ^ b) ++ enc b n := by
  induction a generalizing n with
  | zero => simp [enc]
  | succ a ih =>
    rw [show a + 1 + b = (a + b) + 1 from by omega, enc_cons, ih, enc_cons, Nat.div_div_eq_div_mul, ← Nat.pow_add, Nat.add_comm b a, List.cons_append]

theorem dec_cat (l m : List UInt8) : dec (l ++ m) = dec l * 256 ^ m.length + dec m := by
  have h : ∀ n (m : List UInt8), m.length = n → dec (l ++ m) = dec l * 256 ^ n + dec m := by
    intro n
    induction n with
    | zero => intro m h; have := List.eq_nil_of_length_eq_zero h; subst this; simp [dec]
    | succ n ih =>
      intro m h
      have hne : m ≠ [] := by intro e; subst e; simp at h
      have hs := List.dropLast_concat_getLast hne
      have hl : m.dropLast.length = n := by simp [h]
      have hi := ih _ hl
      rw [← hs, ← List.append_assoc, dec_snoc, hi, dec_snoc, Nat.pow_succ]
      have e : dec l * (256 ^ n * 256) = 256 * (dec l * 256 ^ n) := by rw [← Nat.mul_assoc, Nat.mul_comm]
      rw [e]
      omega
  exact h _ m rfl

theorem dec_take_le (l : List UInt8) (k : Nat) : dec (l.take k) ≤ dec l := by
  have h := dec_cat (l.take k) (l.drop k)
  rw [List.take_append_drop] at h
  have h2 : dec (l.take k) * 1 ≤ dec (l.take k) * 256 ^ (l.drop k).length := Nat.mul_le_mul_left _ (Nat.pow_pos (by omega))
  omega

theorem dec_head (c : UInt8) (l : List UInt8) : dec (c :: l) = c.toNat * 256 ^ l.length + dec l := by
  have h := dec_cat [c] l
  have e : dec [c] = c.toNat := by simp [dec]
  rw [e] at h
  exact h

/-- Eight bytes pass the half of 2^64 just if their first does. -/
theorem dec_eight (c : UInt8) (l : List UInt8) (h : l.length = 7) : (9223372036854775808 ≤ dec (c :: l)) ↔ 128 ≤ c.toNat := by
  have h1 := dec_lt l
  rw [dec_head]
  rw [h] at h1 ⊢
  have e : (256 : Nat) ^ 7 = 72057594037927936 := by decide
  rw [e] at h1 ⊢
  omega

/-- Less than eight bytes never do. -/
theorem dec_seven (l : List UInt8) (h : l.length ≤ 7) : dec l < 9223372036854775808 := by
  have h1 := dec_lt l
  have h2 : 256 ^ l.length ≤ 256 ^ 7 := Nat.pow_le_pow_right (by omega) h
  have e : (256 : Nat) ^ 7 = 72057594037927936 := by decide
  omega

end Go.Proofs.YtlelfakememckaaGreatDoor

namespace Go.Proofs.YtlelfakememckaaGreatDoor
open Go.RowKit

/-- A string out of bytes. -/
def str (l : List UInt8) : ByteArray := ⟨l.toArray⟩
theorem str_size (l : List UInt8) : (str l).size = l.length := by simp [str, ByteArray.size]
theorem str_list (l : List UInt8) : (str l).data.toList = l := rfl
theorem str_of (s : ByteArray) : str s.data.toList = s := rfl
theorem list_length (s : ByteArray) : s.data.toList.length = s.size := Array.length_toList

theorem or_step (d c : Nat) (hd : d < 72057594037927936) (hc : c < 256) : bits BinOp.or IntKind.u64 (IntKind.u64.wrap ((d : Int) * 256)) (IntKind.u64.wrap (c : Int)) = ((256 * d + c : Nat) : Int) := by
  have e1 : IntKind.u64.wrap ((d : Int) * 256) = ((d * 256 : Nat) : Int) := by rw [IntKind.wrap_u64]; omega
  have e2 : IntKind.u64.wrap (c : Int) = (c : Int) := by rw [IntKind.wrap_u64]; omega
  rw [e1, e2, u64_or_nat _ _ (by omega) (by omega), Nat.or_comm, nat_join8' (d * 256) c (by omega) hc]
  congr 1
  omega

theorem take_snoc (s : ByteArray) (k : Nat) (h : k < s.size) : s.data.toList.take (k + 1) = s.data.toList.take k ++ [s[k]] := by
  rw [List.take_succ_eq_append_getElem (by simpa using h)]; rfl

theorem pow8 {k : Nat} (h : k < 8) : 256 ^ k ≤ 72057594037927936 := by
  have : 256 ^ k ≤ 256 ^ 7 := Nat.pow_le_pow_right (by omega) (by omega)
  exact this

/-- Less than eight bytes make less than 2^56. -/
theorem dec_take_lt (s : ByteArray) (k : Nat) (h : k < s.size) (h8 : s.size ≤ 8) : dec (s.data.toList.take k) < 72057594037927936 := by
  have h1 := dec_lt (s.data.toList.take k)
  have h2 : (s.data.toList.take k).length ≤ k := List.length_take_le _ _
  have h3 : 256 ^ (s.data.toList.take k).length ≤ 72057594037927936 := pow8 (by omega)
  omega

theorem dec_step (s : ByteArray) (k : Nat) (h : k < s.size) (h8 : s.size ≤ 8) :
    bits BinOp.or IntKind.u64 (IntKind.u64.wrap ((dec (s.data.toList.take k) : Int) * 256)) (IntKind.u64.wrap ((s[k].toNat : Nat) : Int)) = ((dec (s.data.toList.take (k + 1)) : Nat) : Int) := by
  rw [or_step _ _ (dec_take_lt s k h h8) (s[k]).toNat_lt, take_snoc s k h, dec_snoc]

theorem take_all (s : ByteArray) (k : Nat) (h : ¬ k < s.size) : s.data.toList.take k = s.data.toList := List.take_of_length_le (by simp; omega)

theorem dec_lt64 (s : ByteArray) (h8 : s.size ≤ 8) : dec s.data.toList < 18446744073709551616 := by
  have h1 := dec_lt s.data.toList
  have h3 : 256 ^ s.data.toList.length ≤ 256 ^ 8 := Nat.pow_le_pow_right (by omega) (by rw [list_length]; exact h8)
  have h4 : (256 : Nat) ^ 8 = 18446744073709551616 := by decide
  omega

/-- A store into a row of cells that is known. -/
theorem row_set {w : World} {g : Nat} {t : TypeId} {cs : Array Value} (h : w.heap[g]? = some (.cells cs t (0, 0))) (i : Nat) (u : Value) :
    (w.setCell ⟨g, i, none⟩ u).heap[g]? = some (.cells (cs.setIfInBounds i u) t (0, 0)) := by
  simp [World.setCell, Array.getElem?_modify, h]

/-! ### The cells of a number that is being written from its end -/

def encCells (width k n : Nat) : Array Value := (List.replicate k (Value.int .u8 0) ++ (enc (width - k) n).map (fun c => Value.int .u8 (c.toNat : Int))).toArray

theorem encCells_all (width n : Nat) : encCells width width n = madeCells #[.int .u8 0] width := by
  apply Array.ext
  · simp [encCells, enc, madeCells]
  · intro i h1 h2
    simp [encCells, enc, madeCells]
    rw [Nat.mod_one]
    rfl

theorem encCells_at {width k n j : Nat} (h : j < k) : (encCells width k n)[j]? = some (.int .u8 0) := by
  simp [encCells, List.getElem?_append_left, h]

theorem encCells_done {width n j : Nat} (h : j < (enc width n).length) : (encCells width 0 n)[j]? = some (.int .u8 ((enc width n)[j].toNat : Int)) := by
  simp [encCells, List.getElem?_eq_getElem h]

theorem encCells_step {width j n : Nat} (h : j + 1 ≤ width) (v : Int) (hv : v = ((n / 256 ^ (width - (j + 1)) % 256 : Nat) : Int)) :
    (encCells width (j + 1) n).setIfInBounds j (.int .u8 v) = encCells width j n := by
  have e1 : width - j = (width - (j + 1)) + 1 := by omega
  have e2 : (UInt8.ofNat (n / 256 ^ (width - (j + 1)))).toNat = n / 256 ^ (width - (j + 1)) % 256 := by simp [UInt8.toNat_ofNat']
  unfold encCells
  rw [e1, enc_cons, List.setIfInBounds_toArray, List.set_append, List.length_replicate, if_pos (by omega), List.replicate_succ', List.set_append, List.length_replicate, if_neg (by omega), Nat.sub_self, List.map_cons, e2, hv]
  simp

end Go.Proofs.YtlelfakememckaaGreatDoor

namespace Go.Proofs.YtlelfakememckaaGreatDoor
open Go.RowKit

def putE (n width : Int) : Int := if width < 1 ∨ 8 < width then 1 else if n < 0 ∨ (256 : Int) ^ width.toNat ≤ n then 10 else 0
def putB (n width : Int) : List UInt8 := if putE n width = 0 then enc width.toNat n.toNat else []
def getE (l : List UInt8) : Int := if l.length < 1 ∨ 8 < l.length then 1 else if 9223372036854775808 ≤ dec l then 10 else 0
def getN (l : List UInt8) : Int := if getE l = 0 then (dec l : Int) else 0
def numE (l : List UInt8) (width : Int) : Int := if width < 1 ∨ 8 < width then 1 else if (l.length : Int) < width then 2 else getE (l.take width.toNat)
def numN (l : List UInt8) (width : Int) : Int := if numE l width = 0 then (dec (l.take width.toNat) : Int) else 0
def numR (l : List UInt8) (width : Int) : List UInt8 := if numE l width = 0 then l.drop width.toNat else []
def textE (l : List UInt8) : Int := if 65535 < l.length then 5 else 0
def textB (l : List UInt8) : List UInt8 := if textE l = 0 then enc 2 l.length ++ l else []
def takeE (l : List UInt8) : Int := if l.length < 2 ∨ l.length - 2 < dec (l.take 2) then 2 else 0
def takeA (l : List UInt8) : List UInt8 := if takeE l = 0 then (l.drop 2).take (dec (l.take 2)) else []
def takeR (l : List UInt8) : List UInt8 := if takeE l = 0 then (l.drop 2).drop (dec (l.take 2)) else []

theorem below_next {w w1 w2 : World} (h1 : Below w.heap.size w w1) (h2 : Below w1.heap.size w1 w2) : Below w.heap.size w w2 := h1.trans (h2.mono h1.size)

theorem pow_256 (k : Nat) : (256 : Nat) ^ k = 2 ^ (8 * k) := by rw [Nat.pow_mul]
theorem shr_none {n k : Nat} (h : n < 256 ^ k) : ((n : Int) / 2 ^ (8 * k) != 0) = false := by
  rw [pow_256] at h
  have e : (n : Int) / 2 ^ (8 * k) = ((n / 2 ^ (8 * k) : Nat) : Int) := by simp
  rw [e, Nat.div_eq_of_lt h]
  rfl
theorem shr_some {n k : Nat} (h : 256 ^ k ≤ n) : ((n : Int) / 2 ^ (8 * k) != 0) = true := by
  rw [pow_256] at h
  have e : (n : Int) / 2 ^ (8 * k) = ((n / 2 ^ (8 * k) : Nat) : Int) := by simp
  have h2 : 0 < n / 2 ^ (8 * k) := Nat.div_pos h (Nat.pow_pos (by omega))
  rw [e, bne_iff_ne]
  omega

theorem pow_256_le (k : Nat) (n : Nat) : ((256 : Int) ^ k ≤ (n : Int)) ↔ 256 ^ k ≤ n := by
  have : ((256 : Int) ^ k) = ((256 ^ k : Nat) : Int) := by simp
  rw [this]; omega

theorem putE_ok {n k : Nat} (h1 : 1 ≤ k) (h2 : k ≤ 8) (h : n < 256 ^ k) : putE (n : Int) (k : Int) = 0 := by
  have h3 : ¬ ((256 : Int) ^ k ≤ (n : Int)) := by rw [pow_256_le]; omega
  unfold putE
  rw [if_neg (by omega), if_neg (by rw [Int.toNat_natCast]; omega)]
theorem putE_big {n k : Nat} (h1 : 1 ≤ k) (h2 : k ≤ 8) (h : 256 ^ k ≤ n) : putE (n : Int) (k : Int) = 10 := by
  have h3 : (256 : Int) ^ k ≤ (n : Int) := by rw [pow_256_le]; omega
  unfold putE
  rw [if_neg (by omega), if_pos (by rw [Int.toNat_natCast]; exact Or.inr h3)]
theorem putE_neg {n width : Int} (h1 : 1 ≤ width) (h2 : width ≤ 8) (h : n < 0) : putE n width = 10 := by
  unfold putE
  rw [if_neg (by omega), if_pos (Or.inl h)]
theorem putE_arg {n width : Int} (h : width < 1 ∨ 8 < width) : putE n width = 1 := by
  unfold putE
  rw [if_pos h]
theorem putB_ok {n k : Nat} (h : putE (n : Int) (k : Int) = 0) : putB (n : Int) (k : Int) = enc k n := by
  unfold putB
  rw [if_pos h, Int.toNat_natCast, Int.toNat_natCast]
theorem putB_no {n width : Int} (h : putE n width ≠ 0) : putB n width = [] := by
  unfold putB
  rw [if_neg h]

theorem getN_no {l : List UInt8} (h : getE l ≠ 0) : getN l = 0 := by unfold getN; rw [if_neg h]
theorem getN_ok {l : List UInt8} (h : getE l = 0) : getN l = dec l := by unfold getN; rw [if_pos h]
theorem getE_arg {l : List UInt8} (h : l.length < 1 ∨ 8 < l.length) : getE l = 1 := by unfold getE; rw [if_pos h]
theorem getE_big {l : List UInt8} (h1 : 1 ≤ l.length) (h2 : l.length ≤ 8) (h : 9223372036854775808 ≤ dec l) : getE l = 10 := by unfold getE; rw [if_neg (by omega), if_pos h]
theorem getE_ok {l : List UInt8} (h1 : 1 ≤ l.length) (h2 : l.length ≤ 8) (h : dec l < 9223372036854775808) : getE l = 0 := by unfold getE; rw [if_neg (by omega), if_neg (by omega)]

theorem numE_arg {l : List UInt8} {width : Int} (h : width < 1 ∨ 8 < width) : numE l width = 1 := by unfold numE; rw [if_pos h]
theorem numE_short {l : List UInt8} {width : Int} (h1 : 1 ≤ width) (h2 : width ≤ 8) (h : (l.length : Int) < width) : numE l width = 2 := by unfold numE; rw [if_neg (by omega), if_pos h]
theorem numE_get {l : List UInt8} {k : Nat} (h1 : 1 ≤ k) (h2 : k ≤ 8) (h : k ≤ l.length) : numE l (k : Int) = getE (l.take k) := by unfold numE; rw [if_neg (by omega), if_neg (by omega), Int.toNat_natCast]
theorem numN_no {l : List UInt8} {width : Int} (h : numE l width ≠ 0) : numN l width = 0 := by unfold numN; rw [if_neg h]
theorem numR_no {l : List UInt8} {width : Int} (h : numE l width ≠ 0) : numR l width = [] := by unfold numR; rw [if_neg h]
theorem numN_ok {l : List UInt8} {k : Nat} (h : numE l (k : Int) = 0) : numN l (k : Int) = dec (l.take k) := by unfold numN; rw [if_pos h, Int.toNat_natCast]
theorem numR_ok {l : List UInt8} {k : Nat} (h : numE l (k : Int) = 0) : numR l (k : Int) = l.drop k := by unfold numR; rw [if_pos h, Int.toNat_natCast]

theorem textE_long {l : List UInt8} (h : 65535 < l.length) : textE l = 5 := by unfold textE; rw [if_pos h]
theorem textE_ok {l : List UInt8} (h : ¬ 65535 < l.length) : textE l = 0 := by unfold textE; rw [if_neg h]
theorem textB_long {l : List UInt8} (h : textE l ≠ 0) : textB l = [] := by unfold textB; rw [if_neg h]
theorem textB_ok {l : List UInt8} (h : textE l = 0) : textB l = enc 2 l.length ++ l := by unfold textB; rw [if_pos h]

theorem takeE_short {l : List UInt8} (h : l.length < 2) : takeE l = 2 := by unfold takeE; rw [if_pos (Or.inl h)]
theorem takeE_lack {l : List UInt8} (h : l.length - 2 < dec (l.take 2)) : takeE l = 2 := by unfold takeE; rw [if_pos (Or.inr h)]
theorem takeE_ok {l : List UInt8} (h : 2 ≤ l.length) (h2 : dec (l.take 2) ≤ l.length - 2) : takeE l = 0 := by unfold takeE; rw [if_neg (by omega)]
theorem takeA_no {l : List UInt8} (h : takeE l ≠ 0) : takeA l = [] := by unfold takeA; rw [if_neg h]
theorem takeR_no {l : List UInt8} (h : takeE l ≠ 0) : takeR l = [] := by unfold takeR; rw [if_neg h]
theorem takeA_ok {l : List UInt8} (h : takeE l = 0) : takeA l = (l.drop 2).take (dec (l.take 2)) := by unfold takeA; rw [if_pos h]
theorem takeR_ok {l : List UInt8} (h : takeE l = 0) : takeR l = (l.drop 2).drop (dec (l.take 2)) := by unfold takeR; rw [if_pos h]

theorem dec_take_two (l : List UInt8) : dec (l.take 2) < 65536 := by
  have h1 := dec_lt (l.take 2)
  have h2 : (l.take 2).length ≤ 2 := List.length_take_le _ _
  have h3 : 256 ^ (l.take 2).length ≤ 256 ^ 2 := Nat.pow_le_pow_right (by omega) h2
  omega

theorem extract_take (s : ByteArray) (k : Nat) : (s.extract 0 k).data.toList = s.data.toList.take k := by
  rw [Lib.extract_data]; simp
theorem extract_drop (s : ByteArray) (k : Nat) : (s.extract k s.size).data.toList = s.data.toList.drop k := by
  rw [Lib.extract_data, List.take_of_length_le]; rw [List.length_drop, list_length]; exact Nat.le_refl _
theorem extract_take_str (s : ByteArray) (k : Nat) : s.extract 0 k = str (s.data.toList.take k) := by rw [← extract_take]; rfl
theorem extract_drop_str (s : ByteArray) (k : Nat) : s.extract k s.size = str (s.data.toList.drop k) := by rw [← extract_drop]; rfl

theorem str_cat (l m : List UInt8) : str l ++ str m = str (l ++ m) := by
  apply ByteArray.ext
  rw [ByteArray.data_append]
  simp [str]
theorem str_cat_of (l : List UInt8) (s : ByteArray) : str l ++ s = str (l ++ s.data.toList) := by rw [← str_cat]; rfl

end Go.Proofs.YtlelfakememckaaGreatDoor

namespace Go.Proofs.YtlelfakememckaaGreatDoor
open Go.RowKit

/-- The cells cs lie where a slice's address says, below block B. -/
def Lies (w : World) (B : Nat) (A : Option Addr) (cs : List Value) : Prop :=
  cs = [] ∨ ∃ b off, A = some ⟨b, off, none⟩ ∧ b < B ∧ ∀ i, (h : i < cs.length) → w.cell? ⟨b, off + i, none⟩ = some cs[i]

theorem Lies.at_ {w : World} {B : Nat} {A : Option Addr} {cs : List Value} (h : Lies w B A cs) (hn : cs ≠ []) :
    ∃ b off, A = some ⟨b, off, none⟩ ∧ b < B ∧ ∀ i, (h : i < cs.length) → w.cell? ⟨b, off + i, none⟩ = some cs[i] := by
  rcases h with rfl | h
  · exact absurd rfl hn
  · exact h
theorem Lies.below {w w' : World} {B : Nat} {A : Option Addr} {cs : List Value} (h : Lies w B A cs) (hb : Below B w w') : Lies w' B A cs := by
  rcases h with h | ⟨b, off, hA, hlt, hc⟩
  · exact .inl h
  · exact .inr ⟨b, off, hA, hlt, fun i hi => (hb.cell (p := ⟨b, off + i, none⟩) hlt).trans (hc i hi)⟩
theorem Lies.more {w : World} {B B' : Nat} {A : Option Addr} {cs : List Value} (h : Lies w B A cs) (hB : B ≤ B') : Lies w B' A cs := by
  rcases h with h | ⟨b, off, hA, hlt, hc⟩
  · exact .inl h
  · exact .inr ⟨b, off, hA, by omega, hc⟩
theorem Lies.next {w w' : World} {A : Option Addr} {cs : List Value} (h : Lies w w.heap.size A cs) (hb : Below w.heap.size w w') : Lies w' w'.heap.size A cs := (h.below hb).more hb.size

/-- A row of the call's own, as such. -/
theorem own_lies {w : World} {base : Nat} {e : TypeId} {size : Nat} {v : Value} {n : Nat} {cs : List Value} (h : w.ownsRow base e size v n cs) :
    ∃ A c, v = .slice A n c ∧ cs.length = n * size ∧ Lies w w.heap.size A cs := by
  have hl := h.1
  rcases h.2 with ⟨rfl, rfl⟩ | ⟨g, cap, cur, rfl, hb, hg, hn, hm, hs, ht⟩
  · exact ⟨none, 0, rfl, hl, .inl (List.eq_nil_of_length_eq_zero (by omega))⟩
  · refine ⟨some ⟨g, 0, none⟩, cap, rfl, hl, .inr ⟨g, 0, rfl, ?_, fun i hi => ?_⟩⟩
    · exact (h.lt g rfl).2
    · have := h.cells (g := g) rfl i _ (List.getElem?_eq_getElem hi)
      rwa [WideShapes.add_plain] at this

theorem own_kept {w w' : World} {base : Nat} {e : TypeId} {size n : Nat} {v : Value} {xs : List Value} (h : w.ownsRow base e size v n xs) (hb : Below w.heap.size w w') : w'.ownsRow base e size v n xs :=
  h.kept (row := none) ⟨hb.os, hb.tape, hb.output, hb.size, fun i hi _ => hb.block i hi⟩ (by cases hv : v.ownBlock <;> simp)
end Go.Proofs.YtlelfakememckaaGreatDoor

namespace Go.Proofs.YtlelfakememckaaGreatDoor
open Go.RowKit

theorem alloc_drew (w : World) (o : Obj) : w.drew.alloc o = (w.alloc o).drew := rfl
theorem drew_size (w : World) : w.drew.heap.size = w.heap.size := rfl
theorem drew_cell (w : World) (p : Addr) : w.drew.cell? p = w.cell? p := rfl
theorem drew_frozen (w : World) (p : Addr) : w.drew.frozen? p = w.frozen? p := rfl
theorem drew_heap (w : World) (k : Nat) : w.drew.heap[k]? = w.heap[k]? := rfl

section
variable {P : Program} {ops : Array Oper} {rest : List Oper} {o : Oper} {a : Act} {w : World} {Q : Exit → Act → World → Prop}

theorem wp_value {K : Act → World → Prop} (v : Value) (w' : World) (hrun : (execOp a.eval o).run P w = .ok (.value v) w') (h : K (a.put o.dst v) w') : o.wp P a w K Q := by
  unfold Oper.wp; rw [hrun]; exact h
theorem wp_skipped {K : Act → World → Prop} (w' : World) (hrun : (execOp a.eval o).run P w = .ok .skip w') (h : K (a.put o.dst undef) w') : o.wp P a w K Q := by
  unfold Oper.wp; rw [hrun]; exact h

theorem wpList_value (hg : o.guard = none) (v : Value) (w' : World) (hrun : (execOp a.eval o).run P w = .ok (.value v) w') (h : wpList P ops Q rest (a.put o.dst v) w') : wpList P ops Q (o :: rest) a w :=
  wpList_plain hg fun _ hK => by unfold Oper.wp; rw [hrun]; exact hK _ _ h
theorem wpList_skipped (hg : o.guard = none) (w' : World) (hrun : (execOp a.eval o).run P w = .ok .skip w') (h : wpList P ops Q rest (a.put o.dst undef) w') : wpList P ops Q (o :: rest) a w :=
  wpList_plain hg fun _ hK => by unfold Oper.wp; rw [hrun]; exact hK _ _ h

theorem wpList_build_known (hg : o.guard = none) (t : TypeId) (parts : Array (Nat × Operand)) (ho : o.op = .build t parts) (v : Value) (w' : World) (ps : Array (Nat × Value)) (hp : (parts.map fun (i, x) => (i, a.eval x)) = ps)
    (hrun : (Instr.build t ps).run P w = .ok v w') (h : wpList P ops Q rest (a.put o.dst v) w') : wpList P ops Q (o :: rest) a w := by
  refine wpList_value hg v w' ?_ h
  subst hp
  unfold execOp
  simp only [ho, Sem.run_bind, hrun, Result.andThen_ok, Sem.run_pure]

theorem wp_buildSlice_known {K : Act → World → Prop} (t : TypeId) (n : Nat) (parts : Array (Nat × Operand)) (ho : o.op = .buildSlice t n parts) (v : Value) (w' : World) (ps : Array (Nat × Value)) (hp : (parts.map fun (i, x) => (i, a.eval x)) = ps)
    (hrun : (Instr.buildSlice t n ps).run P w = .ok v w') (h : K (a.put o.dst v) w') : o.wp P a w K Q := by
  refine wp_value v w' ?_ h
  subst hp
  unfold execOp
  simp only [ho, Sem.run_bind, hrun, Result.andThen_ok, Sem.run_pure]

theorem run_loadAt_one {t : TypeId} {d : TypeDesc} {p : Addr} {v : Value} (hu : P.underlying t = some d) (hd : d.isRow = false) (hc : w.cell? p = some v) : (Instr.loadAt t (.pointer (some p))).run P w = .ok v w := by
  have hagg : (isAgg t).run P w = .ok false w := by
    unfold isAgg
    rw [Sem.run_bind, run_underlying hu w]
    cases d <;> simp_all [TypeDesc.isRow]
  simp [Instr.loadAt, Instr.sureAddr, loadVar, Sem.run_bind, hagg, hc]
theorem run_storeAt_one {t : TypeId} {p : Addr} {u v : Value} (hi : (P.info? t).map (·.size) = some 1) (hv : v.oneCell' = true) (hvc : v.cells = #[v]) (hc : w.cell? p = some u) (hf : w.frozen? p = false) :
    (Instr.storeAt t (.pointer (some p)) v).run P w = .ok () (w.setCell p v) := by
  cases hq : P.info? t with
  | none => simp [hq] at hi
  | some i =>
    simp [hq] at hi
    have hp : p.add 0 = p := by cases p; simp [Addr.add]
    simp [Instr.storeAt, Instr.sureAddr, storeVar, Sem.run_bind, sizeOf, typeInfo, hq, hi, hvc, storeCells, hp, run_store P w p v _ hv, hc, hf]

theorem wp_load_one {K : Act → World → Prop} (t : TypeId) (x : Operand) (ho : o.op = .load t x) {d : TypeDesc} (p : Addr) (v : Value) (hx : a.eval x = .pointer (some p)) (hu : P.underlying t = some d) (hd : d.isRow = false) (hc : w.cell? p = some v) (h : K (a.put o.dst v) w) : o.wp P a w K Q := by
  refine wp_value v w ?_ h
  unfold execOp
  simp only [ho, hx, Sem.run_bind, run_loadAt_one hu hd hc, Result.andThen_ok, Sem.run_pure]
theorem wp_store_one {K : Act → World → Prop} (t : TypeId) (x y : Operand) (ho : o.op = .store t x y) (p : Addr) (u v : Value) (hx : a.eval x = .pointer (some p)) (hy : a.eval y = v) (hi : (P.info? t).map (·.size) = some 1) (hv : v.oneCell' = true) (hvc : v.cells = #[v])
    (hc : w.cell? p = some u) (hf : w.frozen? p = false) (h : K (a.put o.dst undef) (w.setCell p v)) : o.wp P a w K Q := by
  refine wp_skipped _ ?_ h
  unfold execOp
  simp only [ho, hx, hy, Sem.run_bind, run_storeAt_one hi hv hvc hc hf, Result.andThen_ok, Sem.run_pure]

theorem wpList_alloc_known (hg : o.guard = none) (t : TypeId) (ho : o.op = .alloc t) (Z : Array Value) (hz : (zeroValue t).run P w = .ok (.agg Z) w)
    (h : wpList P ops Q rest (a.put o.dst (.pointer (some ⟨w.heap.size, 0, none⟩))) (w.alloc (.cells Z t))) : wpList P ops Q (o :: rest) a w := by
  refine wpList_value hg _ _ ?_ h
  unfold execOp
  simp [ho, Instr.alloc, hz, newVar, newRow, Value.cells]

theorem wpList_store_new (hg : o.guard = none) (t : TypeId) (x y : Operand) (ho : o.op = .store t x y) (w0 : World) (c c' : Array Value) (hw : w = w0.alloc (.cells c t)) (hx : a.eval x = .pointer (some ⟨w0.heap.size, 0, none⟩)) (hy : a.eval y = .agg c')
    (hi : (P.info? t).map (·.size) = some c'.size) (hs : c.size = c'.size) (h1 : c'.all (·.oneCell') = true)
    (h : wpList P ops Q rest (a.put o.dst undef) (w0.alloc (.cells c' t))) : wpList P ops Q (o :: rest) a w := by
  subst hw
  refine wpList_skipped hg _ ?_ h
  have := run_storeAt_new (P := P) w0 t c c' hi hs h1
  unfold execOp
  simp only [ho, hx, hy, Sem.run_bind, this, Result.andThen_ok, Sem.run_pure]

theorem wpList_copy_string (hg : o.guard = none) (d x : Operand) (dT sT : TypeId) (ho : o.op = Op.call { callee := Callee.builtin Builtin.copy, args := #[d, x], argTypes := #[dT, sT] })
    (elem : TypeId) (hu : P.underlying dT = some (.slice elem)) (hz : ∀ w, (Go.sizeOf elem).run P w = .ok 1 w)
    (b off dLen dCap : Nat) (hd : a.eval d = .slice (some ⟨b, off, none⟩) dLen dCap) (t : ByteArray) (hx : a.eval x = .string t) (hle : t.size ≤ dLen)
    (ht : w.there b off t.size)
    (h : wpList P ops Q rest (a.put o.dst (goInt t.size)) (w.setCells b off (t.data.toList.map fun x => Value.int .u8 (x.toNat : Int)))) : wpList P ops Q (o :: rest) a w := by
  have hrun := run_copy_string (P := P) w dT sT o.type elem b off dLen dCap t hu hz hle (fun j hj => (ht j hj).1) (fun j hj => (ht j hj).2)
  refine wpList_value hg _ _ ?_ h
  simp [execOp, ho, resolve, invoke, builtin, hd, hx, hrun, Result.andThen]
end
end Go.Proofs.YtlelfakememckaaGreatDoor

namespace Go.Proofs.YtlelfakememckaaGreatDoor
open Go.RowKit

/-- A later world: what was there is as it was. -/
structure LatW (w : World) where
  wd : World
  bel : Below w.heap.size w wd
instance (w : World) : Inhabited (LatW w) := ⟨⟨w, Below.refl _ _⟩⟩

theorem wp_region_later {P : Program} {id : Nat} {Q : Exit → Act → World → Prop} {a : Act} {w : World} {l : List Oper} (hm : P.follows .mixedOrders = true) (hB : Region.lexB .any l.toArray = true)
    (h : wpQuiet P l.toArray (fun w' => ∃ p : LatW w, w' = p.wd) (fun a' => ∀ w', (∃ p : LatW w, w' = p.wd) → Q .normal a' w') l a) : (Code.region id l.toArray true).wp P Q a w :=
  wp_region_quiet (C := fun w' => ∃ p : LatW w, w' = p.wd) hm hB ⟨⟨w.drew, (Below.refl _ _).drew⟩, rfl⟩ (by simpa using h)
theorem Calls.later_of {P : Program} {f : FuncId} {args : Array Value} {w : World} {v : Value} {p : LatW w}
    (h : Calls P f args p.wd fun e w' => e = .returned v ∧ Below p.wd.heap.size p.wd w') : Calls P f args p.wd fun e w'' => e = .returned v ∧ ∃ p' : LatW w, w'' = p'.wd :=
  h.mono fun _ w' ⟨he, hb⟩ => ⟨he, ⟨w', p.bel.trans (hb.mono p.bel.size)⟩, rfl⟩
theorem Calls.later_same {P : Program} {f : FuncId} {args : Array Value} {w : World} {v : Value} {p : LatW w}
    (h : Calls P f args p.wd fun e w' => e = .returned v ∧ p.wd = w') : Calls P f args p.wd fun e w'' => e = .returned v ∧ ∃ p' : LatW w, w'' = p'.wd :=
  h.mono fun _ _ ⟨he, hb⟩ => ⟨he, p, hb.symm⟩
theorem LatW.cell {w : World} (p : LatW w) {b o : Nat} {v : Value} (h : w.cell? ⟨b, o, none⟩ = some v) (hb : b < w.heap.size) : p.wd.cell? ⟨b, o, none⟩ = some v := (p.bel.cell (p := ⟨b, o, none⟩) hb).trans h
theorem heap_new (w : World) (o : Obj) : (w.alloc o).heap[w.heap.size]? = some o := by show (w.heap.push _)[w.heap.size]? = _; simp
theorem below_one (w : World) (o : Obj) : Below w.heap.size w (w.alloc o) := (Below.refl _ _).alloc (Nat.le_refl _) _
theorem LatW.far {w V : World} (hb : Below w.heap.size w V) (z : LatW V) {b o : Nat} {v : Value} (h : w.cell? ⟨b, o, none⟩ = some v) (hlt : b < w.heap.size) : z.wd.cell? ⟨b, o, none⟩ = some v := (z.bel.cell (p := ⟨b, o, none⟩) (Nat.lt_of_lt_of_le hlt hb.size)).trans ((hb.cell (p := ⟨b, o, none⟩) hlt).trans h)
/-- What a call answers in each later world, and that it leaves a later one. -/
def LatCalls (P : Program) (V : World) (f : FuncId) (args : Array Value) (v : Value) : Prop := ∀ z : LatW V, Calls P f args z.wd fun e w' => e = .returned v ∧ ∃ z' : LatW V, w' = z'.wd
theorem LatCalls.of {P : Program} {V : World} {f : FuncId} {args : Array Value} {v : Value} (h : ∀ z : LatW V, Calls P f args z.wd fun e w' => e = .returned v ∧ Below z.wd.heap.size z.wd w') : LatCalls P V f args v := fun z => Calls.later_of (h z)
theorem LatCalls.at_ {P : Program} {V : World} {f : FuncId} {args : Array Value} {v : Value} (h : LatCalls P V f args v) (z : LatW V) : Calls P f args z.wd fun e w' => e = .returned v ∧ ∃ z' : LatW V, w' = z'.wd := h z
theorem LatW.start (V : World) : ∃ z : LatW V, z.wd = V := ⟨⟨V, Below.refl _ _⟩, rfl⟩
theorem LatW.drawn {V : World} (z : LatW V) : ∃ z' : LatW V, z.wd.drew = z'.wd := ⟨⟨z.wd.drew, z.bel.drew⟩, rfl⟩
theorem lat_end {w V : World} (h : Below w.heap.size w V) (z : LatW V) : Below w.heap.size w z.wd := h.trans (z.bel.mono h.size)
theorem LatW.later {V : World} (z : LatW V) {w : World} (h : Below z.wd.heap.size z.wd w) : ∃ z' : LatW V, w = z'.wd := ⟨⟨w, z.bel.trans (h.mono z.bel.size)⟩, rfl⟩
theorem LatW.made {V : World} (z : LatW V) (o : Obj) : ∃ z' : LatW V, z.wd.alloc o = z'.wd := z.later (below_one _ _)
end Go.Proofs.YtlelfakememckaaGreatDoor

namespace Go.Proofs.YtlelfakememckaaGreatDoor
open Go.RowKit

/-- All but the blocks of F is as it was. -/
structure Moves (F : Nat → Prop) (w w' : World) : Prop where
  os : w'.os = w.os
  tape : w'.tape = w.tape
  output : w'.output = w.output
  size : w.heap.size ≤ w'.heap.size
  block : ∀ k, k < w.heap.size → ¬ F k → w'.heap[k]? = w.heap[k]?

theorem Moves.refl (F : Nat → Prop) (w : World) : Moves F w w := ⟨rfl, rfl, rfl, Nat.le_refl _, fun _ _ _ => rfl⟩
theorem Moves.trans {F G : Nat → Prop} {a b c : World} (h : Moves F a b) (k : Moves G b c) (hG : ∀ i, G i → F i ∨ a.heap.size ≤ i) : Moves F a c :=
  ⟨k.os.trans h.os, k.tape.trans h.tape, k.output.trans h.output, Nat.le_trans h.size k.size,
   fun i hi hn => (k.block i (Nat.lt_of_lt_of_le hi h.size) (fun hg => (hG i hg).elim hn (by omega))).trans (h.block i hi hn)⟩
theorem Moves.mono {F G : Nat → Prop} {a b : World} (h : Moves F a b) (hG : ∀ i, F i → G i) : Moves G a b :=
  ⟨h.os, h.tape, h.output, h.size, fun i hi hn => h.block i hi (fun hf => hn (hG i hf))⟩
theorem Moves.below {F : Nat → Prop} {a b : World} {B : Nat} (h : Moves F a b) (hB : B ≤ a.heap.size) (hF : ∀ i, F i → B ≤ i) : Below B a b :=
  ⟨h.os, h.tape, h.output, h.size, fun i hi => h.block i (by omega) (fun hf => by have := hF i hf; omega)⟩
theorem Moves.of_below {F : Nat → Prop} {a b : World} (h : Below a.heap.size a b) : Moves F a b := ⟨h.os, h.tape, h.output, h.size, fun i hi _ => h.block i hi⟩
theorem Moves.of_grown {F : Nat → Prop} {a b : World} {row : Option Nat} (h : a.grownBy b row) (hF : ∀ k, row = some k → F k) : Moves F a b :=
  ⟨h.os, h.tape, h.output, h.size, fun i hi hn => h.block i hi (fun e => hn (hF i e.symm))⟩
theorem Moves.setCell {F : Nat → Prop} {a w : World} (h : Moves F a w) {p : Addr} (hp : F p.block) (u : Value) : Moves F a (w.setCell p u) :=
  h.trans (G := F) ⟨rfl, rfl, rfl, by simp [World.setCell], fun k _ hk => Below.heap_setCell _ _ _ _ (fun e => hk (e ▸ hp))⟩ (fun _ h => Or.inl h)
theorem Moves.alloc {F : Nat → Prop} {a w : World} (h : Moves F a w) (o : Obj) : Moves F a (w.alloc o) :=
  h.trans (G := fun _ => False) ⟨rfl, rfl, rfl, by simp, fun k hk _ => Below.heap_alloc _ _ _ (by omega)⟩ (fun _ h => h.elim)
theorem Moves.drew {F : Nat → Prop} {a w : World} (h : Moves F a w) : Moves F a w.drew := ⟨h.os, h.tape, h.output, h.size, h.block⟩
/-- A row of cells stays where only other blocks turn. -/
theorem Lies.moves {F : Nat → Prop} {w w' : World} {B : Nat} {A : Option Addr} {cs : List Value} (h : Lies w B A cs) (hm : Moves F w w') (hF : ∀ b off, A = some ⟨b, off, none⟩ → cs ≠ [] → ¬ F b) : Lies w' B A cs := by
  rcases h with h | ⟨b, off, hA, hlt, hc⟩
  · exact .inl h
  · by_cases hn : cs = []
    · exact .inl hn
    · refine .inr ⟨b, off, hA, hlt, fun i hi => ?_⟩
      have hbw : b < w.heap.size := World.block_lt_of_cell? w _ (hc i hi)
      have e := hm.block b hbw (hF b off hA hn)
      rw [World.cell?_of_block (w := w) (a := ⟨b, off + i, none⟩) e]
      exact hc i hi
end Go.Proofs.YtlelfakememckaaGreatDoor
