/- Small facts on numbers, bytes and blocks of memory that the walks of the octet functions use. No function of the program in sight. -/
import Derived.WalkKit
import Derived.Lib.Builder
import Derived.Test.YtpmllckfijfehaaPlain
namespace Go.Proofs.Ytpmllckfijfehaa
open Go.RowKit

/-- A string out of bytes. -/
def str (l : List UInt8) : ByteArray := ⟨l.toArray⟩
theorem str_size (l : List UInt8) : (str l).size = l.length := by simp [str, ByteArray.size]
theorem str_list (l : List UInt8) : (str l).data.toList = l := rfl
theorem str_of (s : ByteArray) : str s.data.toList = s := rfl
theorem list_length (s : ByteArray) : s.data.toList.length = s.size := Array.length_toList

theorem or_step (d c : Nat) (hd : d < 72057594037927936) (hc : c < 256) : bits BinOp.or IntKind.u64 (IntKind.u64.wrap ((d : Int) * 256)) (IntKind.u64.wrap (c : Int)) = ((256 * d + c : Nat) : Int) := by
  have e1 : IntKind.u64.wrap ((d : Int) * 256) = ((d * 256 : Nat) : Int) := by rw [IntKind.wrap_u64]; omega
  have e2 : IntKind.u64.wrap (c : Int) = (c : Int) := by rw [IntKind.wrap_u64]; omega
  rw [e1, e2, u64_or_nat _ _ (by omega) (by omega), Nat.or_comm, nat_join8' (d * 256) c (by omega) hc]
  congr 1
  omega

theorem take_snoc (s : ByteArray) (k : Nat) (h : k < s.size) : s.data.toList.take (k + 1) = s.data.toList.take k ++ [s[k]] := by
  rw [List.take_succ_eq_append_getElem (by simpa using h)]; rfl

theorem pow8 {k : Nat} (h : k < 8) : 256 ^ k ≤ 72057594037927936 := by
  have : 256 ^ k ≤ 256 ^ 7 := Nat.pow_le_pow_right (by omega) (by omega)
  exact this

/-- Less than eight bytes make less than 2^56. -/
theorem dec_take_lt (s : ByteArray) (k : Nat) (h : k < s.size) (h8 : s.size ≤ 8) : dec (s.data.toList.take k) < 72057594037927936 := by
  have h1 := dec_lt (s.data.toList.take k)
  have h2 : (s.data.toList.take k).length ≤ k := List.length_take_le _ _
  have h3 : 256 ^ (s.data.toList.take k).length ≤ 72057594037927936 := pow8 (by omega)
  omega

theorem dec_step (s : ByteArray) (k : Nat) (h : k < s.size) (h8 : s.size ≤ 8) :
    bits BinOp.or IntKind.u64 (IntKind.u64.wrap ((dec (s.data.toList.take k) : Int) * 256)) (IntKind.u64.wrap ((s[k].toNat : Nat) : Int)) = ((dec (s.data.toList.take (k + 1)) : Nat) : Int) := by
  rw [or_step _ _ (dec_take_lt s k h h8) (s[k]).toNat_lt, take_snoc s k h, dec_snoc]

theorem take_all (s : ByteArray) (k : Nat) (h : ¬ k < s.size) : s.data.toList.take k = s.data.toList := List.take_of_length_le (by simp; omega)

theorem dec_lt64 (s : ByteArray) (h8 : s.size ≤ 8) : dec s.data.toList < 18446744073709551616 := by
  have h1 := dec_lt s.data.toList
  have h3 : 256 ^ s.data.toList.length ≤ 256 ^ 8 := Nat.pow_le_pow_right (by omega) (by rw [list_length]; exact h8)
  have h4 : (256 : Nat) ^ 8 = 18446744073709551616 := by decide
  omega

/-- A store into a row of cells that is known. -/
theorem row_set {w : World} {g : Nat} {t : TypeId} {cs : Array Value} (h : w.heap[g]? = some (.cells cs t (0, 0))) (i : Nat) (u : Value) :
    (w.setCell ⟨g, i, none⟩ u).heap[g]? = some (.cells (cs.setIfInBounds i u) t (0, 0)) := by
  simp [World.setCell, Array.getElem?_modify, h]

/-! ### The cells of a number that is being written from its end -/

def encCells (width k n : Nat) : Array Value := (List.replicate k (Value.int .u8 0) ++ (enc (width - k) n).map (fun c => Value.int .u8 (c.toNat : Int))).toArray

theorem encCells_all (width n : Nat) : encCells width width n = madeCells #[.int .u8 0] width := by
  apply Array.ext
  · simp [encCells, enc, madeCells]
  · intro i h1 h2
    simp [encCells, enc, madeCells]
    rw [Nat.mod_one]
    rfl

theorem encCells_at {width k n j : Nat} (h : j < k) : (encCells width k n)[j]? = some (.int .u8 0) := by
  simp [encCells, List.getElem?_append_left, h]

theorem encCells_done {width n j : Nat} (h : j < (enc width n).length) : (encCells width 0 n)[j]? = some (.int .u8 ((enc width n)[j].toNat : Int)) := by
  simp [encCells, List.getElem?_eq_getElem h]

theorem encCells_step {width j n : Nat} (h : j + 1 ≤ width) (v : Int) (hv : v = ((n / 256 ^ (width - (j + 1)) % 256 : Nat) : Int)) :
    (encCells width (j + 1) n).setIfInBounds j (.int .u8 v) = encCells width j n := by
  have e1 : width - j = (width - (j + 1)) + 1 := by omega
  have e2 : (UInt8.ofNat (n / 256 ^ (width - (j + 1)))).toNat = n / 256 ^ (width - (j + 1)) % 256 := by simp [UInt8.toNat_ofNat']
  unfold encCells
  rw [e1, enc_cons, List.setIfInBounds_toArray, List.set_append, List.length_replicate, if_pos (by omega), List.replicate_succ', List.set_append, List.length_replicate, if_neg (by omega), Nat.sub_self, List.map_cons, e2, hv]
  simp

end Go.Proofs.Ytpmllckfijfehaa
