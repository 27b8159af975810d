/- What is written is read back, and order is kept: facts on the plain functions alone. -/
import Derived.Test.YtkpoeigoocbgeaaPlain
namespace Go.Proofs.Ytkpoeigoocbgeaa
open Go.RowKit

theorem str_toList (l : List UInt8) : (str l).toList = l := by rw [Lib.toList_data, str_list]

theorem putE_zero {n width : Int} (h : putE n width = 0) : ∃ m k : Nat, n = m ∧ width = k ∧ 1 ≤ k ∧ k ≤ 8 ∧ m < 256 ^ k := by
  unfold putE at h
  by_cases h1 : width < 1 ∨ 8 < width
  · rw [if_pos h1] at h; omega
  · rw [if_neg h1] at h
    by_cases h2 : n < 0 ∨ (256 : Int) ^ width.toNat ≤ n
    · rw [if_pos h2] at h; omega
    · obtain ⟨m, rfl⟩ := Int.eq_ofNat_of_zero_le (show 0 ≤ n by omega)
      obtain ⟨k, rfl⟩ := Int.eq_ofNat_of_zero_le (show 0 ≤ width by omega)
      rw [Int.toNat_natCast, pow_256_le] at h2
      exact ⟨m, k, rfl, rfl, by omega, by omega, by omega⟩

theorem getE_enc {m k : Nat} (h1 : 1 ≤ k) (h2 : k ≤ 8) (h : m < 256 ^ k) (hm : m ≤ 9223372036854775807) : getE (enc k m) = 0 :=
  getE_ok (by rw [enc_length]; omega) (by rw [enc_length]; omega) (by rw [dec_enc_of_lt h]; omega)
theorem getN_enc {m k : Nat} (h1 : 1 ≤ k) (h2 : k ≤ 8) (h : m < 256 ^ k) (hm : m ≤ 9223372036854775807) : getN (enc k m) = m := by
  rw [getN_ok (getE_enc h1 h2 h hm), dec_enc_of_lt h]

theorem take_enc (k m : Nat) (l : List UInt8) : (enc k m ++ l).take k = enc k m := by
  rw [List.take_append_of_le_length (by rw [enc_length]; omega), List.take_of_length_le (by rw [enc_length]; omega)]
theorem drop_enc (k m : Nat) (l : List UInt8) : (enc k m ++ l).drop k = l := by
  rw [List.drop_append_of_le_length (by rw [enc_length]; omega), List.drop_of_length_le (by rw [enc_length]; omega), List.nil_append]

theorem numE_enc {m k : Nat} (h1 : 1 ≤ k) (h2 : k ≤ 8) (h : m < 256 ^ k) (hm : m ≤ 9223372036854775807) (l : List UInt8) : numE (enc k m ++ l) (k : Int) = 0 := by
  rw [numE_get h1 h2 (by rw [List.length_append, enc_length]; omega), take_enc, getE_enc h1 h2 h hm]
theorem numN_enc {m k : Nat} (h1 : 1 ≤ k) (h2 : k ≤ 8) (h : m < 256 ^ k) (hm : m ≤ 9223372036854775807) (l : List UInt8) : numN (enc k m ++ l) (k : Int) = m := by
  rw [numN_ok (numE_enc h1 h2 h hm l), take_enc, dec_enc_of_lt h]
theorem numR_enc {m k : Nat} (h1 : 1 ≤ k) (h2 : k ≤ 8) (h : m < 256 ^ k) (hm : m ≤ 9223372036854775807) (l : List UInt8) : numR (enc k m ++ l) (k : Int) = l := by
  rw [numR_ok (numE_enc h1 h2 h hm l), drop_enc]

theorem takeE_text (l more : List UInt8) (h : l.length ≤ 65535) : takeE ((enc 2 l.length ++ l) ++ more) = 0 := by
  have hd : dec (enc 2 l.length) = l.length := dec_enc_of_lt (by omega)
  refine takeE_ok (by simp [enc_length]) ?_
  rw [List.append_assoc, take_enc, hd]
  simp only [List.length_append, enc_length]
  omega
theorem takeA_text (l more : List UInt8) (h : l.length ≤ 65535) : takeA ((enc 2 l.length ++ l) ++ more) = l := by
  have hd : dec (enc 2 l.length) = l.length := dec_enc_of_lt (by omega)
  rw [takeA_ok (takeE_text l more h), List.append_assoc, take_enc, drop_enc, hd, List.take_left]
theorem takeR_text (l more : List UInt8) (h : l.length ≤ 65535) : takeR ((enc 2 l.length ++ l) ++ more) = more := by
  have hd : dec (enc 2 l.length) = l.length := dec_enc_of_lt (by omega)
  rw [takeR_ok (takeE_text l more h), List.append_assoc, take_enc, drop_enc, hd, List.drop_left]

theorem less_enc (k a b : Nat) : Op.bytesLess (enc k a) (enc k b) = decide (a % 256 ^ k < b % 256 ^ k) := by
  induction k generalizing a b with
  | zero => simp [enc, Op.bytesLess, Nat.mod_one]
  | succ k ih =>
    rw [enc_cons, enc_cons, Op.bytesLess, ih, Nat.pow_succ, Nat.mod_mul, Nat.mod_mul]
    have hp : 0 < 256 ^ k := Nat.pow_pos (by omega)
    have ha := Nat.mod_lt a hp
    have hb := Nat.mod_lt b hp
    have ea : (UInt8.ofNat (a / 256 ^ k)).toNat = a / 256 ^ k % 256 := by simp [UInt8.toNat_ofNat']
    have eb : (UInt8.ofNat (b / 256 ^ k)).toNat = b / 256 ^ k % 256 := by simp [UInt8.toNat_ofNat']
    rw [Bool.eq_iff_iff]
    simp only [Bool.or_eq_true, Bool.and_eq_true, decide_eq_true_eq, beq_iff_eq, UInt8.lt_iff_toNat_lt, ← UInt8.toNat_inj, ea, eb]
    generalize a / 256 ^ k % 256 = x at *
    generalize b / 256 ^ k % 256 = y at *
    generalize a % 256 ^ k = u at *
    generalize b % 256 ^ k = v at *
    generalize 256 ^ k = P at *
    rcases Nat.lt_trichotomy x y with h | h | h
    · have : P * (x + 1) ≤ P * y := Nat.mul_le_mul_left _ h
      rw [Nat.mul_add] at this
      exact ⟨fun _ => by omega, fun _ => Or.inl h⟩
    · subst h
      exact ⟨fun h => by omega, fun h => Or.inr ⟨rfl, by omega⟩⟩
    · have : P * (y + 1) ≤ P * x := Nat.mul_le_mul_left _ h
      rw [Nat.mul_add] at this
      exact ⟨fun h => by omega, fun h => by omega⟩

theorem less_enc_of {k a b : Nat} (ha : a < 256 ^ k) (hb : b < 256 ^ k) : Op.bytesLess (enc k a) (enc k b) = decide (a < b) := by
  rw [less_enc, Nat.mod_eq_of_lt ha, Nat.mod_eq_of_lt hb]
theorem same_enc_of {k a b : Nat} (ha : a < 256 ^ k) (hb : b < 256 ^ k) : (enc k a == enc k b) = decide (a = b) := by
  rw [Bool.eq_iff_iff]
  simp only [beq_iff_eq, decide_eq_true_eq]
  exact ⟨enc_inj ha hb, fun h => by rw [h]⟩

end Go.Proofs.Ytkpoeigoocbgeaa
