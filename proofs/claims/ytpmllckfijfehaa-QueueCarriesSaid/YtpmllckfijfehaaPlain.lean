/- Plain facts on big-endian bytes: 'enc w n' (n in w bytes) and 'dec l' (the number of the bytes l) are inverse to one another, and order is kept. No program in sight. -/
namespace Go.Proofs.Ytpmllckfijfehaa

/-- n in w bytes, the greatest first. -/
def enc : Nat → Nat → List UInt8
  | 0, _ => []
  | w + 1, n => enc w (n / 256) ++ [UInt8.ofNat n]

/-- The number of some bytes, the greatest first. -/
def dec (l : List UInt8) : Nat := l.foldl (fun a c => 256 * a + c.toNat) 0

theorem enc_length (w n : Nat) : (enc w n).length = w := by
  induction w generalizing n with
  | zero => rfl
  | succ w ih => simp [enc, ih]

theorem dec_nil : dec [] = 0 := rfl

theorem dec_snoc (l : List UInt8) (c : UInt8) : dec (l ++ [c]) = 256 * dec l + c.toNat := by
  simp [dec, List.foldl_append]

theorem dec_lt (l : List UInt8) : dec l < 256 ^ l.length := by
  have h : ∀ n (l : List UInt8), l.length = n → dec l < 256 ^ n := by
    intro n
    induction n with
    | zero => intro l h; have := List.eq_nil_of_length_eq_zero h; subst this; simp [dec]
    | succ n ih =>
      intro l h
      have hne : l ≠ [] := by intro e; subst e; simp at h
      have hs := List.dropLast_concat_getLast hne
      have hl : l.dropLast.length = n := by simp [h]
      have hi := ih _ hl
      rw [← hs, dec_snoc, Nat.pow_succ]
      have := (l.getLast hne).toNat_lt
      omega
  exact h _ l rfl

theorem dec_enc (w n : Nat) : dec (enc w n) = n % 256 ^ w := by
  induction w generalizing n with
  | zero => simp [enc, dec, Nat.mod_one]
  | succ w ih =>
    rw [enc, dec_snoc, ih, Nat.pow_succ, Nat.mul_comm (256 ^ w) 256, Nat.mod_mul]
    simp [UInt8.toNat_ofNat']
    omega

theorem dec_enc_of_lt {w n : Nat} (h : n < 256 ^ w) : dec (enc w n) = n := by rw [dec_enc, Nat.mod_eq_of_lt h]

theorem enc_dec (l : List UInt8) : enc l.length (dec l) = l := by
  have h : ∀ n (l : List UInt8), l.length = n → enc n (dec l) = l := by
    intro n
    induction n with
    | zero => intro l h; have := List.eq_nil_of_length_eq_zero h; subst this; rfl
    | succ n ih =>
      intro l h
      have hne : l ≠ [] := by intro e; subst e; simp at h
      have hs := List.dropLast_concat_getLast hne
      have hl : l.dropLast.length = n := by simp [h]
      have hi := ih _ hl
      have hd : dec l = 256 * dec l.dropLast + (l.getLast hne).toNat := by
        rw [← dec_snoc, hs]
      have hb := (l.getLast hne).toNat_lt
      rw [enc]
      have e1 : dec l / 256 = dec l.dropLast := by omega
      have e2 : UInt8.ofNat (dec l) = l.getLast hne := by
        apply UInt8.toNat_inj.1
        rw [UInt8.toNat_ofNat']
        omega
      rw [e1, hi, e2, hs]
  exact h _ l rfl

theorem enc_inj {w a b : Nat} (ha : a < 256 ^ w) (hb : b < 256 ^ w) (h : enc w a = enc w b) : a = b := by
  have := congrArg dec h
  rwa [dec_enc_of_lt ha, dec_enc_of_lt hb] at this

/-- Bytes from place k on of the whole: the low digits. -/
theorem enc_cons (w n : Nat) : enc (w + 1) n = UInt8.ofNat (n / 256 ^ w) :: enc w n := by
  induction w generalizing n with
  | zero => simp [enc]
  | succ w ih =>
    rw [enc, ih (n / 256), enc, List.cons_append, Nat.div_div_eq_div_mul, Nat.pow_succ, Nat.mul_comm 256]

theorem enc_cat (a b n : Nat) : enc (a + b) n = enc a (n / 256 ^ b) ++ enc b n := by
  induction a generalizing n with
  | zero => simp [enc]
  | succ a ih =>
    rw [show a + 1 + b = (a + b) + 1 from by omega, enc_cons, ih, enc_cons, Nat.div_div_eq_div_mul, ← Nat.pow_add, Nat.add_comm b a, List.cons_append]

theorem dec_cat (l m : List UInt8) : dec (l ++ m) = dec l * 256 ^ m.length + dec m := by
  have h : ∀ n (m : List UInt8), m.length = n → dec (l ++ m) = dec l * 256 ^ n + dec m := by
    intro n
    induction n with
    | zero => intro m h; have := List.eq_nil_of_length_eq_zero h; subst this; simp [dec]
    | succ n ih =>
      intro m h
      have hne : m ≠ [] := by intro e; subst e; simp at h
      have hs := List.dropLast_concat_getLast hne
      have hl : m.dropLast.length = n := by simp [h]
      have hi := ih _ hl
      rw [← hs, ← List.append_assoc, dec_snoc, hi, dec_snoc, Nat.pow_succ]
      have e : dec l * (256 ^ n * 256) = 256 * (dec l * 256 ^ n) := by rw [← Nat.mul_assoc, Nat.mul_comm]
      rw [e]
      omega
  exact h _ m rfl

theorem dec_take_le (l : List UInt8) (k : Nat) : dec (l.take k) ≤ dec l := by
  have h := dec_cat (l.take k) (l.drop k)
  rw [List.take_append_drop] at h
  have h2 : dec (l.take k) * 1 ≤ dec (l.take k) * 256 ^ (l.drop k).length := Nat.mul_le_mul_left _ (Nat.pow_pos (by omega))
  omega

theorem dec_head (c : UInt8) (l : List UInt8) : dec (c :: l) = c.toNat * 256 ^ l.length + dec l := by
  have h := dec_cat [c] l
  have e : dec [c] = c.toNat := by simp [dec]
  rw [e] at h
  exact h

/-- Eight bytes pass the half of 2^64 just if their first does. -/
theorem dec_eight (c : UInt8) (l : List UInt8) (h : l.length = 7) : (9223372036854775808 ≤ dec (c :: l)) ↔ 128 ≤ c.toNat := by
  have h1 := dec_lt l
  rw [dec_head]
  rw [h] at h1 ⊢
  have e : (256 : Nat) ^ 7 = 72057594037927936 := by decide
  rw [e] at h1 ⊢
  omega

/-- Less than eight bytes never do. -/
theorem dec_seven (l : List UInt8) (h : l.length ≤ 7) : dec l < 9223372036854775808 := by
  have h1 := dec_lt l
  have h2 : 256 ^ l.length ≤ 256 ^ 7 := Nat.pow_le_pow_right (by omega) h
  have e : (256 : Nat) ^ 7 = 72057594037927936 := by decide
  omega

end Go.Proofs.Ytpmllckfijfehaa
