/- Plain facts on the 32-bit CRC with the reflected polynomial EDB88320, over natural numbers: one step, eight steps, the register behind some bytes; it goes on by parts; it is one to one over up to four bytes next to one another. No program in sight. -/
namespace Go.Proofs.Ytdhmkcomngbmaaa

/-- One step of the register. -/
def crcStep (c : Nat) : Nat := c / 2 ^^^ c % 2 * 3988292384
/-- Some steps. -/
def crcSteps : Nat → Nat → Nat
  | 0, c => c
  | k + 1, c => crcSteps k (crcStep c)
/-- The register behind some bytes. -/
def crcOn (c : Nat) (l : List UInt8) : Nat := l.foldl (fun c b => crcSteps 8 (c ^^^ b.toNat)) c
/-- The checksum of some bytes that go on from another's. -/
def crcSum (begin : Nat) (l : List UInt8) : Nat := 4294967295 - crcOn (4294967295 - begin) l

theorem lt32_pow : (4294967296 : Nat) = 2 ^ 32 := by decide
theorem xor_lt32 {a b : Nat} (ha : a < 4294967296) (hb : b < 4294967296) : a ^^^ b < 4294967296 := by
  rw [lt32_pow] at *
  exact Nat.xor_lt_two_pow ha hb

theorem crcStep_lt {c : Nat} (h : c < 4294967296) : crcStep c < 4294967296 := by
  unfold crcStep
  refine xor_lt32 (by omega) ?_
  have : c % 2 < 2 := Nat.mod_lt _ (by omega)
  rcases (show c % 2 = 0 ∨ c % 2 = 1 by omega) with e | e <;> rw [e] <;> decide

theorem crcSteps_lt (k : Nat) {c : Nat} (h : c < 4294967296) : crcSteps k c < 4294967296 := by
  induction k generalizing c with
  | zero => exact h
  | succ k ih => exact ih (crcStep_lt h)

theorem byte_lt32 (b : UInt8) : b.toNat < 4294967296 := by have := b.toNat_lt; omega

theorem crcOn_lt {c : Nat} (h : c < 4294967296) (l : List UInt8) : crcOn c l < 4294967296 := by
  induction l generalizing c with
  | nil => exact h
  | cons b l ih => exact ih (crcSteps_lt 8 (xor_lt32 h (byte_lt32 b)))

theorem crcOn_nil (c : Nat) : crcOn c [] = c := rfl
theorem crcOn_cons (c : Nat) (b : UInt8) (l : List UInt8) : crcOn c (b :: l) = crcOn (crcSteps 8 (c ^^^ b.toNat)) l := rfl
theorem crcOn_cat (c : Nat) (l m : List UInt8) : crcOn c (l ++ m) = crcOn (crcOn c l) m := by simp [crcOn, List.foldl_append]
theorem crcOn_snoc (c : Nat) (l : List UInt8) (b : UInt8) : crcOn c (l ++ [b]) = crcSteps 8 (crcOn c l ^^^ b.toNat) := by rw [crcOn_cat]; rfl

theorem crcSum_lt (begin : Nat) (l : List UInt8) : crcSum begin l < 4294967296 := by unfold crcSum; omega
theorem crcSum_cat {begin : Nat} (l m : List UInt8) : crcSum (crcSum begin l) m = crcSum begin (l ++ m) := by
  have h : crcOn (4294967295 - begin) l < 4294967296 := crcOn_lt (by omega) l
  unfold crcSum
  rw [crcOn_cat, show 4294967295 - (4294967295 - crcOn (4294967295 - begin) l) = crcOn (4294967295 - begin) l from by omega]

theorem mod_two_xor (a b : Nat) : (a ^^^ b) % 2 = (a % 2 ^^^ b % 2) := by
  have := Nat.xor_mod_two_pow (a := a) (b := b) (n := 1)
  simpa using this
theorem div_two_xor (a b : Nat) : (a ^^^ b) / 2 = (a / 2 ^^^ b / 2) := Nat.xor_div_two

/-- A bit that is turned turns the polynomial's place. -/
theorem bit_mul (a b : Nat) (ha : a < 2) (hb : b < 2) (p : Nat) : (a ^^^ b) * p = (a * p ^^^ b * p) := by
  rcases (show a = 0 ∨ a = 1 by omega) with rfl | rfl <;> rcases (show b = 0 ∨ b = 1 by omega) with rfl | rfl <;> simp

theorem crcStep_xor (a b : Nat) : crcStep (a ^^^ b) = (crcStep a ^^^ crcStep b) := by
  unfold crcStep
  rw [mod_two_xor, div_two_xor, bit_mul _ _ (Nat.mod_lt _ (by omega)) (Nat.mod_lt _ (by omega))]
  ac_rfl

theorem crcSteps_xor (k a b : Nat) : crcSteps k (a ^^^ b) = (crcSteps k a ^^^ crcSteps k b) := by
  induction k generalizing a b with
  | zero => rfl
  | succ k ih => show crcSteps k (crcStep (a ^^^ b)) = _; rw [crcStep_xor, ih]; rfl

theorem crcSteps_add (j k c : Nat) : crcSteps (j + k) c = crcSteps k (crcSteps j c) := by
  induction j generalizing c with
  | zero => simp [crcSteps]
  | succ j ih => rw [Nat.succ_add]; exact ih (crcStep c)

theorem crcSteps_succ (k c : Nat) : crcSteps (k + 1) c = crcStep (crcSteps k c) := crcSteps_add k 1 c

theorem crcStep_even (y : Nat) : crcStep (2 * y) = y := by
  unfold crcStep
  rw [Nat.mul_mod_right, Nat.zero_mul, Nat.xor_zero]
  omega

theorem crcSteps_shift (k y : Nat) : crcSteps k (2 ^ k * y) = y := by
  induction k generalizing y with
  | zero => simp [crcSteps]
  | succ k ih =>
    show crcSteps k (crcStep (2 ^ (k + 1) * y)) = y
    rw [Nat.pow_succ, Nat.mul_comm (2 ^ k) 2, Nat.mul_assoc, crcStep_even, ih]

/-- A step loses nothing of 32 bits: the polynomial's highest bit tells what the lowest was. -/
theorem crcStep_zero {c : Nat} (h : c < 4294967296) (hz : crcStep c = 0) : c = 0 := by
  unfold crcStep at hz
  have h1 : c / 2 = c % 2 * 3988292384 := by
    have := congrArg (· ^^^ c % 2 * 3988292384) hz
    simpa [Nat.xor_assoc] using this
  rcases (show c % 2 = 0 ∨ c % 2 = 1 by omega) with e | e <;> rw [e] at h1 <;> omega

theorem crcSteps_zero (k : Nat) {c : Nat} (h : c < 4294967296) (hz : crcSteps k c = 0) : c = 0 := by
  induction k generalizing c with
  | zero => exact hz
  | succ k ih => exact crcStep_zero h (ih (crcStep_lt h) hz)

theorem xor_zero_eq {a b : Nat} (h : a ^^^ b = 0) : a = b := by
  have := congrArg (· ^^^ b) h
  simpa [Nat.xor_assoc] using this

theorem crcSteps_inj (k : Nat) {a b : Nat} (ha : a < 4294967296) (hb : b < 4294967296) (h : crcSteps k a = crcSteps k b) : a = b := by
  apply xor_zero_eq
  apply crcSteps_zero k (xor_lt32 ha hb)
  rw [crcSteps_xor, h, Nat.xor_self]

theorem xor_cancel {a b c : Nat} (h : a ^^^ c = b ^^^ c) : a = b := by
  have := congrArg (· ^^^ c) h
  simpa [Nat.xor_assoc] using this
theorem xor_cancel_left {a b c : Nat} (h : c ^^^ a = c ^^^ b) : a = b := by
  rw [Nat.xor_comm c a, Nat.xor_comm c b] at h
  exact xor_cancel h

/-- Bytes behind leave two registers apart. -/
theorem crcOn_inj {a b : Nat} (ha : a < 4294967296) (hb : b < 4294967296) (l : List UInt8) (h : crcOn a l = crcOn b l) : a = b := by
  induction l generalizing a b with
  | nil => exact h
  | cons x l ih =>
    have := ih (crcSteps_lt 8 (xor_lt32 ha (byte_lt32 x))) (crcSteps_lt 8 (xor_lt32 hb (byte_lt32 x))) h
    exact xor_cancel (crcSteps_inj 8 (xor_lt32 ha (byte_lt32 x)) (xor_lt32 hb (byte_lt32 x)) this)

/-- The number of some bytes, the least first. -/
def decLow : List UInt8 → Nat
  | [] => 0
  | b :: l => b.toNat + 256 * decLow l

theorem decLow_lt (l : List UInt8) : decLow l < 256 ^ l.length := by
  induction l with
  | nil => simp [decLow]
  | cons b l ih =>
    have := b.toNat_lt
    simp only [decLow, List.length_cons, Nat.pow_succ]
    omega

theorem decLow_inj {l m : List UInt8} (hl : l.length = m.length) (h : decLow l = decLow m) : l = m := by
  induction l generalizing m with
  | nil => cases m with
    | nil => rfl
    | cons _ _ => simp at hl
  | cons b l ih => cases m with
    | nil => simp at hl
    | cons c m =>
      have hb := b.toNat_lt
      have hc := c.toNat_lt
      simp only [decLow] at h
      have e : b = c := UInt8.toNat_inj.1 (by omega)
      have e2 := ih (m := m) (by simpa using hl) (by omega)
      rw [e, e2]

theorem low_xor {b y : Nat} (h : b < 256) : b + 256 * y = (b ^^^ 256 * y) := by
  have e := Nat.two_pow_add_eq_or_of_lt (i := 8) (b := b) (a := y) (by simpa using h)
  have e3 : (256 * y ||| b) = (256 * y ^^^ b) := by
    apply Nat.eq_of_testBit_eq
    intro i
    rw [Nat.testBit_or, Nat.testBit_xor, show 256 * y = 2 ^ 8 * y from rfl, Nat.testBit_two_pow_mul]
    by_cases hi : 8 ≤ i
    · have : b.testBit i = false := Nat.testBit_lt_two_pow (Nat.lt_of_lt_of_le h (by have := Nat.pow_le_pow_right (n := 2) (by omega) hi; simpa using this))
      simp [this]
    · simp [hi]
  rw [Nat.xor_comm, ← e3]
  have e4 : 2 ^ 8 * y + b = (2 ^ 8 * y ||| b) := e
  have e5 : (2 : Nat) ^ 8 = 256 := by decide
  rw [e5] at e4
  omega

/-- The register behind some bytes is so many steps of what it was, with all bytes turned into it at once. -/
theorem crcOn_word (l : List UInt8) (c : Nat) : crcOn c l = crcSteps (8 * l.length) (c ^^^ decLow l) := by
  induction l generalizing c with
  | nil => simp [crcOn, decLow, crcSteps]
  | cons b l ih =>
    rw [crcOn_cons, ih]
    have hb := b.toNat_lt
    simp only [decLow, List.length_cons]
    rw [low_xor (y := decLow l) (by omega), Nat.mul_succ, Nat.add_comm (8 * l.length) 8, crcSteps_add, ← Nat.xor_assoc, crcSteps_xor 8 (c ^^^ b.toNat), crcSteps_shift 8]

/-- Two texts of one length that differ in at most four bytes next to one another have one register just if they are one. -/
theorem crcOn_four {c : Nat} (hc : c < 4294967296) (l m l' r : List UInt8) (hlen : m.length = l'.length) (h4 : m.length ≤ 4) :
    crcOn c (l ++ m ++ r) = crcOn c (l ++ l' ++ r) ↔ m = l' := by
  constructor
  · intro h
    rw [crcOn_cat, crcOn_cat, crcOn_cat, crcOn_cat] at h
    have hl := crcOn_lt hc l
    have h := crcOn_inj (crcOn_lt hl m) (crcOn_lt hl l') r h
    have hp : 256 ^ m.length ≤ 256 ^ 4 := Nat.pow_le_pow_right (by omega) h4
    have h1 := decLow_lt m
    have h2 := decLow_lt l'
    rw [← hlen] at h2
    have e4 : (256 : Nat) ^ 4 = 4294967296 := by decide
    rw [crcOn_word m, crcOn_word l', ← hlen] at h
    have h := crcSteps_inj _ (xor_lt32 hl (by omega)) (xor_lt32 hl (by omega)) h
    exact decLow_inj hlen (xor_cancel_left h)
  · intro h; rw [h]

theorem crcSum_four {begin : Nat} (l m l' r : List UInt8) (hlen : m.length = l'.length) (h4 : m.length ≤ 4) :
    crcSum begin (l ++ m ++ r) = crcSum begin (l ++ l' ++ r) ↔ m = l' := by
  have hc : 4294967295 - begin < 4294967296 := by omega
  have h1 := crcOn_lt hc (l ++ m ++ r)
  have h2 := crcOn_lt hc (l ++ l' ++ r)
  rw [← crcOn_four hc l m l' r hlen h4]
  unfold crcSum
  omega

/-! ### Bit by bit, the byte's bits taken one after the other -/

/-- One bit of the byte b, the k-th, taken into the register. -/
def bitStep (c b k : Nat) : Nat := if c % 2 = b / 2 ^ k % 2 then c / 2 else c / 2 ^^^ 3988292384

theorem bitStep_lt {c b k : Nat} (h : c < 4294967296) : bitStep c b k < 4294967296 := by
  unfold bitStep
  split
  · omega
  · exact xor_lt32 (by omega) (by decide)

theorem bitStep_next {c b k x : Nat} (h : c = (crcSteps k x ^^^ b / 2 ^ k)) : bitStep c b k = (crcSteps (k + 1) x ^^^ b / 2 ^ (k + 1)) := by
  have e : crcSteps k x = (c ^^^ b / 2 ^ k) := by rw [h, Nat.xor_assoc, Nat.xor_self, Nat.xor_zero]
  rw [crcSteps_succ, e, Nat.pow_succ, ← Nat.div_div_eq_div_mul]
  unfold crcStep bitStep
  rw [mod_two_xor, div_two_xor]
  generalize b / 2 ^ k = y
  have h1 : c % 2 < 2 := Nat.mod_lt _ (by omega)
  have h2 : y % 2 < 2 := Nat.mod_lt _ (by omega)
  by_cases hc : c % 2 = y % 2
  · rw [if_pos hc, hc, Nat.xor_self, Nat.zero_mul, Nat.xor_zero, Nat.xor_assoc, Nat.xor_self, Nat.xor_zero]
  · rw [if_neg hc]
    have : (c % 2 ^^^ y % 2) = 1 := by
      rcases (show c % 2 = 0 ∨ c % 2 = 1 by omega) with a | a <;> rcases (show y % 2 = 0 ∨ y % 2 = 1 by omega) with b | b <;> rw [a, b] <;> first | rfl | (exfalso; omega)
    rw [this, Nat.one_mul, Nat.xor_assoc, Nat.xor_assoc, Nat.xor_comm 3988292384, ← Nat.xor_assoc (y / 2), Nat.xor_self, Nat.zero_xor]

theorem bit_begin (c b : Nat) : c = (crcSteps 0 (c ^^^ b) ^^^ b / 2 ^ 0) := by simp [crcSteps, Nat.xor_assoc]
theorem bit_end {c b x : Nat} (hb : b < 256) (h : c = (crcSteps 8 x ^^^ b / 2 ^ 8)) : c = crcSteps 8 x := by
  rw [h, Nat.div_eq_of_lt (by simpa using hb), Nat.xor_zero]

/-- A fixed answer. -/
theorem crc_nine : crcSum 0 [49, 50, 51, 52, 53, 54, 55, 56, 57] = 3421780262 := by decide +kernel

end Go.Proofs.Ytdhmkcomngbmaaa
