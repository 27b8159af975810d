/- Bitmaps, plain: what the package dirty and the document's answer tell, as functions on lists. No program in sight. -/
namespace Go.Proofs.Ytkpoeigoocbgeaa

/-- The bits of one volume. -/
structure Bt where
  vol : Int
  mask : Int

theorem Bt.ext_ {a b : Bt} (h1 : a.vol = b.vol) (h2 : a.mask = b.mask) : a = b := by cases a; cases b; simp_all

/-! ### Valid bitmaps -/

def badBt (last : Int) (b : Bt) : Bool := decide (b.vol ≤ last ∨ 255 < b.vol ∨ b.mask = 0 ∨ 4294967295 < b.mask)
def bitsFrom : Int → List Bt → Bool
  | _, [] => true
  | last, b :: r => !badBt last b && bitsFrom b.vol r
def bitsOk (m : List Bt) : Bool := bitsFrom 0 m
/-- Masks are 64 bits. -/
def BtsFit (m : List Bt) : Prop := m.length ≤ 9223372036854775807 ∧ ∀ b ∈ m, 0 ≤ b.mask ∧ b.mask < 18446744073709551616

theorem badBt_false (last : Int) (b : Bt) : badBt last b = false ↔ last < b.vol ∧ b.vol ≤ 255 ∧ b.mask ≠ 0 ∧ b.mask ≤ 4294967295 := by
  unfold badBt; rw [decide_eq_false_iff_not]; omega
theorem bitsFrom_cons {last : Int} {b : Bt} {r : List Bt} (h : bitsFrom last (b :: r) = true) : (last < b.vol ∧ b.vol ≤ 255 ∧ b.mask ≠ 0 ∧ b.mask ≤ 4294967295) ∧ bitsFrom b.vol r = true := by
  unfold bitsFrom at h
  rw [Bool.and_eq_true, Bool.not_eq_true'] at h
  exact ⟨(badBt_false _ _).1 h.1, h.2⟩
theorem bitsFrom_of {last : Int} {b : Bt} {r : List Bt} (h : last < b.vol ∧ b.vol ≤ 255 ∧ b.mask ≠ 0 ∧ b.mask ≤ 4294967295) (h2 : bitsFrom b.vol r = true) : bitsFrom last (b :: r) = true := by
  unfold bitsFrom; rw [(badBt_false _ _).2 h, h2]; rfl
theorem bitsFrom_le {last : Int} {m : List Bt} (h : bitsFrom last m = true) : ∀ b ∈ m, last < b.vol ∧ b.vol ≤ 255 ∧ b.mask ≠ 0 ∧ b.mask ≤ 4294967295 := by
  induction m generalizing last with
  | nil => simp
  | cons x r ih =>
    obtain ⟨h1, h2⟩ := bitsFrom_cons h
    intro b hb
    rcases List.mem_cons.1 hb with rfl | hb
    · exact h1
    · obtain ⟨g1, g2⟩ := ih h2 b hb
      exact ⟨by omega, g2⟩
theorem bitsFrom_length {last : Int} {m : List Bt} (h : bitsFrom last m = true) (h0 : 0 ≤ last) (h1 : last ≤ 255) : (m.length : Int) ≤ 255 - last := by
  induction m generalizing last with
  | nil => simp; omega
  | cons x r ih =>
    obtain ⟨h2, h3⟩ := bitsFrom_cons h
    have := ih h3 (by omega) (by omega)
    simp; omega
theorem bitsOk_length {m : List Bt} (h : bitsOk m = true) : m.length ≤ 255 := by have := bitsFrom_length h (by omega) (by omega); omega

/-- What a loop over a bitmap keeps: the answer is that of what is left. -/
def lastAt (m : List Bt) (k : Nat) : Int := if k = 0 then 0 else (m.getD (k - 1) ⟨0, 0⟩).vol
def okN (m : List Bt) (k : Nat) : Prop := bitsFrom 0 m = bitsFrom (lastAt m k) (m.drop k)
theorem lastAt_succ {m : List Bt} {k : Nat} (hk : k < m.length) : lastAt m (k + 1) = m[k].vol := by
  unfold lastAt
  rw [if_neg (by omega), Nat.add_sub_cancel, List.getD_eq_getElem?_getD, List.getElem?_eq_getElem hk]
  rfl
theorem okN_step {m : List Bt} {k : Nat} (h : okN m k) (hk : k < m.length) : bitsFrom 0 m = (!badBt (lastAt m k) m[k] && bitsFrom (lastAt m (k + 1)) (m.drop (k + 1))) := by
  rw [lastAt_succ hk]
  have := h
  unfold okN at this
  rw [this, List.drop_eq_getElem_cons hk, bitsFrom]
theorem okN_end {m : List Bt} {k : Nat} (h : okN m k) (hk : k = m.length) : bitsFrom 0 m = true := by
  have := h
  unfold okN at this
  rw [this, hk, List.drop_length]
  rfl

/-! ### The mask of a volume -/

def maskAt : List Bt → Int → Nat
  | [], _ => 0
  | b :: r, v => if b.vol = v then b.mask.toNat else maskAt r v
theorem maskAt_none {m : List Bt} {v : Int} (h : ∀ b ∈ m, b.vol ≠ v) : maskAt m v = 0 := by
  induction m with
  | nil => rfl
  | cons b r ih => rw [maskAt, if_neg (h b List.mem_cons_self), ih fun x hx => h x (List.mem_cons_of_mem _ hx)]
theorem maskAt_low {last v : Int} {m : List Bt} (h : bitsFrom last m = true) (hv : v ≤ last) : maskAt m v = 0 := maskAt_none fun b hb => by have := (bitsFrom_le h b hb).1; omega
theorem maskAt_high {last v : Int} {m : List Bt} (h : bitsFrom last m = true) (hv : 255 < v) : maskAt m v = 0 := maskAt_none fun b hb => by have := (bitsFrom_le h b hb).2.1; omega
theorem maskAt_lt {m : List Bt} {v : Int} {last : Int} (h : bitsFrom last m = true) : maskAt m v < 2 ^ 32 := by
  induction m generalizing last with
  | nil => simp [maskAt]
  | cons b r ih =>
    obtain ⟨h1, h2⟩ := bitsFrom_cons h
    unfold maskAt
    split
    · omega
    · exact ih h2
theorem maskAt_of {m : List Bt} {last : Int} (h : bitsFrom last m = true) {b : Bt} (hb : b ∈ m) : maskAt m b.vol = b.mask.toNat := by
  induction m generalizing last with
  | nil => simp at hb
  | cons x r ih =>
    obtain ⟨h1, h2⟩ := bitsFrom_cons h
    rcases List.mem_cons.1 hb with rfl | hb'
    · simp [maskAt]
    · have := (bitsFrom_le h2 b hb').1
      rw [maskAt, if_neg (by omega), ih h2 hb']

/-- Two valid bitmaps with the same masks are the same. -/
theorem bits_same {l1 l2 : Int} {m n : List Bt} (h1 : bitsFrom l1 m = true) (h2 : bitsFrom l2 n = true) (p1 : ∀ b ∈ m, 0 ≤ b.mask) (p2 : ∀ b ∈ n, 0 ≤ b.mask) (h : ∀ v, maskAt m v = maskAt n v) : m = n := by
  induction m generalizing n l1 l2 with
  | nil =>
    cases n with
    | nil => rfl
    | cons b r =>
      have hb := (bitsFrom_cons h2).1
      have := h b.vol
      rw [maskAt_of h2 List.mem_cons_self] at this
      have := p2 b List.mem_cons_self
      simp [maskAt] at *
      omega
  | cons a s ih =>
    have ha := (bitsFrom_cons h1).1
    have pa := p1 a List.mem_cons_self
    cases n with
    | nil =>
      have := h a.vol
      rw [maskAt_of h1 List.mem_cons_self] at this
      simp [maskAt] at this
      omega
    | cons b r =>
      have hb := (bitsFrom_cons h2).1
      have pb := p2 b List.mem_cons_self
      have e1 := h a.vol
      have e2 := h b.vol
      rw [maskAt_of h1 List.mem_cons_self] at e1
      rw [maskAt_of h2 List.mem_cons_self] at e2
      have hv : a.vol = b.vol := by
        rcases Int.lt_trichotomy a.vol b.vol with hlt | heq | hgt
        · rw [maskAt_none (m := b :: r) (v := a.vol)] at e1
          · omega
          · intro x hx
            rcases List.mem_cons.1 hx with rfl | hx
            · omega
            · have := (bitsFrom_le (bitsFrom_cons h2).2 x hx).1
              omega
        · exact heq
        · rw [maskAt_none (m := a :: s) (v := b.vol)] at e2
          · omega
          · intro x hx
            rcases List.mem_cons.1 hx with rfl | hx
            · omega
            · have := (bitsFrom_le (bitsFrom_cons h1).2 x hx).1
              omega
      have hm : a.mask = b.mask := by
        rw [hv] at e1
        rw [maskAt_of h2 List.mem_cons_self] at e1
        omega
      have hab : a = b := Bt.ext_ hv hm
      subst hab
      rw [ih (bitsFrom_cons h1).2 (bitsFrom_cons h2).2 (fun x hx => p1 x (List.mem_cons_of_mem _ hx)) (fun x hx => p2 x (List.mem_cons_of_mem _ hx)) fun v => by
        by_cases hv2 : a.vol = v
        · rw [maskAt_low (bitsFrom_cons h1).2 (by omega), maskAt_low (bitsFrom_cons h2).2 (by omega)]
        · have := h v
          rw [maskAt, if_neg hv2, maskAt, if_neg hv2] at this
          exact this]

/-! ### A table of masks as a bitmap -/

/-- The masks from volume k on, n of them. -/
def listFrom (f : Nat → Nat) : Nat → Nat → List Bt
  | _, 0 => []
  | k, n + 1 => if f k = 0 then listFrom f (k + 1) n else ⟨k, f k⟩ :: listFrom f (k + 1) n
def listT (f : Nat → Nat) : List Bt := listFrom f 0 256
theorem listFrom_zero {f : Nat → Nat} {k n : Nat} (h : f k = 0) : listFrom f k (n + 1) = listFrom f (k + 1) n := by rw [listFrom, if_pos h]
theorem listFrom_some {f : Nat → Nat} {k n : Nat} (h : f k ≠ 0) : listFrom f k (n + 1) = ⟨k, f k⟩ :: listFrom f (k + 1) n := by rw [listFrom, if_neg h]
theorem listT_one {f : Nat → Nat} (h : f 0 = 0) : listT f = listFrom f 1 255 := listFrom_zero h
theorem listFrom_congr {f g : Nat → Nat} {k n : Nat} (h : ∀ v, k ≤ v → v < k + n → f v = g v) : listFrom f k n = listFrom g k n := by
  induction n generalizing k with
  | zero => rfl
  | succ n ih =>
    rw [listFrom, listFrom, h k (Nat.le_refl _) (by omega), ih fun v h1 h2 => h v (by omega) (by omega)]
theorem listFrom_ok {f : Nat → Nat} {k n : Nat} {last : Int} (hl : last < k) (hk : k + n ≤ 256) (hf : ∀ v, f v < 2 ^ 32) : bitsFrom last (listFrom f k n) = true := by
  induction n generalizing k last with
  | zero => rfl
  | succ n ih =>
    by_cases h : f k = 0
    · rw [listFrom_zero h]
      exact ih (by omega) (by omega)
    · rw [listFrom_some h]
      refine bitsFrom_of ⟨hl, ?_, ?_, ?_⟩ (ih (by simp only; omega) (by omega))
      · simp only; omega
      · simp only; omega
      · have := hf k
        simp only; omega
theorem listFrom_pos {f : Nat → Nat} {k n : Nat} : ∀ b ∈ listFrom f k n, 0 ≤ b.mask := by
  induction n generalizing k with
  | zero => simp [listFrom]
  | succ n ih =>
    intro b hb
    rw [listFrom] at hb
    split at hb
    · exact ih b hb
    · rcases List.mem_cons.1 hb with rfl | hb
      · simp only; omega
      · exact ih b hb
theorem maskAt_listFrom {f : Nat → Nat} {k n : Nat} (v : Nat) : maskAt (listFrom f k n) (v : Int) = if k ≤ v ∧ v < k + n then f v else 0 := by
  induction n generalizing k with
  | zero => rw [if_neg (by omega)]; rfl
  | succ n ih =>
    by_cases h : f k = 0
    · rw [listFrom_zero h, ih]
      by_cases hv : v = k
      · subst hv; rw [if_neg (by omega), if_pos (by omega), h]
      · by_cases h2 : k ≤ v ∧ v < k + (n + 1)
        · rw [if_pos (by omega), if_pos h2]
        · rw [if_neg (by omega), if_neg h2]
    · rw [listFrom_some h, maskAt]
      by_cases hv : v = k
      · subst hv; rw [if_pos rfl, if_pos (by omega)]; simp
      · rw [if_neg (by simp only; omega), ih]
        by_cases h2 : k ≤ v ∧ v < k + (n + 1)
        · rw [if_pos (by omega), if_pos h2]
        · rw [if_neg (by omega), if_neg h2]
theorem listT_ok {f : Nat → Nat} (h0 : f 0 = 0) (hf : ∀ v, f v < 2 ^ 32) : bitsOk (listT f) = true := by
  rw [listT_one h0]; exact listFrom_ok (by omega) (by omega) hf
theorem maskAt_listT {f : Nat → Nat} {v : Nat} (h : v < 256) : maskAt (listT f) (v : Int) = f v := by
  unfold listT; rw [maskAt_listFrom, if_pos (by omega)]
theorem listT_eq {m : List Bt} (h : bitsOk m = true) (hp : ∀ b ∈ m, 0 ≤ b.mask) {f : Nat → Nat} (hf : ∀ v : Nat, v < 256 → f v = maskAt m (v : Int)) : listT f = m := by
  have h0 : f 0 = 0 := by rw [hf 0 (by omega)]; exact maskAt_low h (by omega)
  have e : listT f = listT fun v => maskAt m (v : Int) := listFrom_congr fun v h1 h2 => hf v (by omega)
  rw [e]
  refine bits_same (l1 := 0) (l2 := 0) ?_ h listFrom_pos hp fun v => ?_
  · exact listT_ok (maskAt_low h (by omega)) fun v => maskAt_lt h
  · by_cases hv : 0 ≤ v ∧ v < 256
    · obtain ⟨n, rfl⟩ := Int.eq_ofNat_of_zero_le hv.1
      rw [maskAt_listT (by omega)]
    · rcases Int.lt_or_le v 0 with h1 | h1
      · rw [maskAt_low h (by omega)]
        exact maskAt_low (listT_ok (f := fun v => maskAt m (v : Int)) (maskAt_low h (by omega)) fun v => maskAt_lt h) (by omega)
      · rw [maskAt_high h (by omega)]
        exact maskAt_high (listT_ok (f := fun v => maskAt m (v : Int)) (maskAt_low h (by omega)) fun v => maskAt_lt h) (by omega)

/-! ### Tables that are written -/

/-- One more mask in the table. -/
def upd (f : Nat → Nat) (p : Nat × Nat) : Nat → Nat := fun v => if v = p.1 then f v ||| p.2 else f v
def orT (f : Nat → Nat) (l : List (Nat × Nat)) : Nat → Nat := l.foldl upd f
theorem orT_nil (f : Nat → Nat) : orT f [] = f := rfl
theorem orT_more (f : Nat → Nat) (l : List (Nat × Nat)) (p : Nat × Nat) : orT f (l ++ [p]) = upd (orT f l) p := by simp [orT]
theorem orT_append (f : Nat → Nat) (l k : List (Nat × Nat)) : orT f (l ++ k) = orT (orT f l) k := by simp [orT]
theorem orT_bit (f : Nat → Nat) (l : List (Nat × Nat)) (v b : Nat) : (orT f l v).testBit b = ((f v).testBit b || l.any fun p => p.1 == v && p.2.testBit b) := by
  induction l generalizing f with
  | nil => simp [orT]
  | cons p l ih =>
    show (orT (upd f p) l v).testBit b = _
    rw [ih, List.any_cons]
    unfold upd
    by_cases h : v = p.1
    · rw [if_pos h, Nat.testBit_or, show (p.1 == v) = true from by simp [h]]; simp [Bool.or_assoc]
    · rw [if_neg h, show (p.1 == v) = false from by rw [beq_eq_false_iff_ne]; exact fun e => h e.symm]; simp
theorem orT_lt {f : Nat → Nat} {l : List (Nat × Nat)} (hf : ∀ v, f v < 2 ^ 32) (hl : ∀ p ∈ l, p.2 < 2 ^ 32) (v : Nat) : orT f l v < 2 ^ 32 := by
  induction l generalizing f with
  | nil => exact hf v
  | cons p l ih =>
    refine ih (f := upd f p) (fun v => ?_) fun q hq => hl q (List.mem_cons_of_mem _ hq)
    unfold upd
    split
    · exact Nat.or_lt_two_pow (hf v) (hl p List.mem_cons_self)
    · exact hf v
theorem orT_zero {f : Nat → Nat} {l : List (Nat × Nat)} (hf : f 0 = 0) (hl : ∀ p ∈ l, p.1 ≠ 0) : orT f l 0 = 0 := by
  induction l generalizing f with
  | nil => exact hf
  | cons p l ih =>
    refine ih (f := upd f p) ?_ fun q hq => hl q (List.mem_cons_of_mem _ hq)
    unfold upd
    rw [if_neg (fun e => hl p List.mem_cons_self e.symm), hf]
/-- A bitmap as a table's entries. -/
def ents (m : List Bt) : List (Nat × Nat) := m.map fun b => (b.vol.toNat, b.mask.toNat)
theorem maskAt_bit {last : Int} {m : List Bt} (h : bitsFrom last m = true) (h0 : 0 ≤ last) (v b : Nat) : (maskAt m (v : Int)).testBit b = (ents m).any fun p => p.1 == v && p.2.testBit b := by
  induction m generalizing last with
  | nil => simp [maskAt, ents]
  | cons x r ih =>
    obtain ⟨h1, h2⟩ := bitsFrom_cons h
    rw [maskAt]
    show _ = ((x.vol.toNat == v && x.mask.toNat.testBit b) || (ents r).any _)
    rw [← ih h2 (by omega)]
    by_cases hv : x.vol = v
    · rw [if_pos hv, maskAt_low h2 (by omega), show (x.vol.toNat == v) = true from by simp; omega]; simp
    · rw [if_neg hv, show (x.vol.toNat == v) = false from by rw [beq_eq_false_iff_ne]; omega]; simp
theorem ents_lt {last : Int} {m : List Bt} (h : bitsFrom last m = true) : ∀ p ∈ ents m, p.2 < 2 ^ 32 := by
  intro p hp
  obtain ⟨b, hb, rfl⟩ := List.mem_map.1 hp
  have := bitsFrom_le h b hb
  show b.mask.toNat < 2 ^ 32
  omega
theorem ents_pos {last : Int} {m : List Bt} (h : bitsFrom last m = true) (h0 : 0 ≤ last) : ∀ p ∈ ents m, p.1 ≠ 0 := by
  intro p hp
  obtain ⟨b, hb, rfl⟩ := List.mem_map.1 hp
  have := bitsFrom_le h b hb
  show b.vol.toNat ≠ 0
  omega
def noT : Nat → Nat := fun _ => 0
/-- What Join tells of two valid bitmaps. -/
def joinT (a b : List Bt) : Nat → Nat := orT (orT noT (ents a)) (ents b)
theorem joinT_at {a b : List Bt} (ha : bitsOk a = true) (hb : bitsOk b = true) (v : Nat) : joinT a b v = maskAt a v ||| maskAt b v := by
  apply Nat.eq_of_testBit_eq
  intro i
  rw [Nat.testBit_or, maskAt_bit ha (by omega), maskAt_bit hb (by omega)]
  unfold joinT
  rw [orT_bit, orT_bit]
  simp [noT]
theorem joinT_lt {a b : List Bt} (ha : bitsOk a = true) (hb : bitsOk b = true) (v : Nat) : joinT a b v < 2 ^ 32 := by
  rw [joinT_at ha hb]; exact Nat.or_lt_two_pow (maskAt_lt ha) (maskAt_lt hb)
theorem joinT_zero {a b : List Bt} (ha : bitsOk a = true) (hb : bitsOk b = true) : joinT a b 0 = 0 := by
  rw [joinT_at ha hb, maskAt_low (v := ((0 : Nat) : Int)) ha (by omega), maskAt_low (v := ((0 : Nat) : Int)) hb (by omega)]; rfl
def joinM (a b : List Bt) : List Bt := listT (joinT a b)
theorem joinM_ok {a b : List Bt} (ha : bitsOk a = true) (hb : bitsOk b = true) : bitsOk (joinM a b) = true := listT_ok (joinT_zero ha hb) (joinT_lt ha hb)
theorem joinM_pos {a b : List Bt} : ∀ x ∈ joinM a b, 0 ≤ x.mask := listFrom_pos
theorem joinM_comm {a b : List Bt} (ha : bitsOk a = true) (hb : bitsOk b = true) : joinM a b = joinM b a :=
  listFrom_congr fun v _ _ => by rw [joinT_at ha hb, joinT_at hb ha, Nat.or_comm]
theorem joinM_at {a b : List Bt} (ha : bitsOk a = true) (hb : bitsOk b = true) (v : Int) : maskAt (joinM a b) v = maskAt a v ||| maskAt b v := by
  have hj := joinM_ok ha hb
  rcases Int.lt_or_le v 0 with h1 | h1
  · rw [maskAt_low hj (by omega), maskAt_low ha (by omega), maskAt_low hb (by omega)]; rfl
  · rcases Int.lt_or_le v 256 with h2 | h2
    · obtain ⟨n, rfl⟩ := Int.eq_ofNat_of_zero_le h1
      unfold joinM
      rw [maskAt_listT (by omega), joinT_at ha hb]
    · rw [maskAt_high hj (by omega), maskAt_high ha (by omega), maskAt_high hb (by omega)]; rfl

/-! ### The marked blocks -/

/-- The blocks of a mask, from k on, n of them. -/
def bitsAt (x : Nat) : Nat → Nat → List Nat
  | _, 0 => []
  | k, n + 1 => if x.testBit k = true then k :: bitsAt x (k + 1) n else bitsAt x (k + 1) n
theorem bitsAt_yes {x k n : Nat} (h : x.testBit k = true) : bitsAt x k (n + 1) = k :: bitsAt x (k + 1) n := by rw [bitsAt, if_pos h]
theorem bitsAt_no {x k n : Nat} (h : x.testBit k = false) : bitsAt x k (n + 1) = bitsAt x (k + 1) n := by rw [bitsAt, if_neg (by simp [h])]
theorem bitsAt_mem {x k n j : Nat} : j ∈ bitsAt x k n ↔ (k ≤ j ∧ j < k + n) ∧ x.testBit j = true := by
  induction n generalizing k with
  | zero => simp [bitsAt]; omega
  | succ n ih =>
    cases h : x.testBit k with
    | true =>
      rw [bitsAt_yes h, List.mem_cons, ih]
      constructor
      · rintro (rfl | ⟨h1, h2⟩)
        · exact ⟨by omega, h⟩
        · exact ⟨by omega, h2⟩
      · rintro ⟨h1, h2⟩
        by_cases hj : j = k
        · exact .inl hj
        · exact .inr ⟨by omega, h2⟩
    | false =>
      rw [bitsAt_no h, ih]
      constructor
      · rintro ⟨h1, h2⟩; exact ⟨by omega, h2⟩
      · rintro ⟨h1, h2⟩
        have : j ≠ k := by rintro rfl; rw [h] at h2; cases h2
        exact ⟨by omega, h2⟩
def popN (x : Nat) : Nat := (bitsAt x 0 32).length
theorem bitsAt_len_or (x y k n : Nat) : (bitsAt (x ||| y) k n).length ≤ (bitsAt x k n).length + (bitsAt y k n).length := by
  induction n generalizing k with
  | zero => simp [bitsAt]
  | succ n ih =>
    have := ih (k + 1)
    simp only [bitsAt, Nat.testBit_or]
    cases x.testBit k <;> cases y.testBit k <;> simp <;> omega
theorem bitsAt_len_le (x k n : Nat) : (bitsAt x k n).length ≤ n := by
  induction n generalizing k with
  | zero => simp [bitsAt]
  | succ n ih =>
    have := ih (k + 1)
    rw [bitsAt]
    split
    · simp; omega
    · omega
/-- The marks of one volume. -/
def marksOf (v : Int) (bs : List Nat) : List (Int × Int) := bs.map fun (b : Nat) => (v, (b : Int))
def listM : List Bt → List (Int × Int)
  | [] => []
  | b :: r => marksOf b.vol (bitsAt b.mask.toNat 0 32) ++ listM r
def marksM (m : List Bt) : List (Int × Int) := if bitsOk m = true then listM m else []
def countM (m : List Bt) : Nat := (marksM m).length
theorem listM_append (a b : List Bt) : listM (a ++ b) = listM a ++ listM b := by
  induction a with
  | nil => rfl
  | cons x a ih => simp [listM, ih]
theorem listM_take {m : List Bt} {k : Nat} (hk : k < m.length) : listM (m.take (k + 1)) = listM (m.take k) ++ marksOf m[k].vol (bitsAt m[k].mask.toNat 0 32) := by
  rw [List.take_succ_eq_append_getElem hk, listM_append]; simp [listM]
theorem listM_length (m : List Bt) : (listM m).length = (m.map fun b => popN b.mask.toNat).sum := by
  induction m with
  | nil => rfl
  | cons b r ih => simp [listM, marksOf, ih, popN]
theorem listM_len_le (m : List Bt) : (listM m).length ≤ m.length * 32 := by
  induction m with
  | nil => simp [listM]
  | cons b r ih =>
    have := bitsAt_len_le b.mask.toNat 0 32
    simp [listM, marksOf]; omega
theorem listM_mem {last : Int} {m : List Bt} (h : bitsFrom last m = true) (h0 : 0 ≤ last) (v i : Int) : (v, i) ∈ listM m ↔ 0 ≤ i ∧ i < 32 ∧ (maskAt m v).testBit i.toNat = true := by
  induction m generalizing last with
  | nil => simp [listM, maskAt]
  | cons b r ih =>
    obtain ⟨h1, h2⟩ := bitsFrom_cons h
    rw [listM, List.mem_append, ih h2 (by omega), maskAt]
    have hm : (v, i) ∈ marksOf b.vol (bitsAt b.mask.toNat 0 32) ↔ b.vol = v ∧ 0 ≤ i ∧ i < 32 ∧ b.mask.toNat.testBit i.toNat = true := by
      unfold marksOf
      rw [List.mem_map]
      constructor
      · rintro ⟨j, hj, e⟩
        obtain ⟨⟨g1, g2⟩, g3⟩ := bitsAt_mem.1 hj
        simp only [Prod.mk.injEq] at e
        obtain ⟨rfl, rfl⟩ := e
        exact ⟨rfl, by omega, by omega, by simpa using g3⟩
      · rintro ⟨rfl, g1, g2, g3⟩
        refine ⟨i.toNat, bitsAt_mem.2 ⟨by omega, g3⟩, ?_⟩
        rw [Int.toNat_of_nonneg g1]
    rw [hm]
    by_cases hv : b.vol = v
    · subst hv
      rw [if_pos rfl, maskAt_low h2 (Int.le_refl _)]
      simp
    · rw [if_neg hv]
      simp [hv]

/-! ### The document's way: the bits of some blocks -/

/-- Which block is named. -/
def named (l : List (Int × Int)) (v b : Nat) : Bool := l.any fun k => k.1 == (v : Int) && k.2 == (b : Int)
def sumBits (p : Nat → Bool) : Nat → Nat
  | 0 => 0
  | n + 1 => sumBits p n + if p n = true then 2 ^ n else 0
theorem sumBits_lt (p : Nat → Bool) (n : Nat) : sumBits p n < 2 ^ n := by
  induction n with
  | zero => simp [sumBits]
  | succ n ih =>
    rw [sumBits, Nat.pow_succ]
    split <;> omega
theorem sumBits_bit (p : Nat → Bool) (n b : Nat) : (sumBits p n).testBit b = (decide (b < n) && p b) := by
  induction n with
  | zero => simp [sumBits]
  | succ n ih =>
    rw [sumBits]
    have hlt := sumBits_lt p n
    cases hp : p n with
    | false =>
      rw [if_neg (by simp), Nat.add_zero, ih]
      by_cases hb : b = n
      · subst hb; simp [hp]
      · by_cases h2 : b < n
        · rw [decide_eq_true h2, decide_eq_true (by omega)]
        · rw [decide_eq_false h2, decide_eq_false (by omega)]
    | true =>
      rw [if_pos rfl, Nat.add_comm]
      by_cases hb : b = n
      · subst hb
        rw [Nat.testBit_two_pow_add_eq, ih]
        simp [hp]
      · rcases Nat.lt_or_ge b n with h2 | h2
        · rw [Nat.testBit_two_pow_add_gt h2, ih, decide_eq_true h2, decide_eq_true (by omega)]
        · have h3 : 2 ^ n + sumBits p n < 2 ^ b := by
            have : 2 ^ (n + 1) ≤ 2 ^ b := Nat.pow_le_pow_right (by omega) (by omega)
            rw [Nat.pow_succ] at this
            omega
          rw [Nat.testBit_lt_two_pow h3, decide_eq_false (by omega)]
          rfl
def ofMask (l : List (Int × Int)) (v : Nat) : Nat := sumBits (named l v) 32
theorem ofMask_lt (l : List (Int × Int)) (v : Nat) : ofMask l v < 2 ^ 32 := sumBits_lt _ _
def mayB (k : Int × Int) : Bool := decide (0 < k.1 ∧ k.1 < 256 ∧ 0 ≤ k.2 ∧ k.2 < 32)
def mayAll (l : List (Int × Int)) : Bool := l.all mayB
theorem ofMask_zero {l : List (Int × Int)} (h : mayAll l = true) : ofMask l 0 = 0 := by
  apply Nat.eq_of_testBit_eq
  intro i
  rw [ofMask, sumBits_bit, Nat.zero_testBit]
  have : named l 0 i = false := by
    unfold named
    rw [List.any_eq_false]
    intro k hk
    have := List.all_eq_true.1 h k hk
    simp only [mayB, decide_eq_true_eq] at this
    simp; omega
  rw [this]; simp
def ofM (l : List (Int × Int)) : List Bt := if mayAll l = true then listT (ofMask l) else []
theorem ofM_ok (l : List (Int × Int)) : bitsOk (ofM l) = true := by
  unfold ofM
  split
  · exact listT_ok (ofMask_zero ‹_›) (ofMask_lt l)
  · rfl
/-- Entries of a table for blocks. -/
def entsK (l : List (Int × Int)) : List (Nat × Nat) := l.map fun k => (k.1.toNat, 2 ^ k.2.toNat)
theorem orT_named {l : List (Int × Int)} (h : mayAll l = true) (v : Nat) : orT noT (entsK l) v = ofMask l v := by
  apply Nat.eq_of_testBit_eq
  intro i
  rw [orT_bit, ofMask, sumBits_bit]
  simp only [noT, Nat.zero_testBit, Bool.false_or]
  rw [Bool.eq_iff_iff]
  simp only [Bool.and_eq_true, decide_eq_true_eq, named, entsK, List.any_map, List.any_eq_true, Function.comp, beq_iff_eq, Nat.testBit_two_pow]
  constructor
  · rintro ⟨k, hk, h1, h2⟩
    have := List.all_eq_true.1 h k hk
    simp only [mayB, decide_eq_true_eq] at this
    exact ⟨by omega, k, hk, by omega, by omega⟩
  · rintro ⟨h0, k, hk, h1, h2⟩
    exact ⟨k, hk, by omega, by omega⟩
theorem named_listM {m : List Bt} (h : bitsOk m = true) (v b : Nat) : named (listM m) v b = (decide (b < 32) && (maskAt m v).testBit b) := by
  rw [Bool.eq_iff_iff]
  simp only [named, List.any_eq_true, Bool.and_eq_true, beq_iff_eq, decide_eq_true_eq]
  constructor
  · rintro ⟨⟨x, y⟩, hk, rfl, rfl⟩
    have := (listM_mem h (by omega) _ _).1 hk
    exact ⟨by omega, by simpa using this.2.2⟩
  · rintro ⟨h1, h2⟩
    exact ⟨((v : Int), (b : Int)), (listM_mem h (by omega) _ _).2 ⟨by omega, by omega, by simpa using h2⟩, rfl, rfl⟩
theorem named_append (a b : List (Int × Int)) (v i : Nat) : named (a ++ b) v i = (named a v i || named b v i) := by simp [named]
theorem listM_may {m : List Bt} (h : bitsOk m = true) : mayAll (listM m) = true := by
  unfold mayAll
  rw [List.all_eq_true]
  rintro ⟨x, y⟩ hk
  have h2 := (listM_mem h (by omega) _ _).1 hk
  simp only [mayB, decide_eq_true_eq]
  have h3 : maskAt m x ≠ 0 := by intro e; rw [e] at h2; simp at h2
  refine ⟨?_, ?_, h2.1, h2.2.1⟩
  · rcases Int.lt_or_le 0 x with h4 | h4
    · exact h4
    · exact absurd (maskAt_low h h4) h3
  · rcases Int.lt_or_le 255 x with h4 | h4
    · exact absurd (maskAt_high h h4) h3
    · omega
theorem bit_lt {x i : Nat} (h : x < 2 ^ 32) (hi : 32 ≤ i) : x.testBit i = false := Nat.testBit_lt_two_pow (Nat.lt_of_lt_of_le h (Nat.pow_le_pow_right (by omega) hi))
/-- Join in the document's way. -/
theorem join_of {a b : List Bt} (ha : bitsOk a = true) (hb : bitsOk b = true) : ofM (listM a ++ listM b) = joinM a b := by
  have hm : mayAll (listM a ++ listM b) = true := by
    have h1 := listM_may ha; have h2 := listM_may hb
    unfold mayAll at *; rw [List.all_append, h1, h2]; rfl
  unfold ofM
  rw [if_pos hm]
  refine listFrom_congr fun v _ _ => Nat.eq_of_testBit_eq fun i => ?_
  rw [joinT_at ha hb, ofMask, sumBits_bit, named_append, named_listM ha, named_listM hb, Nat.testBit_or]
  by_cases hi : i < 32
  · simp [hi]
  · rw [bit_lt (maskAt_lt ha) (by omega), bit_lt (maskAt_lt hb) (by omega)]; simp [hi]
/-- One block more. -/
def oneM (vol block : Int) : List Bt := [⟨vol, (2 : Int) ^ block.toNat⟩]
theorem two_pow_lt {n : Nat} (h : n < 32) : (2 : Int) ^ n ≤ 2147483648 ∧ 1 ≤ (2 : Int) ^ n := by
  have h1 : 2 ^ n ≤ 2 ^ 31 := Nat.pow_le_pow_right (by omega) (by omega)
  have h2 : 1 ≤ 2 ^ n := Nat.one_le_two_pow
  have h3 : ((2 ^ n : Nat) : Int) = (2 : Int) ^ n := by simp
  omega
theorem oneM_ok {vol block : Int} (h : mayB (vol, block) = true) : bitsOk (oneM vol block) = true := by
  simp only [mayB, decide_eq_true_eq] at h
  have := two_pow_lt (n := block.toNat) (by omega)
  refine bitsFrom_of ⟨?_, ?_, ?_, ?_⟩ rfl
  · simp only; omega
  · simp only; omega
  · simp only; omega
  · simp only; omega
theorem toNat_pow (n : Nat) : ((2 : Int) ^ n).toNat = 2 ^ n := by
  have h3 : ((2 ^ n : Nat) : Int) = (2 : Int) ^ n := by simp
  rw [← h3, Int.toNat_natCast]
theorem set_of {m : List Bt} {vol block : Int} (hm : bitsOk m = true) (h : mayB (vol, block) = true) : ofM (listM m ++ [(vol, block)]) = joinM m (oneM vol block) := by
  have h1 := h
  simp only [mayB, decide_eq_true_eq] at h1
  have ho := oneM_ok h
  have hma : mayAll (listM m ++ [(vol, block)]) = true := by
    have h1 := listM_may hm
    unfold mayAll at *; rw [List.all_append, h1]; simp [h]
  unfold ofM
  rw [if_pos hma]
  refine listFrom_congr fun v _ _ => Nat.eq_of_testBit_eq fun i => ?_
  rw [joinT_at hm ho, ofMask, sumBits_bit, named_append, named_listM hm, Nat.testBit_or]
  have e : maskAt (oneM vol block) (v : Int) = if vol = v then 2 ^ block.toNat else 0 := by
    show (if vol = (v : Int) then ((2 : Int) ^ block.toNat).toNat else 0) = _
    rw [toNat_pow]
  rw [e]
  by_cases hi : i < 32
  · rw [decide_eq_true hi, Bool.true_and, Bool.true_and]
    congr 1
    rw [Bool.eq_iff_iff]
    simp only [named, List.any_cons, List.any_nil, Bool.or_false, Bool.and_eq_true, beq_iff_eq]
    by_cases hv : vol = v
    · rw [if_pos hv, Nat.testBit_two_pow, decide_eq_true_eq]; omega
    · rw [if_neg hv]; simp [hv]
  · rw [bit_lt (maskAt_lt hm) (by omega)]
    have : (if vol = (v : Int) then 2 ^ block.toNat else 0) < 2 ^ 32 := by
      split
      · exact Nat.pow_lt_pow_right (by omega) (by omega)
      · decide
    rw [bit_lt this (by omega)]
    simp [hi]

/-! ### Is a block marked? -/

def hasB (m : List Bt) (vol block : Int) : Bool := bitsOk m && mayB (vol, block) && (maskAt m vol).testBit block.toNat
theorem hasB_doc {m : List Bt} {vol block : Int} (h : bitsOk m = true) (hb : 0 ≤ block) (hb2 : block < 32) : hasB m vol block = (maskAt m vol).testBit block.toNat := by
  unfold hasB
  rw [h, Bool.true_and]
  cases hm : mayB (vol, block) with
  | true => rfl
  | false =>
    have : maskAt m vol = 0 := by
      simp only [mayB, decide_eq_false_iff_not] at hm
      rcases Int.lt_or_le 0 vol with h4 | h4
      · exact maskAt_high h (by omega)
      · exact maskAt_low h h4
    rw [this]; simp
theorem has_join {a b : List Bt} (ha : bitsOk a = true) (hb : bitsOk b = true) (vol block : Int) : hasB (joinM a b) vol block = (hasB a vol block || hasB b vol block) := by
  unfold hasB
  rw [joinM_ok ha hb, ha, hb, joinM_at ha hb, Nat.testBit_or]
  cases mayB (vol, block) <;> simp
theorem has_set {m : List Bt} {vol block : Int} (hm : bitsOk m = true) (h : mayB (vol, block) = true) : hasB (joinM m (oneM vol block)) vol block = true := by
  rw [has_join hm (oneM_ok h)]
  have : hasB (oneM vol block) vol block = true := by
    unfold hasB
    rw [oneM_ok h, h]
    show (if vol = vol then ((2 : Int) ^ block.toNat).toNat else 0).testBit block.toNat = true
    rw [if_pos rfl, toNat_pow, Nat.testBit_two_pow]; simp
  rw [this]; simp
theorem count_listFrom (f : Nat → Nat) (k n : Nat) : (listM (listFrom f k n)).length = ((List.range' k n).map fun v => popN (f v)).sum := by
  induction n generalizing k with
  | zero => rfl
  | succ n ih =>
    rw [List.range'_succ, List.map_cons, List.sum_cons, ← ih]
    by_cases h : f k = 0
    · rw [listFrom_zero h, h]
      have : popN 0 = 0 := by decide
      omega
    · rw [listFrom_some h, listM]
      simp [marksOf, popN]
theorem count_join {a b : List Bt} (ha : bitsOk a = true) (hb : bitsOk b = true) (pa : ∀ x ∈ a, 0 ≤ x.mask) (pb : ∀ x ∈ b, 0 ≤ x.mask) : countM (joinM a b) ≤ countM a + countM b := by
  unfold countM marksM
  rw [if_pos (joinM_ok ha hb), if_pos ha, if_pos hb]
  have ea := listT_eq ha pa (f := fun v => maskAt a v) fun v _ => rfl
  have eb := listT_eq hb pb (f := fun v => maskAt b v) fun v _ => rfl
  have h1 : (listM a).length = ((List.range' 0 256).map fun v => popN (maskAt a (v : Nat))).sum := by
    conv => lhs; rw [← ea]
    exact count_listFrom _ _ _
  have h2 : (listM b).length = ((List.range' 0 256).map fun v => popN (maskAt b (v : Nat))).sum := by
    conv => lhs; rw [← eb]
    exact count_listFrom _ _ _
  rw [h1, h2]
  show (listM (listFrom (joinT a b) 0 256)).length ≤ _
  rw [count_listFrom]
  generalize List.range' 0 256 = l
  induction l with
  | nil => simp
  | cons v l ih =>
    simp only [List.map_cons, List.sum_cons]
    have := bitsAt_len_or (maskAt a (v : Nat)) (maskAt b (v : Nat)) 0 32
    rw [joinT_at ha hb]
    unfold popN at *
    omega
end Go.Proofs.Ytkpoeigoocbgeaa
