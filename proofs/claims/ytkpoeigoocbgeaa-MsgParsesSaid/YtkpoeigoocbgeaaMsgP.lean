/- Messages as bytes, plain: lines, writes, bits, sizes and messages, written and read; what is written is read back, and the bytes tell what was written. No program in sight. -/
import Derived.Test.YtkpoeigoocbgeaaPlain
import Derived.Test.YtkpoeigoocbgeaaBack
import Derived.Test.YtkpoeigoocbgeaaLineP
import Derived.Test.YtkpoeigoocbgeaaVolP
import Derived.Test.YtkpoeigoocbgeaaDirP
namespace Go.Proofs.Ytkpoeigoocbgeaa

/-! ### Numbers -/
def fitB (n : Int) : Bool := decide (0 ≤ n ∧ n ≤ 1099511627776)
theorem fitB_iff (n : Int) : fitB n = true ↔ 0 ≤ n ∧ n ≤ 1099511627776 := by unfold fitB; simp
theorem dec8_fit {n : Int} (h0 : 0 ≤ n) (h1 : n ≤ 1099511627776) : (dec (enc 8 n.toNat) : Int) = n := by
  rw [dec_enc_of_lt (by omega)]; omega
theorem enc_app_inj {w a b : Nat} {r s : List UInt8} (ha : a < 256 ^ w) (hb : b < 256 ^ w) (h : enc w a ++ r = enc w b ++ s) : a = b ∧ r = s := by
  obtain ⟨h1, h2⟩ := List.append_inj h (by rw [enc_length, enc_length])
  exact ⟨enc_inj ha hb h1, h2⟩
theorem enc8_app_inj {a b : Int} {r s : List UInt8} (ha : fitB a = true) (hb : fitB b = true) (h : enc 8 a.toNat ++ r = enc 8 b.toNat ++ s) : a = b ∧ r = s := by
  rw [fitB_iff] at ha hb
  obtain ⟨h1, h2⟩ := enc_app_inj (by omega) (by omega) h
  exact ⟨by omega, h2⟩
theorem enc_take {r : List UInt8} {w : Nat} (h : w ≤ r.length) : enc w (dec (r.take w)) = r.take w := by
  have := enc_dec (r.take w)
  rwa [List.length_take, Nat.min_eq_left h] at this
theorem dec_take_lt256 (r : List UInt8) (w : Nat) : dec (r.take w) < 256 ^ w :=
  Nat.lt_of_lt_of_le (dec_lt _) (Nat.pow_le_pow_right (by omega) (by rw [List.length_take]; exact Nat.min_le_left _ _))

/-! ### Lines -/
def brB (x : Br) : List UInt8 := enc 8 x.1.toNat ++ enc 8 x.2.toNat
def brsB (l : List Br) : List UInt8 := l.flatMap brB
def lineB (l : List Br) : List UInt8 := enc 1 l.length ++ brsB l
def brOf (r : List UInt8) : Br := ((dec (r.take 8) : Int), (dec ((r.drop 8).take 8) : Int))
def brsOf : Nat → List UInt8 → List Br
  | 0, _ => []
  | n + 1, r => brOf r :: brsOf n (r.drop 16)
def lined (l : List Br) : Bool := l.isEmpty || lineOk l
def FitBrs (l : List Br) : Prop := ∀ x ∈ l, (0 ≤ x.1 ∧ x.1 ≤ 1099511627776) ∧ (0 ≤ x.2 ∧ x.2 ≤ 1099511627776)
theorem lineFrom_fit {e a : Int} {l : List Br} (he : 0 ≤ e) (ha : 0 ≤ a) (h : lineFrom e a l = true) : FitBrs l := by
  induction l generalizing e a with
  | nil => intro x hx; cases hx
  | cons x r ih =>
    obtain ⟨h1, h2⟩ := lineFrom_cons h
    intro y hy
    rcases List.mem_cons.1 hy with rfl | hy
    · omega
    · exact ih (by omega) (by omega) h2 y hy
theorem lined_fit {l : List Br} (h : lined l = true) : FitBrs l ∧ l.length ≤ 64 := by
  unfold lined at h
  rw [Bool.or_eq_true] at h
  rcases h with h | h
  · rw [List.isEmpty_iff] at h
    subst h
    exact ⟨fun x hx => (by cases hx), by simp⟩
  · obtain ⟨h1, _, h3⟩ := (lineOk_iff l).1 h
    exact ⟨lineFrom_fit (by omega) (by omega) h3, h1⟩
theorem brB_length (x : Br) : (brB x).length = 16 := by unfold brB; rw [List.length_append, enc_length, enc_length]
theorem brsB_length (l : List Br) : (brsB l).length = 16 * l.length := by
  unfold brsB
  induction l with
  | nil => rfl
  | cons x l ih => rw [List.flatMap_cons, List.length_append, ih, brB_length, List.length_cons]; omega
theorem lineB_length (l : List Br) : (lineB l).length = 1 + 16 * l.length := by unfold lineB; rw [List.length_append, enc_length, brsB_length]
theorem brsOf_length : ∀ (n : Nat) (r : List UInt8), (brsOf n r).length = n
  | 0, _ => rfl
  | n + 1, r => by show (brsOf n (r.drop 16)).length + 1 = n + 1; rw [brsOf_length n]
theorem drop_brB (x : Br) (r : List UInt8) : (brB x ++ r).drop 16 = r := by
  rw [List.drop_append_of_le_length (by rw [brB_length]; omega), List.drop_of_length_le (by rw [brB_length]; omega)]; rfl
theorem brOf_B {x : Br} (h1 : 0 ≤ x.1 ∧ x.1 ≤ 1099511627776) (h2 : 0 ≤ x.2 ∧ x.2 ≤ 1099511627776) (r : List UInt8) : brOf (brB x ++ r) = x := by
  unfold brOf brB
  rw [List.append_assoc, take_enc, drop_enc, take_enc, dec8_fit h1.1 h1.2, dec8_fit h2.1 h2.2]
theorem brsOf_B {l : List Br} (h : FitBrs l) (r : List UInt8) : brsOf l.length (brsB l ++ r) = l := by
  induction l with
  | nil => rfl
  | cons x l ih =>
    have hx := h x (by simp)
    show brOf _ :: brsOf l.length _ = _
    unfold brsB
    rw [List.flatMap_cons, List.append_assoc, brOf_B hx.1 hx.2, drop_brB]
    have := ih (fun y hy => h y (List.mem_cons_of_mem _ hy))
    unfold brsB at this
    rw [this]
theorem brB_of {r : List UInt8} (h : 16 ≤ r.length) : brB (brOf r) = r.take 16 := by
  unfold brB brOf
  dsimp only
  rw [Int.toNat_natCast, Int.toNat_natCast, enc_take (by omega), enc_take (by rw [List.length_drop]; omega)]
  rw [show (16 : Nat) = 8 + 8 from rfl, List.take_add]
theorem brsB_of : ∀ (n : Nat) {r : List UInt8}, 16 * n ≤ r.length → brsB (brsOf n r) = r.take (16 * n)
  | 0, r, _ => by rw [Nat.mul_zero, List.take_zero]; rfl
  | n + 1, r, h => by
    show brB (brOf r) ++ brsB (brsOf n (r.drop 16)) = _
    rw [brB_of (by omega), brsB_of n (by rw [List.length_drop]; omega), show 16 * (n + 1) = 16 + 16 * n from by omega, List.take_add]
/-- The line at the beginning of bytes: how many branches, whether it is one, which. -/
def lnN (r : List UInt8) : Nat := dec (r.take 1)
def lnOk (r : List UInt8) : Bool := decide (1 ≤ r.length ∧ 1 + 16 * lnN r ≤ r.length) && lined (brsOf (lnN r) (r.drop 1))
def lnL (r : List UInt8) : List Br := brsOf (lnN r) (r.drop 1)
def lnR (r : List UInt8) : List UInt8 := r.drop (1 + 16 * lnN r)
theorem ln_back {l : List Br} (h : lined l = true) (more : List UInt8) : lnOk (lineB l ++ more) = true ∧ lnN (lineB l ++ more) = l.length ∧ lnL (lineB l ++ more) = l ∧ lnR (lineB l ++ more) = more := by
  obtain ⟨h1, h2⟩ := lined_fit h
  have hn : lnN (lineB l ++ more) = l.length := by
    unfold lnN lineB
    rw [List.append_assoc, take_enc, dec_enc_of_lt (by omega)]
  have hl : lnL (lineB l ++ more) = l := by
    unfold lnL
    rw [hn]
    unfold lineB
    rw [List.append_assoc, drop_enc, brsOf_B h1]
  refine ⟨?_, hn, hl, ?_⟩
  · unfold lnOk
    have hl2 := hl
    unfold lnL at hl2
    rw [hl2, h, hn, decide_eq_true ⟨by rw [List.length_append, lineB_length]; omega, by rw [List.length_append, lineB_length]; omega⟩]
    rfl
  · unfold lnR
    rw [hn, List.drop_append_of_le_length (by rw [lineB_length]; omega), List.drop_of_length_le (by rw [lineB_length]; omega)]; rfl
theorem ln_bytes {r : List UInt8} (h : lnOk r = true) : lined (lnL r) = true ∧ r = lineB (lnL r) ++ lnR r := by
  unfold lnOk at h
  rw [Bool.and_eq_true, decide_eq_true_iff] at h
  obtain ⟨⟨h1, h2⟩, h3⟩ := h
  refine ⟨h3, ?_⟩
  unfold lineB lnL lnR
  rw [brsOf_length, brsB_of _ (by rw [List.length_drop]; omega)]
  unfold lnN
  rw [enc_take h1]
  have e : r.take 1 ++ (r.drop 1).take (16 * dec (r.take 1)) = r.take (1 + 16 * dec (r.take 1)) := by rw [List.take_add]
  rw [e, List.take_append_drop]
theorem line_inj {l m : List Br} {r s : List UInt8} (h1 : lined l = true) (h2 : lined m = true) (h : lineB l ++ r = lineB m ++ s) : l = m ∧ r = s := by
  obtain ⟨_, _, a3, a4⟩ := ln_back h1 r
  obtain ⟨_, _, b3, b4⟩ := ln_back h2 s
  rw [h] at a3 a4
  exact ⟨a3.symm.trans b3, a4.symm.trans b4⟩

/-! ### Writes -/
def wrB (x : Wr) : List UInt8 := enc 1 x.vol.toNat ++ (enc 1 x.block.toNat ++ (enc 2 x.data.size ++ x.data.data.toList))
def wrsB (ws : List Wr) : List UInt8 := ws.flatMap wrB
def writesB (ws : List Wr) : List UInt8 := enc 2 ws.length ++ wrsB ws
def mayW (x : Wr) : Bool := decide (1 ≤ x.vol ∧ x.vol ≤ 255 ∧ 0 ≤ x.block ∧ x.block ≤ 31 ∧ x.data.size ≤ 8)
theorem mayW_iff (x : Wr) : mayW x = true ↔ 1 ≤ x.vol ∧ x.vol ≤ 255 ∧ 0 ≤ x.block ∧ x.block ≤ 31 ∧ x.data.size ≤ 8 := by unfold mayW; simp
def Writable (ws : List Wr) : Prop := ws.length ≤ 128 ∧ ws = foldW ws ∧ ∀ x ∈ ws, mayW x = true
open Classical in
noncomputable def writable (ws : List Wr) : Bool := decide (Writable ws)
open Classical in
theorem writable_iff (ws : List Wr) : writable ws = true ↔ Writable ws := by unfold writable; exact decide_eq_true_iff
def wrZ (r : List UInt8) : Nat := dec ((r.drop 2).take 2)
def wrOf (r : List UInt8) : Wr := ⟨(dec (r.take 1) : Int), (dec ((r.drop 1).take 1) : Int), str ((r.drop 4).take (wrZ r))⟩
def wrsGo : Nat → List UInt8 → Option (List Wr × List UInt8)
  | 0, r => some ([], r)
  | n + 1, r => if 4 ≤ r.length ∧ 4 + wrZ r ≤ r.length then (match wrsGo n (r.drop (4 + wrZ r)) with | some p => some (wrOf r :: p.1, p.2) | none => none) else none
theorem wrB_length (x : Wr) : (wrB x).length = 4 + x.data.size := by
  unfold wrB
  rw [List.length_append, List.length_append, List.length_append, enc_length, enc_length, enc_length, list_length]; omega
theorem wrZ_B {x : Wr} (h : mayW x = true) (r : List UInt8) : wrZ (wrB x ++ r) = x.data.size := by
  rw [mayW_iff] at h
  unfold wrZ wrB
  have e : (enc 1 x.vol.toNat ++ (enc 1 x.block.toNat ++ (enc 2 x.data.size ++ x.data.data.toList)) ++ r).drop 2 = enc 2 x.data.size ++ (x.data.data.toList ++ r) := by
    rw [List.append_assoc, show (2 : Nat) = 1 + 1 from rfl, ← List.drop_drop, drop_enc, List.append_assoc, drop_enc, List.append_assoc]
  rw [e, take_enc, dec_enc_of_lt (by omega)]
theorem wrOf_B {x : Wr} (h : mayW x = true) (r : List UInt8) : wrOf (wrB x ++ r) = x := by
  have hz := wrZ_B h r
  rw [mayW_iff] at h
  unfold wrOf
  rw [hz]
  unfold wrB
  have e1 : (enc 1 x.vol.toNat ++ (enc 1 x.block.toNat ++ (enc 2 x.data.size ++ x.data.data.toList)) ++ r).take 1 = enc 1 x.vol.toNat := by rw [List.append_assoc, take_enc]
  have e2 : (enc 1 x.vol.toNat ++ (enc 1 x.block.toNat ++ (enc 2 x.data.size ++ x.data.data.toList)) ++ r).drop 1 = enc 1 x.block.toNat ++ ((enc 2 x.data.size ++ x.data.data.toList) ++ r) := by rw [List.append_assoc, drop_enc, List.append_assoc]
  have e3 : (enc 1 x.vol.toNat ++ (enc 1 x.block.toNat ++ (enc 2 x.data.size ++ x.data.data.toList)) ++ r).drop 4 = x.data.data.toList ++ r := by
    rw [show (4 : Nat) = 1 + 3 from rfl, ← List.drop_drop, e2, show (3 : Nat) = 1 + 2 from rfl, ← List.drop_drop, drop_enc, List.append_assoc, drop_enc]
  rw [e1, e2, e3, take_enc, dec_enc_of_lt (by omega), dec_enc_of_lt (by omega)]
  have e4 : (x.data.data.toList ++ r).take x.data.size = x.data.data.toList := by
    rw [← list_length, List.take_left']; rfl
  rw [e4, str_of]
  obtain ⟨v, b, d⟩ := x
  dsimp only at h ⊢
  rw [show (v.toNat : Int) = v from by omega, show (b.toNat : Int) = b from by omega]
theorem drop_wrB (x : Wr) (r : List UInt8) : (wrB x ++ r).drop (4 + x.data.size) = r := by
  rw [List.drop_append_of_le_length (by rw [wrB_length]; omega), List.drop_of_length_le (by rw [wrB_length]; omega)]; rfl
theorem wrsGo_B {ws : List Wr} (h : ∀ x ∈ ws, mayW x = true) (r : List UInt8) : wrsGo ws.length (wrsB ws ++ r) = some (ws, r) := by
  induction ws with
  | nil => rfl
  | cons x l ih =>
    have hx := h x (by simp)
    have e : wrsB (x :: l) ++ r = wrB x ++ (wrsB l ++ r) := by unfold wrsB; rw [List.flatMap_cons, List.append_assoc]
    rw [e]
    show (if _ then _ else _) = _
    rw [wrZ_B hx, if_pos ⟨by rw [List.length_append, wrB_length]; omega, by rw [List.length_append, wrB_length]; omega⟩, drop_wrB, ih (fun y hy => h y (List.mem_cons_of_mem _ hy)), wrOf_B hx]
theorem wrB_of {r : List UInt8} (h1 : 4 ≤ r.length) (h2 : 4 + wrZ r ≤ r.length) : wrB (wrOf r) ++ r.drop (4 + wrZ r) = r := by
  have hs : (str ((r.drop 4).take (wrZ r))).size = wrZ r := by rw [str_size, List.length_take, List.length_drop]; omega
  unfold wrB wrOf
  dsimp only
  rw [hs, Int.toNat_natCast, Int.toNat_natCast, str_list]
  have e0 : enc 2 (wrZ r) = (r.drop 2).take 2 := by unfold wrZ; exact enc_take (by rw [List.length_drop]; omega)
  rw [e0, enc_take (by omega), enc_take (by rw [List.length_drop]; omega)]
  have e1 : (r.drop 4).take (wrZ r) ++ r.drop (4 + wrZ r) = r.drop 4 := by rw [← List.drop_drop, List.take_append_drop]
  have e2 : (r.drop 2).take 2 ++ r.drop 4 = r.drop 2 := by rw [show (4 : Nat) = 2 + 2 from rfl, ← List.drop_drop, List.take_append_drop]
  have e3 : (r.drop 1).take 1 ++ r.drop 2 = r.drop 1 := by rw [show (2 : Nat) = 1 + 1 from rfl, ← List.drop_drop, List.take_append_drop]
  rw [List.append_assoc, List.append_assoc, List.append_assoc, e1, e2, e3, List.take_append_drop]
theorem wrsGo_bytes : ∀ (n : Nat) {r : List UInt8} {ws : List Wr} {rest : List UInt8}, wrsGo n r = some (ws, rest) → ws.length = n ∧ r = wrsB ws ++ rest
  | 0, r, ws, rest, h => by
    have h : some (([] : List Wr), r) = some (ws, rest) := h
    simp only [Option.some.injEq, Prod.mk.injEq] at h
    obtain ⟨rfl, rfl⟩ := h
    exact ⟨rfl, rfl⟩
  | n + 1, r, ws, rest, h => by
    have h : (if 4 ≤ r.length ∧ 4 + wrZ r ≤ r.length then (match wrsGo n (r.drop (4 + wrZ r)) with | some p => some (wrOf r :: p.1, p.2) | none => none) else none) = some (ws, rest) := h
    split at h
    · rename_i hc
      split at h
      · rename_i p hp
        simp only [Option.some.injEq, Prod.mk.injEq] at h
        obtain ⟨rfl, rfl⟩ := h
        obtain ⟨h1, h2⟩ := wrsGo_bytes n (ws := p.1) (rest := p.2) hp
        refine ⟨by rw [List.length_cons, h1], ?_⟩
        have e : wrsB (wrOf r :: p.1) ++ p.2 = wrB (wrOf r) ++ (wrsB p.1 ++ p.2) := by unfold wrsB; rw [List.flatMap_cons, List.append_assoc]
        rw [e, ← h2, wrB_of hc.1 hc.2]
      · cases h
    · cases h
/-- The writes at the beginning of bytes. -/
def wsAt (r : List UInt8) : Option (List Wr × List UInt8) := if r.length < 2 then none else wrsGo (dec (r.take 2)) (r.drop 2)
theorem ws_back {ws : List Wr} (h : Writable ws) (more : List UInt8) : wsAt (writesB ws ++ more) = some (ws, more) := by
  unfold wsAt
  rw [if_neg (by unfold writesB; rw [List.length_append, List.length_append, enc_length]; omega)]
  unfold writesB
  rw [List.append_assoc, take_enc, drop_enc, dec_enc_of_lt (by have := h.1; omega), wrsGo_B h.2.2]
theorem ws_bytes {r : List UInt8} {ws : List Wr} {rest : List UInt8} (h : wsAt r = some (ws, rest)) : r = writesB ws ++ rest := by
  unfold wsAt at h
  split at h
  · cases h
  · rename_i hl
    obtain ⟨h1, h2⟩ := wrsGo_bytes _ h
    unfold writesB
    rw [h1, enc_take (by omega), List.append_assoc, ← h2, List.take_append_drop]
theorem writes_inj {a b : List Wr} {r s : List UInt8} (h1 : Writable a) (h2 : Writable b) (h : writesB a ++ r = writesB b ++ s) : a = b ∧ r = s := by
  have e1 := ws_back h1 r
  rw [h, ws_back h2 s] at e1
  simp only [Option.some.injEq, Prod.mk.injEq] at e1
  exact ⟨e1.1.symm, e1.2.symm⟩
end Go.Proofs.Ytkpoeigoocbgeaa
