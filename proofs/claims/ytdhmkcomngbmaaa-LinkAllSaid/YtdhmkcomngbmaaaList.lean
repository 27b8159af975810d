/- What octet.Items and octet.List answer, as plain functions on lists of bytes; facts on them; slices of strings in memory. No function of the program in sight. -/
import Derived.Test.YtdhmkcomngbmaaaBack
import Derived.Lib.Hide
namespace Go.Proofs.Ytdhmkcomngbmaaa
open Go.RowKit

/-- n texts off the beginning of r, one behind the other. -/
def itemsGo : Nat → List UInt8 → Option (List (List UInt8) × List UInt8)
  | 0, r => some ([], r)
  | n + 1, r => if takeE r = 0 then (itemsGo n (takeR r)).map (fun p => (takeA r :: p.1, p.2)) else none

def itemsOf (l : List UInt8) : Option (List (List UInt8) × List UInt8) := if l.length < 2 then none else itemsGo (dec (l.take 2)) (l.drop 2)

def itE (l : List UInt8) : Int := match itemsOf l with | some _ => 0 | none => 2
def itL (l : List UInt8) : List (List UInt8) := match itemsOf l with | some p => p.1 | none => []
def itR (l : List UInt8) : List UInt8 := match itemsOf l with | some p => p.2 | none => []

theorem it_none {l : List UInt8} (h : itemsOf l = none) : itE l = 2 ∧ itL l = [] ∧ itR l = [] := by
  unfold itE itL itR; rw [h]; exact ⟨rfl, rfl, rfl⟩
theorem it_some {l : List UInt8} {xs : List (List UInt8)} {r : List UInt8} (h : itemsOf l = some (xs, r)) : itE l = 0 ∧ itL l = xs ∧ itR l = r := by
  unfold itE itL itR; rw [h]; exact ⟨rfl, rfl, rfl⟩
theorem items_short {l : List UInt8} (h : l.length < 2) : itemsOf l = none := by unfold itemsOf; rw [if_pos h]
theorem items_long {l : List UInt8} (h : 2 ≤ l.length) : itemsOf l = itemsGo (dec (l.take 2)) (l.drop 2) := by unfold itemsOf; rw [if_neg (by omega)]

theorem takeE_two {r : List UInt8} (h : takeE r ≠ 0) : takeE r = 2 := by
  unfold takeE at h ⊢
  split
  · rfl
  · rename_i hn; rw [if_neg hn] at h; exact absurd rfl h
theorem takeR_le (r : List UInt8) : (takeR r).length ≤ r.length := by
  unfold takeR
  split
  · simp only [List.length_drop]; omega
  · simp
theorem takeA_le (r : List UInt8) : (takeA r).length ≤ r.length := by
  unfold takeA
  split
  · simp only [List.length_take, List.length_drop]; omega
  · simp

/-- What the loops keep: the answer is what is left to do, behind what has been done. -/
def Going (whole : Option (List (List UInt8) × List UInt8)) (n : Nat) (xs : List (List UInt8)) (r : List UInt8) : Prop :=
  whole = (itemsGo n r).map (fun p => (xs ++ p.1, p.2))

theorem going_start (n : Nat) (r : List UInt8) : Going (itemsGo n r) n [] r := by
  unfold Going
  cases itemsGo n r <;> simp
theorem going_step {whole : Option (List (List UInt8) × List UInt8)} {n : Nat} {xs : List (List UInt8)} {r : List UInt8} (h : Going whole (n + 1) xs r) (ht : takeE r = 0) : Going whole n (xs ++ [takeA r]) (takeR r) := by
  unfold Going at h ⊢
  rw [h, itemsGo, if_pos ht]
  cases itemsGo n (takeR r) <;> simp
theorem going_lack {whole : Option (List (List UInt8) × List UInt8)} {n : Nat} {xs : List (List UInt8)} {r : List UInt8} (h : Going whole (n + 1) xs r) (ht : takeE r ≠ 0) : whole = none := by
  unfold Going at h
  rw [h, itemsGo, if_neg ht]
  rfl
theorem going_end {whole : Option (List (List UInt8) × List UInt8)} {xs : List (List UInt8)} {r : List UInt8} (h : Going whole 0 xs r) : whole = some (xs, r) := by
  unfold Going at h
  rw [h, itemsGo]
  simp

/-! ### Lists that are written -/

def catTexts : List (List UInt8) → List UInt8
  | [] => []
  | x :: xs => (enc 2 x.length ++ x) ++ catTexts xs

def fits (xs : List (List UInt8)) : Bool := xs.all (fun x => decide (x.length ≤ 65535))
def listE (xs : List (List UInt8)) : Int := if fits xs = true then 0 else 5
def listB (xs : List (List UInt8)) : List UInt8 := if fits xs = true then enc 2 xs.length ++ catTexts xs else []

theorem catTexts_snoc (xs : List (List UInt8)) (x : List UInt8) : catTexts (xs ++ [x]) = catTexts xs ++ (enc 2 x.length ++ x) := by
  induction xs with
  | nil => simp [catTexts]
  | cons y ys ih => simp [catTexts, ih]

def total (xs : List (List UInt8)) : Nat := (xs.map List.length).sum
theorem total_snoc (xs : List (List UInt8)) (x : List UInt8) : total (xs ++ [x]) = total xs + x.length := by simp [total]
theorem total_take_le (xs : List (List UInt8)) (k : Nat) : total (xs.take k) ≤ total xs := by
  have h : total xs = total (xs.take k) + total (xs.drop k) := by
    unfold total
    rw [← List.sum_append, ← List.map_append, List.take_append_drop]
  omega
theorem length_le_total {xs : List (List UInt8)} {x : List UInt8} (h : x ∈ xs) : x.length ≤ total xs := by
  induction xs with
  | nil => simp at h
  | cons y ys ih =>
    have e : total (y :: ys) = y.length + total ys := by simp [total]
    rcases List.mem_cons.1 h with rfl | h
    · omega
    · have := ih h; omega
theorem catTexts_length (xs : List (List UInt8)) : (catTexts xs).length = 2 * xs.length + total xs := by
  induction xs with
  | nil => simp [catTexts, total]
  | cons y ys ih =>
    have e : total (y :: ys) = y.length + total ys := by simp [total]
    simp only [catTexts, List.length_append, enc_length, ih, List.length_cons, e]
    omega
theorem fits_take {xs : List (List UInt8)} {k : Nat} (h : k < xs.length) : fits (xs.take (k + 1)) = (fits (xs.take k) && decide (xs[k].length ≤ 65535)) := by
  unfold fits
  rw [List.take_succ_eq_append_getElem h, List.all_append]
  simp only [List.all_cons, List.all_nil, Bool.and_true]

theorem fits_not {xs : List (List UInt8)} {k : Nat} (h : k < xs.length) (hx : 65535 < xs[k].length) : fits xs = false := by
  rw [Bool.eq_false_iff]
  intro hf
  have := List.all_eq_true.1 hf xs[k] (List.getElem_mem h)
  simp at this
  omega
theorem list_long {xs : List (List UInt8)} (h : fits xs = false) : listE xs = 5 ∧ listB xs = [] := by unfold listE listB; rw [h]; simp
theorem list_ok {xs : List (List UInt8)} (h : fits xs = true) : listE xs = 0 ∧ listB xs = enc 2 xs.length ++ catTexts xs := by unfold listE listB; rw [h]; simp
theorem total_take {xs : List (List UInt8)} {k : Nat} (h : k < xs.length) : total (xs.take (k + 1)) = total (xs.take k) + xs[k].length := by
  rw [List.take_succ_eq_append_getElem h, total_snoc]
def small (xs : List (List UInt8)) (many bytes : Nat) : Bool := decide (xs.length ≤ many ∧ total xs ≤ bytes)

/-- A list that is written is taken back, whatever stands behind it. -/
theorem itemsGo_cat (xs : List (List UInt8)) (more : List UInt8) (h : fits xs = true) : itemsGo xs.length (catTexts xs ++ more) = some (xs, more) := by
  induction xs with
  | nil => simp [itemsGo, catTexts]
  | cons y ys ih =>
    have hy : y.length ≤ 65535 := by simp [fits] at h; exact h.1
    have hys : fits ys = true := by simp [fits] at h ⊢; exact h.2
    have e : catTexts (y :: ys) ++ more = (enc 2 y.length ++ y) ++ (catTexts ys ++ more) := by simp [catTexts]
    rw [List.length_cons, itemsGo, e, if_pos (takeE_text y _ hy), takeA_text y _ hy, takeR_text y _ hy, ih hys]
    rfl
theorem items_list (xs : List (List UInt8)) (more : List UInt8) (h : fits xs = true) (hn : xs.length ≤ 65535) : itemsOf ((enc 2 xs.length ++ catTexts xs) ++ more) = some (xs, more) := by
  have hd : dec (enc 2 xs.length) = xs.length := dec_enc_of_lt (by omega)
  rw [items_long (by simp [enc_length]), List.append_assoc, take_enc, drop_enc, hd, itemsGo_cat xs more h]

/-! ### Slices of strings in memory -/

/-- A text as a value. -/
def txt (x : List UInt8) : Value := .string (str x)

/-- The texts xs lie where the slice's address says, below block B. -/
def Strs (w : World) (B : Nat) (A : Option Addr) (xs : List (List UInt8)) : Prop :=
  xs = [] ∨ ∃ b off, A = some ⟨b, off, none⟩ ∧ b < B ∧ ∀ i, (h : i < xs.length) → w.cell? ⟨b, off + i, none⟩ = some (txt xs[i])

theorem Strs.at_ {w : World} {B : Nat} {A : Option Addr} {xs : List (List UInt8)} (h : Strs w B A xs) {k : Nat} (hk : k < xs.length) :
    ∃ b off, A = some ⟨b, off, none⟩ ∧ b < B ∧ w.cell? ⟨b, off + k, none⟩ = some (txt xs[k]) := by
  rcases h with rfl | ⟨b, off, hA, hb, hc⟩
  · simp at hk
  · exact ⟨b, off, hA, hb, hc k hk⟩
theorem Strs.below {w w' : World} {B : Nat} {A : Option Addr} {xs : List (List UInt8)} (h : Strs w B A xs) (hb : Below B w w') : Strs w' B A xs := by
  rcases h with h | ⟨b, off, hA, hlt, hc⟩
  · exact .inl h
  · exact .inr ⟨b, off, hA, hlt, fun i hi => (hb.cell (p := ⟨b, off + i, none⟩) hlt).trans (hc i hi)⟩
theorem Strs.more {w : World} {B B' : Nat} {A : Option Addr} {xs : List (List UInt8)} (h : Strs w B A xs) (hB : B ≤ B') : Strs w B' A xs := by
  rcases h with h | ⟨b, off, hA, hlt, hc⟩
  · exact .inl h
  · exact .inr ⟨b, off, hA, by omega, hc⟩
theorem Strs.next {w w' : World} {A : Option Addr} {xs : List (List UInt8)} (h : Strs w w.heap.size A xs) (hb : Below w.heap.size w w') : Strs w' w'.heap.size A xs := (h.below hb).more hb.size

/-- A slice of the call's own, as such. -/
theorem own_strs {w : World} {base : Nat} {e : TypeId} {v : Value} {n : Nat} {xs : List (List UInt8)} (h : w.ownsRow base e 1 v n (xs.map txt)) :
    ∃ A c, v = .slice A n c ∧ xs.length = n ∧ Strs w w.heap.size A xs := by
  have hl : xs.length = n := by have := h.1; simp at this; exact this
  rcases h.2 with ⟨rfl, rfl⟩ | ⟨g, cap, cur, rfl, hb, hg, hn, hm, hs, ht⟩
  · exact ⟨none, 0, rfl, hl, .inl (List.eq_nil_of_length_eq_zero hl)⟩
  · refine ⟨some ⟨g, 0, none⟩, cap, rfl, hl, .inr ⟨g, 0, rfl, ?_, fun i hi => ?_⟩⟩
    · exact (h.lt g rfl).2
    · have := h.cellAt i (by omega)
      rw [Nat.zero_add, this]
      simp [hi]

/-- What the statement's frame tells of a slice of strings that came in. -/
def IsStrs (w : World) (a : Option Addr) (len cap : Nat) (ss : List ByteArray) : Prop :=
  (a = none ∧ len = 0 ∧ cap = 0 ∧ ss = []) ∨
  ∃ x, a = some x ∧ len ≤ cap ∧ cap ≤ maxLen ∧ ss.length = cap ∧ (0 < cap → x.block < w.heap.size) ∧ (∀ i, i < ss.length → w.cell? (x.add i) = some (.string (ss.getD i ByteArray.empty))) ∧ ∀ s ∈ ss, s.size ≤ maxLen

theorem strs_block {x : Addr} {n B : Nat} {p : List MemPlace} (lt : ∀ y ∈ p, y.block < B) (hx : p = MemPlace.row x n) (hn : 0 < n) : x.block < B := by
  subst hx
  exact lt (.cell x.block x.off) (MemPlace.mem_row.2 ⟨0, hn, by simp⟩)

theorem IsStrs.open_ {w : World} {a : Option Addr} {len cap : Nat} {ss : List ByteArray} (h : IsStrs w a len cap ss) :
    ∃ xs : List (List UInt8), xs.length = len ∧ len ≤ maxLen ∧ Strs w w.heap.size a xs ∧ ∀ x ∈ xs, x.length ≤ maxLen := by
  rcases h with ⟨rfl, rfl, rfl, rfl⟩ | ⟨x, rfl, hl, hm, hs, hb, hc, hz⟩
  · exact ⟨[], rfl, by simp, .inl rfl, by simp⟩
  · refine ⟨(ss.take len).map (·.data.toList), by simp; omega, by omega, ?_, ?_⟩
    · by_cases h0 : len = 0
      · subst h0; exact .inl (by simp)
      · obtain ⟨b, off, spot⟩ := x
        have hspot : spot = none := by simpa [Addr.add] using World.cell?_spot (hc 0 (by omega))
        subst hspot
        refine .inr ⟨b, off, rfl, hb (by omega), fun i hi => ?_⟩
        have hi' : i < ss.length := by simp at hi; omega
        have := hc i hi'
        rw [WideShapes.add_plain] at this
        rw [this]
        simp [txt, str_of, List.getD, List.getElem?_eq_getElem hi']
    · intro x hx
      obtain ⟨s, hs', rfl⟩ := List.mem_map.1 hx
      rw [list_length]
      exact hz s (List.mem_of_mem_take hs')

end Go.Proofs.Ytdhmkcomngbmaaa
