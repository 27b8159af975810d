/- Pieces of a text, as plain functions on lists of bytes: what Cut and Feed answer, and facts on them. No program in sight. -/
import Derived.Test.YtdhmkcomngbmaaaList
namespace Go.Proofs.Ytdhmkcomngbmaaa
open Go.RowKit

/-- How many pieces a text of that size has. -/
def cntN (size n : Nat) : Nat := max 1 ((size + n - 1) / n)
def partN (l : List UInt8) (n i : Nat) : List UInt8 := (l.drop (i * n)).take n
def pieceN (l : List UInt8) (n of i : Nat) : List UInt8 := enc 2 i ++ enc 2 of ++ partN l n i
def partsN (l : List UInt8) (n k : Nat) : List (List UInt8) := (List.range k).map (partN l n)
def piecesK (l : List UInt8) (n of k : Nat) : List (List UInt8) := (List.range k).map (pieceN l n of)
def piecesN (l : List UInt8) (n : Nat) : List (List UInt8) := piecesK l n (cntN l.length n) (cntN l.length n)
def cutE (l : List UInt8) (n : Int) : Int := if n < 1 ∨ 508 < n then 1 else if 65535 < cntN l.length n.toNat then 5 else 0
def cutL (l : List UInt8) (n : Int) : List (List UInt8) := if cutE l n = 0 then piecesN l n.toNat else []

theorem cut_arg {l : List UInt8} {n : Int} (h : n < 1 ∨ 508 < n) : cutE l n = 1 ∧ cutL l n = [] := by
  have e : cutE l n = 1 := by unfold cutE; rw [if_pos h]
  exact ⟨e, by unfold cutL; rw [e]; rfl⟩
theorem cut_long {l : List UInt8} {n : Nat} (h1 : 1 ≤ n) (h2 : n ≤ 508) (h : 65535 < cntN l.length n) : cutE l (n : Int) = 5 ∧ cutL l (n : Int) = [] := by
  have e : cutE l (n : Int) = 5 := by unfold cutE; rw [if_neg (by omega), Int.toNat_natCast, if_pos h]
  exact ⟨e, by unfold cutL; rw [e]; rfl⟩
theorem cut_ok {l : List UInt8} {n : Nat} (h1 : 1 ≤ n) (h2 : n ≤ 508) (h : cntN l.length n ≤ 65535) : cutE l (n : Int) = 0 ∧ cutL l (n : Int) = piecesN l n := by
  have e : cutE l (n : Int) = 0 := by unfold cutE; rw [if_neg (by omega), Int.toNat_natCast, if_neg (by omega)]
  exact ⟨e, by unfold cutL; rw [e, if_pos rfl, Int.toNat_natCast]⟩

theorem cnt_pos (size n : Nat) : 1 ≤ cntN size n := by unfold cntN; omega
theorem cnt_le (size n : Nat) (hn : 1 ≤ n) : cntN size n ≤ size + 1 := by
  unfold cntN
  have : (size + n - 1) / n ≤ size + 1 := by
    apply Nat.le_of_lt_succ
    rw [Nat.div_lt_iff_lt_mul (by omega)]
    have : (size + 2) * 1 ≤ (size + 2) * n := Nat.mul_le_mul_left _ hn
    have e : (size + 1).succ * n = size * n + 2 * n := by rw [show (size + 1).succ = size + 2 from rfl, Nat.add_mul]
    have : size * 1 ≤ size * n := Nat.mul_le_mul_left _ hn
    omega
  omega
theorem cnt_one (size : Nat) (h : 1 ≤ size) : cntN size 1 = size := by unfold cntN; rw [Nat.add_sub_cancel, Nat.div_one]; omega
/-- A place below the number of pieces lies in the text. -/
theorem cnt_in {size n i : Nat} (hn : 1 ≤ n) (h : i < cntN size n) : i * n ≤ size ∧ (i = 0 ∨ i * n < size) := by
  by_cases h0 : i = 0
  · subst h0; simp
  · have h1 : i + 1 ≤ (size + n - 1) / n := by unfold cntN at h; omega
    rw [Nat.le_div_iff_mul_le (by omega), Nat.add_mul] at h1
    omega
theorem cnt_is {size n k : Nat} (hn : 1 ≤ n) (h1 : k = 0 ∨ k * n < size) (h2 : size ≤ (k + 1) * n) : cntN size n = k + 1 := by
  rw [Nat.add_mul] at h2
  unfold cntN
  by_cases h0 : k = 0
  · subst h0
    have : (size + n - 1) / n < 2 := by rw [Nat.div_lt_iff_lt_mul (by omega)]; omega
    omega
  · have : (size + n - 1) / n = k + 1 := by
      apply Nat.le_antisymm
      · apply Nat.le_of_lt_succ
        rw [Nat.div_lt_iff_lt_mul (by omega), show (k + 1).succ = k + 2 from rfl, Nat.add_mul]
        omega
      · rw [Nat.le_div_iff_mul_le (by omega), Nat.add_mul]
        omega
    omega
theorem cnt_all {size n : Nat} (hn : 1 ≤ n) : size ≤ cntN size n * n := by
  have h : (size + n - 1) / n ≤ cntN size n := by unfold cntN; omega
  have h2 := Nat.lt_div_mul_add (a := size + n - 1) (b := n) (by omega)
  have h3 := Nat.mul_le_mul_right n h
  omega

theorem partsN_len (l : List UInt8) (n k : Nat) : (partsN l n k).length = k := by simp [partsN]
theorem piecesK_len (l : List UInt8) (n of k : Nat) : (piecesK l n of k).length = k := by simp [piecesK]
theorem partsN_snoc (l : List UInt8) (n k : Nat) : partsN l n (k + 1) = partsN l n k ++ [partN l n k] := by simp [partsN, List.range_succ]
theorem piecesK_snoc (l : List UInt8) (n of k : Nat) : piecesK l n of (k + 1) = piecesK l n of k ++ [pieceN l n of k] := by simp [piecesK, List.range_succ]
theorem partsN_at (l : List UInt8) (n k i : Nat) (h : i < (partsN l n k).length) : (partsN l n k)[i] = partN l n i := by simp [partsN]
theorem piecesK_at (l : List UInt8) (n of k i : Nat) (h : i < (piecesK l n of k).length) : (piecesK l n of k)[i] = pieceN l n of i := by simp [piecesK]
theorem partN_le (l : List UInt8) (n i : Nat) : (partN l n i).length ≤ n := by unfold partN; rw [List.length_take]; omega
theorem partN_size (l : List UInt8) (n i : Nat) : (partN l n i).length = min n (l.length - i * n) := by unfold partN; rw [List.length_take, List.length_drop]
/-- All but the last part are whole. -/
theorem partN_full {l : List UInt8} {n i : Nat} (hn : 1 ≤ n) (h : i + 1 < cntN l.length n) : (partN l n i).length = n := by
  have := (cnt_in hn h).2
  rw [partN_size]
  rw [Nat.add_mul] at this
  omega
theorem pieceN_len (l : List UInt8) (n of i : Nat) : (pieceN l n of i).length = 4 + (partN l n i).length := by
  unfold pieceN; rw [List.length_append, List.length_append, enc_length, enc_length]
theorem parts_flat (l : List UInt8) (n k : Nat) : (partsN l n k).flatten = l.take (k * n) := by
  induction k with
  | zero => simp [partsN]
  | succ k ih =>
    rw [partsN_snoc, List.flatten_append, ih, partN]
    simp only [List.flatten_cons, List.flatten_nil, List.append_nil]
    rw [Nat.add_mul, Nat.one_mul, List.take_add]
theorem parts_all {l : List UInt8} {n : Nat} (hn : 1 ≤ n) : (partsN l n (cntN l.length n)).flatten = l := by
  rw [parts_flat]; exact List.take_of_length_le (cnt_all hn)
theorem parts_total (l : List UInt8) (n k : Nat) : total (partsN l n k) ≤ k * n := by
  induction k with
  | zero => simp [partsN, total]
  | succ k ih => rw [partsN_snoc, total_snoc, Nat.add_mul]; have := partN_le l n k; omega

/-! ### A piece that is taken in -/
def fIdx (p : List UInt8) : Nat := dec (p.take 2)
def fCnt (p : List UInt8) : Nat := dec ((p.drop 2).take 2)
def fPart (p : List UInt8) : List UInt8 := p.drop 4
def opE (p : List UInt8) : Int := if p.length < 4 then 2 else if fCnt p ≤ fIdx p then 3 else 0
def opI (p : List UInt8) : Int := if opE p = 0 then (fIdx p : Int) else 0
def opN (p : List UInt8) : Int := if opE p = 0 then (fCnt p : Int) else 0
def opP (p : List UInt8) : List UInt8 := if opE p = 0 then fPart p else []
def fdE (of : Int) (hv : List (List UInt8)) (p : List UInt8) : Int := if opE p ≠ 0 then opE p else if fIdx p ≠ 0 ∧ (fIdx p ≠ hv.length ∨ (fCnt p : Int) ≠ of) then 8 else 0
def fdNew (hv : List (List UInt8)) (p : List UInt8) : List (List UInt8) := (if fIdx p = 0 then [] else hv) ++ [fPart p]
/-- What Feed answers: the state's number and parts, the text, whether it is whole, the error. -/
structure Fed where
  of : Int
  hv : List (List UInt8)
  tx : List UInt8
  ok : Bool
  er : Int
def fedE (e : Int) : Fed := ⟨0, [], [], false, e⟩
def fed (of : Int) (hv : List (List UInt8)) (p : List UInt8) : Fed :=
  if fdE of hv p ≠ 0 then fedE (fdE of hv p)
  else if (fdNew hv p).length < fCnt p then ⟨(fCnt p : Int), fdNew hv p, [], false, 0⟩ else ⟨0, [], (fdNew hv p).flatten, true, 0⟩

theorem opE_short {p : List UInt8} (h : p.length < 4) : opE p = 2 := by unfold opE; rw [if_pos h]
theorem opE_form {p : List UInt8} (h1 : 4 ≤ p.length) (h : fCnt p ≤ fIdx p) : opE p = 3 := by unfold opE; rw [if_neg (by omega), if_pos h]
theorem opE_ok {p : List UInt8} (h1 : 4 ≤ p.length) (h : fIdx p < fCnt p) : opE p = 0 := by unfold opE; rw [if_neg (by omega), if_neg (by omega)]
theorem fIdx_lt (p : List UInt8) : fIdx p < 65536 := dec_take_two p
theorem fCnt_lt (p : List UInt8) : fCnt p < 65536 := dec_take_two _
theorem op_no {p : List UInt8} (h : opE p ≠ 0) : opI p = 0 ∧ opN p = 0 ∧ opP p = [] := by unfold opI opN opP; rw [if_neg h, if_neg h, if_neg h]; exact ⟨rfl, rfl, rfl⟩
theorem op_yes {p : List UInt8} (h : opE p = 0) : opI p = fIdx p ∧ opN p = fCnt p ∧ opP p = fPart p := by unfold opI opN opP; rw [if_pos h, if_pos h, if_pos h]; exact ⟨rfl, rfl, rfl⟩
theorem opE_yes {p : List UInt8} (h : opE p = 0) : 4 ≤ p.length ∧ fIdx p < fCnt p := by
  unfold opE at h
  split at h
  · omega
  · split at h
    · omega
    · omega

theorem fed_op {of : Int} {hv : List (List UInt8)} {p : List UInt8} (h : opE p ≠ 0) : fed of hv p = fedE (opE p) := by
  have e : fdE of hv p = opE p := by unfold fdE; rw [if_pos h]
  unfold fed; rw [e, if_pos h]
theorem fed_none {of : Int} {hv : List (List UInt8)} {p : List UInt8} (h : opE p = 0) (h0 : fIdx p ≠ 0) (h1 : fIdx p ≠ hv.length ∨ (fCnt p : Int) ≠ of) : fed of hv p = fedE 8 := by
  have e : fdE of hv p = 8 := by unfold fdE; rw [if_neg (by omega), if_pos ⟨h0, h1⟩]
  unfold fed; rw [e, if_pos (by omega)]
theorem fdE_first {of : Int} {hv : List (List UInt8)} {p : List UInt8} (h : opE p = 0) (h0 : fIdx p = 0) : fdE of hv p = 0 := by
  unfold fdE; rw [if_neg (by omega), if_neg (by omega)]
theorem fdE_next {of : Int} {hv : List (List UInt8)} {p : List UInt8} (h : opE p = 0) (h0 : fIdx p = hv.length) (h1 : (fCnt p : Int) = of) : fdE of hv p = 0 := by
  unfold fdE; rw [if_neg (by omega), if_neg (by omega)]
theorem fed_more {of : Int} {hv : List (List UInt8)} {p : List UInt8} (h : fdE of hv p = 0) (hl : (fdNew hv p).length < fCnt p) : fed of hv p = ⟨(fCnt p : Int), fdNew hv p, [], false, 0⟩ := by
  unfold fed; rw [if_neg (by omega), if_pos hl]
theorem fed_whole {of : Int} {hv : List (List UInt8)} {p : List UInt8} (h : fdE of hv p = 0) (hl : ¬ (fdNew hv p).length < fCnt p) : fed of hv p = ⟨0, [], (fdNew hv p).flatten, true, 0⟩ := by
  unfold fed; rw [if_neg (by omega), if_neg hl]
theorem new_first {hv : List (List UInt8)} {p : List UInt8} (h0 : fIdx p = 0) : fdNew hv p = [fPart p] := by unfold fdNew; rw [if_pos h0]; rfl
theorem new_next {hv : List (List UInt8)} {p : List UInt8} (h0 : fIdx p ≠ 0) : fdNew hv p = hv ++ [fPart p] := by unfold fdNew; rw [if_neg h0]
/-- A state never has more parts, or more bytes, than it had, and the piece's. -/
theorem fed_len (of : Int) (hv : List (List UInt8)) (p : List UInt8) : (fed of hv p).hv.length ≤ hv.length + 1 ∧ total (fed of hv p).hv ≤ total hv + p.length := by
  have h1 : (fdNew hv p).length ≤ hv.length + 1 := by unfold fdNew; split <;> simp
  have h2 : total (fdNew hv p) ≤ total hv + p.length := by
    have : (fPart p).length ≤ p.length := by unfold fPart; rw [List.length_drop]; omega
    unfold fdNew; rw [total_snoc]
    split
    · simp [total]; omega
    · omega
  unfold fed
  split
  · simp [fedE, total]
  · split
    · exact ⟨h1, h2⟩
    · simp [total]

/-! ### The pieces of a text, taken in -/
theorem take2_enc (a b r : List UInt8) (ha : a.length = 2) : (a ++ b ++ r).take 2 = a := by rw [List.append_assoc, List.take_append_of_le_length (by omega), List.take_of_length_le (by omega)]
theorem drop2_enc (a b r : List UInt8) (ha : a.length = 2) (hb : b.length = 2) : ((a ++ b ++ r).drop 2).take 2 = b := by
  rw [List.append_assoc, List.drop_left' ha, List.take_left' hb]
theorem drop4_enc (a b r : List UInt8) (ha : a.length = 2) (hb : b.length = 2) : (a ++ b ++ r).drop 4 = r := by
  exact List.drop_left' (by rw [List.length_append, ha, hb])
theorem piece_parts (l : List UInt8) {n of i : Nat} (hi : i < 65536) (ho : of < 65536) : fIdx (pieceN l n of i) = i ∧ fCnt (pieceN l n of i) = of ∧ fPart (pieceN l n of i) = partN l n i := by
  unfold fIdx fCnt fPart pieceN
  refine ⟨?_, ?_, ?_⟩
  · rw [take2_enc _ _ _ (enc_length _ _)]; exact dec_enc_of_lt (by omega)
  · rw [drop2_enc _ _ _ (enc_length _ _) (enc_length _ _)]; exact dec_enc_of_lt (by omega)
  · exact drop4_enc _ _ _ (enc_length _ _) (enc_length _ _)
theorem piece_op (l : List UInt8) {n of i : Nat} (hi : i < of) (ho : of < 65536) : opE (pieceN l n of i) = 0 := by
  obtain ⟨h1, h2, _⟩ := piece_parts l (n := n) (of := of) (i := i) (by omega) ho
  exact opE_ok (by rw [pieceN_len]; omega) (by rw [h1, h2]; exact hi)

/-- The state when i pieces of a text have come: any, if none has. -/
def Came (l : List UInt8) (n of i : Nat) (o : Int) (hv : List (List UInt8)) : Prop := i = 0 ∨ (o = of ∧ hv = partsN l n i)
/-- A piece more. -/
theorem came_more {l : List UInt8} {n of i : Nat} {o : Int} {hv : List (List UInt8)} (h : Came l n of i o hv) (hi : i + 1 < of) (ho : of < 65536) : fed o hv (pieceN l n of i) = ⟨(of : Int), partsN l n (i + 1), [], false, 0⟩ := by
  obtain ⟨h1, h2, h3⟩ := piece_parts l (n := n) (of := of) (i := i) (by omega) ho
  have he := piece_op l (n := n) (of := of) (i := i) (by omega) ho
  have hn : fdNew hv (pieceN l n of i) = partsN l n (i + 1) := by
    by_cases h0 : i = 0
    · subst h0; rw [new_first h1, h3, partsN_snoc]; rfl
    · rcases h with h | ⟨_, h⟩
      · exact absurd h h0
      · rw [new_next (by omega), h3, h, partsN_snoc]
  have hz : fdE o hv (pieceN l n of i) = 0 := by
    by_cases h0 : i = 0
    · exact fdE_first he (by omega)
    · rcases h with h | ⟨ha, h⟩
      · exact absurd h h0
      · exact fdE_next he (by rw [h1, h, partsN_len]) (by rw [h2, ha])
  rw [fed_more hz (by rw [hn, h2, partsN_len]; omega), h2, hn]
/-- The last one. -/
theorem came_last {l : List UInt8} {n of i : Nat} {o : Int} {hv : List (List UInt8)} (h : Came l n of i o hv) (hi : i + 1 = of) (ho : of < 65536) : fed o hv (pieceN l n of i) = ⟨0, [], (partsN l n of).flatten, true, 0⟩ := by
  obtain ⟨h1, h2, h3⟩ := piece_parts l (n := n) (of := of) (i := i) (by omega) ho
  have he := piece_op l (n := n) (of := of) (i := i) (by omega) ho
  have hn : fdNew hv (pieceN l n of i) = partsN l n (i + 1) := by
    by_cases h0 : i = 0
    · subst h0; rw [new_first h1, h3, partsN_snoc]; rfl
    · rcases h with h | ⟨_, h⟩
      · exact absurd h h0
      · rw [new_next (by omega), h3, h, partsN_snoc]
  have hz : fdE o hv (pieceN l n of i) = 0 := by
    by_cases h0 : i = 0
    · exact fdE_first he (by omega)
    · rcases h with h | ⟨ha, h⟩
      · exact absurd h h0
      · exact fdE_next he (by rw [h1, h, partsN_len]) (by rw [h2, ha])
  rw [fed_whole hz (by rw [hn, h2, partsN_len]; omega), hn, hi]
/-- Where one lacks: with at most so many parts as pieces came, and at most as many as stand ahead of the one that lacks, nothing is whole, and so it stays. -/
theorem lack_step {l : List UInt8} {n of i lack : Nat} {o : Int} {hv : List (List UInt8)} (h1 : hv.length ≤ i) (h2 : hv.length ≤ lack) (hl : lack < of) (hi : i < of) (hne : i ≠ lack) (ho : of < 65536) :
    (fed o hv (pieceN l n of i)).ok = false ∧ (fed o hv (pieceN l n of i)).hv.length ≤ i + 1 ∧ (fed o hv (pieceN l n of i)).hv.length ≤ lack := by
  obtain ⟨p1, p2, p3⟩ := piece_parts l (n := n) (of := of) (i := i) (by omega) ho
  have he := piece_op l (n := n) (of := of) (i := i) (by omega) ho
  by_cases hlt : i < lack
  · have hlen : (fdNew hv (pieceN l n of i)).length ≤ i + 1 := by unfold fdNew; split <;> simp <;> omega
    unfold fed
    split
    · simp [fedE]
    · rw [if_pos (by rw [p2]; omega)]
      exact ⟨rfl, hlen, by show (fdNew hv (pieceN l n of i)).length ≤ lack; omega⟩
  · rw [fed_none he (by omega) (.inl (by rw [p1]; omega))]
    simp [fedE]
end Go.Proofs.Ytdhmkcomngbmaaa
