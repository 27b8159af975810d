/- What the functions of the package frame answer, as plain functions on lists of bytes; what is sealed is opened again, a turned byte and a lack of bytes are seen. No function of the program in sight. -/
import Derived.Test.YtdhmkcomngbmaaaSumEndsP
namespace Go.Proofs.Ytdhmkcomngbmaaa
open Go.RowKit

/-- The frame without its sum. -/
def frameHead (k : Nat) (l : List UInt8) : List UInt8 := enc 1 k ++ (enc 2 l.length ++ l)
def frameOf (k : Nat) (l : List UInt8) : List UInt8 := frameHead k l ++ enc 4 (crcSum 0 (frameHead k l))
def sealE (kind : Int) (l : List UInt8) : Int := if kind < 0 ∨ 255 < kind then 1 else if 4096 < l.length then 5 else 0
def sealB (kind : Int) (l : List UInt8) : List UInt8 := if sealE kind l = 0 then frameOf kind.toNat l else []
/-- The length that a frame tells. -/
def frameLen (l : List UInt8) : Nat := dec ((l.drop 1).take 2)
def checkE (l : List UInt8) (n : Int) : Int := if 4096 < n then 3 else if (l.length : Int) < 7 + n then 2 else if 7 + n < (l.length : Int) then 3 else if sumRight l then 0 else 4
def openE (l : List UInt8) : Int := if l.length < 7 then 2 else checkE l (frameLen l)
def openK (l : List UInt8) : Int := if openE l = 0 then (dec (l.take 1) : Int) else 0
def openB (l : List UInt8) : List UInt8 := if openE l = 0 then (l.drop 3).take (frameLen l) else []

theorem sealE_kind {kind : Int} {l : List UInt8} (h : kind < 0 ∨ 255 < kind) : sealE kind l = 1 := by unfold sealE; rw [if_pos h]
theorem sealE_long {kind : Int} {l : List UInt8} (h : ¬ (kind < 0 ∨ 255 < kind)) (hl : 4096 < l.length) : sealE kind l = 5 := by unfold sealE; rw [if_neg h, if_pos hl]
theorem sealE_ok {kind : Int} {l : List UInt8} (h : ¬ (kind < 0 ∨ 255 < kind)) (hl : ¬ 4096 < l.length) : sealE kind l = 0 := by unfold sealE; rw [if_neg h, if_neg hl]
theorem sealB_no {kind : Int} {l : List UInt8} (h : sealE kind l ≠ 0) : sealB kind l = [] := by unfold sealB; rw [if_neg h]
theorem sealB_ok {k : Nat} {l : List UInt8} (h : sealE k l = 0) : sealB k l = frameOf k l := by unfold sealB; rw [if_pos h, Int.toNat_natCast]
theorem sealE_zero {kind : Int} {l : List UInt8} (h : sealE kind l = 0) : 0 ≤ kind ∧ kind ≤ 255 ∧ l.length ≤ 4096 := by
  unfold sealE at h
  split at h
  · omega
  · split at h <;> omega

theorem checkE_big {l : List UInt8} {n : Int} (h : 4096 < n) : checkE l n = 3 := by unfold checkE; rw [if_pos h]
theorem checkE_short {l : List UInt8} {n : Int} (h : ¬ 4096 < n) (h1 : (l.length : Int) < 7 + n) : checkE l n = 2 := by unfold checkE; rw [if_neg h, if_pos h1]
theorem checkE_more {l : List UInt8} {n : Int} (h : ¬ 4096 < n) (h1 : 7 + n < (l.length : Int)) : checkE l n = 3 := by unfold checkE; rw [if_neg h, if_neg (by omega), if_pos h1]
theorem checkE_sum {l : List UInt8} {n : Int} (h : ¬ 4096 < n) (h1 : (l.length : Int) = 7 + n) : checkE l n = if sumRight l then 0 else 4 := by unfold checkE; rw [if_neg h, if_neg (by omega), if_neg (by omega)]

theorem openE_short {l : List UInt8} (h : l.length < 7) : openE l = 2 := by unfold openE; rw [if_pos h]
theorem openE_long {l : List UInt8} (h : ¬ l.length < 7) : openE l = checkE l (frameLen l) := by unfold openE; rw [if_neg h]
theorem openK_no {l : List UInt8} (h : openE l ≠ 0) : openK l = 0 := by unfold openK; rw [if_neg h]
theorem openB_no {l : List UInt8} (h : openE l ≠ 0) : openB l = [] := by unfold openB; rw [if_neg h]
theorem openK_ok {l : List UInt8} (h : openE l = 0) : openK l = (dec (l.take 1) : Int) := by unfold openK; rw [if_pos h]
theorem openB_ok {l : List UInt8} (h : openE l = 0) : openB l = (l.drop 3).take (frameLen l) := by unfold openB; rw [if_pos h]
theorem checkE_zero {l : List UInt8} {n : Int} (h : checkE l n = 0) : n ≤ 4096 ∧ (l.length : Int) = 7 + n ∧ sumRight l = true := by
  unfold checkE at h
  split at h
  · omega
  · split at h
    · omega
    · split at h
      · omega
      · split at h
        · refine ⟨by omega, by omega, by assumption⟩
        · omega
theorem openE_zero {l : List UInt8} (h : openE l = 0) : 7 ≤ l.length ∧ frameLen l ≤ 4096 ∧ l.length = 7 + frameLen l ∧ sumRight l = true := by
  unfold openE at h
  split at h
  · omega
  · have := checkE_zero h
    refine ⟨by omega, by omega, by omega, this.2.2⟩

/-! ### What is sealed is opened again -/

theorem frameHead_length (k : Nat) (l : List UInt8) : (frameHead k l).length = l.length + 3 := by
  unfold frameHead
  rw [List.length_append, List.length_append, enc_length, enc_length]
  omega
theorem frameOf_length (k : Nat) (l : List UInt8) : (frameOf k l).length = l.length + 7 := by
  unfold frameOf
  rw [List.length_append, frameHead_length, enc_length]
theorem frameOf_right (k : Nat) (l : List UInt8) : sumRight (frameOf k l) = true := sum_behind _

theorem take_enc (w n : Nat) (l : List UInt8) : (enc w n ++ l).take w = enc w n := by
  have h := List.take_left (l₁ := enc w n) (l₂ := l)
  rwa [enc_length] at h
theorem drop_enc (w n : Nat) (l : List UInt8) : (enc w n ++ l).drop w = l := by
  have h := List.drop_left (l₁ := enc w n) (l₂ := l)
  rwa [enc_length] at h

theorem frameOf_parts (k : Nat) (l : List UInt8) : frameOf k l = enc 1 k ++ (enc 2 l.length ++ (l ++ enc 4 (crcSum 0 (frameHead k l)))) := by
  unfold frameOf
  conv => lhs; unfold frameHead
  rw [List.append_assoc, List.append_assoc]
  rfl
theorem frameOf_kind {k : Nat} (h : k < 256) (l : List UInt8) : dec ((frameOf k l).take 1) = k := by
  rw [frameOf_parts, take_enc, dec_enc_of_lt (by simpa using h)]
theorem frameOf_len {l : List UInt8} (k : Nat) (h : l.length ≤ 4096) : frameLen (frameOf k l) = l.length := by
  unfold frameLen
  rw [frameOf_parts, drop_enc, take_enc, dec_enc_of_lt (by omega)]
theorem frameOf_body {l : List UInt8} (k : Nat) : ((frameOf k l).drop 3).take l.length = l := by
  rw [frameOf_parts, show (3 : Nat) = 1 + 2 from rfl, ← List.drop_drop, drop_enc, drop_enc, List.take_left]

theorem open_frame {k : Nat} {l : List UInt8} (hl : l.length ≤ 4096) : openE (frameOf k l) = 0 := by
  rw [openE_long (by rw [frameOf_length]; omega), frameOf_len k hl, checkE_sum (by omega) (by rw [frameOf_length]; omega), frameOf_right, if_pos rfl]
theorem open_frame_kind {k : Nat} {l : List UInt8} (hk : k < 256) (hl : l.length ≤ 4096) : openK (frameOf k l) = k := by
  rw [openK_ok (open_frame hl), frameOf_kind hk]
theorem open_frame_body {k : Nat} {l : List UInt8} (hl : l.length ≤ 4096) : openB (frameOf k l) = l := by
  rw [openB_ok (open_frame hl), frameOf_len k hl, frameOf_body]

/-- Two frames are one just if kind and body are. -/
theorem frame_apart {k m : Nat} {a b : List UInt8} (hk : k < 256) (hm : m < 256) (ha : a.length ≤ 4096) (hb : b.length ≤ 4096) : frameOf k a = frameOf m b ↔ k = m ∧ a = b := by
  constructor
  · intro h
    have h1 := congrArg openK h
    have h2 := congrArg openB h
    rw [open_frame_kind hk ha, open_frame_kind hm hb] at h1
    rw [open_frame_body ha, open_frame_body hb] at h2
    exact ⟨by omega, h2⟩
  · rintro ⟨rfl, rfl⟩
    rfl

/-- A frame of which one byte is turned. -/
theorem frame_turned {k : Nat} {l : List UInt8} {j : Nat} {b : UInt8} (hj : j < (frameOf k l).length) (hb : b ≠ 0) : openE ((frameOf k l).set j ((frameOf k l)[j] ^^^ b)) ≠ 0 := by
  intro h
  have h1 := (openE_zero h).2.2.2
  have h2 := sum_behind_turned (l := frameHead k l) (k := j) (b := b) hj hb
  rw [show (frameOf k l).set j ((frameOf k l)[j] ^^^ b) = (frameHead k l ++ enc 4 (crcSum 0 (frameHead k l))).set j ((frameHead k l ++ enc 4 (crcSum 0 (frameHead k l)))[j] ^^^ b) from rfl, h2] at h1
  exact Bool.noConfusion h1

/-- A frame that lacks bytes at its end. -/
theorem frame_cut {k : Nat} {l : List UInt8} {j : Nat} (hl : l.length ≤ 4096) (hj : j < l.length + 7) : openE ((frameOf k l).take j) = 2 := by
  have hlen : ((frameOf k l).take j).length = j := by rw [List.length_take, frameOf_length]; omega
  by_cases h : j < 7
  · exact openE_short (by rw [hlen]; exact h)
  · have e : frameLen ((frameOf k l).take j) = l.length := by
      have h1 : (((frameOf k l).take j).drop 1).take 2 = ((frameOf k l).drop 1).take 2 := by
        rw [List.drop_take, List.take_take, Nat.min_eq_left (by omega)]
      unfold frameLen
      rw [h1]
      exact frameOf_len k hl
    rw [openE_long (by rw [hlen]; exact h), e, checkE_short (by omega) (by rw [hlen]; omega)]

end Go.Proofs.Ytdhmkcomngbmaaa
