/- Contract of the document's Equal. -/
import Derived.Test.YtpmllckfijfehaaVolL
namespace Go.Proofs.Ytpmllckfijfehaa
open Go.RowKit

theorem bytes_list (s : ByteArray) : s.toList = s.data.toList := by
  exact Lib.toList_data s
theorem text_ne {s t : ByteArray} (h : s ≠ t) : (s.toList == t.toList) = false := by
  rw [beq_eq_false_iff_ne, bytes_list, bytes_list]
  intro e
  exact h (by rw [← str_of s, ← str_of t, e])
theorem text_eq (s : ByteArray) : (s.toList == s.toList) = true := by simp

def eqB (a b : List Vl) : Bool := decide (a = b)
theorem eqB_len {a b : List Vl} (h : a.length ≠ b.length) : eqB a b = false := by
  unfold eqB; rw [decide_eq_false_iff_not]; intro e; exact h (by rw [e])
theorem eqB_at {a b : List Vl} {k : Nat} (h1 : k < a.length) (h2 : k < b.length) (h : a[k] ≠ b[k]) : eqB a b = false := by
  unfold eqB; rw [decide_eq_false_iff_not]; intro e; subst e; exact h rfl
theorem take_eq_step {α : Type} {a b : List α} {k : Nat} (h : a.take k = b.take k) (h1 : k < a.length) (h2 : k < b.length) (he : a[k] = b[k]) : a.take (k + 1) = b.take (k + 1) := by
  rw [List.take_succ_eq_append_getElem h1, List.take_succ_eq_append_getElem h2, h, he]
theorem take_eq_all {α : Type} {a b : List α} {k : Nat} (h : a.take k = b.take k) (h1 : a.length ≤ k) (h2 : b.length ≤ k) : a = b := by
  rwa [List.take_of_length_le h1, List.take_of_length_le h2] at h
theorem ne_at {α : Type} {a b : List α} {k : Nat} (h1 : k < a.length) (h2 : k < b.length) (h : a[k] ≠ b[k]) : a ≠ b := by
  intro e; subst e; exact h rfl

end Go.Proofs.Ytpmllckfijfehaa
