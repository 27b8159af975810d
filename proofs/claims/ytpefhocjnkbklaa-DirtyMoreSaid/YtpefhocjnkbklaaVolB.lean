/- Contracts of find, locate and Right of the package vols. -/
import Derived.Test.YtpefhocjnkbklaaVolA
namespace Go.Proofs.Ytpefhocjnkbklaa
open Go.RowKit

theorem below_q {B : Nat} {w w' : World} (h : Below B w w') (n : Nat) : Below B w (w'.drewN n) := ⟨h.os, h.tape, h.output, h.size, h.block⟩

theorem int_beq (a b : Int) : (a == b) = decide (a = b) := by by_cases h : a = b <;> simp [h]
theorem drop_at {α : Type} {l : List α} {k : Nat} (h : k < l.length) : l.drop k = l[k] :: l.drop (k + 1) := List.drop_eq_getElem_cons h

def findN (vs : List Vl) (id : Int) (k : Nat) : Prop := findAt vs id = findAt (vs.drop k) id + k ∧ hasAt vs id = hasAt (vs.drop k) id
theorem findN_hit {vs : List Vl} {id : Int} {k : Nat} (h : findN vs id k) (hk : k < vs.length) (h1 : id ≤ vs[k].1) : findAt vs id = k ∧ hasAt vs id = (vs[k].1 == id) := by
  obtain ⟨e1, e2⟩ := h
  rw [drop_at hk] at e1 e2
  rw [findAt, if_pos h1] at e1
  rw [hasAt, if_pos h1] at e2
  exact ⟨by omega, e2⟩
theorem findN_step {vs : List Vl} {id : Int} {k : Nat} (h : findN vs id k) (hk : k < vs.length) (h1 : ¬ id ≤ vs[k].1) : findN vs id (k + 1) := by
  obtain ⟨e1, e2⟩ := h
  rw [drop_at hk] at e1 e2
  rw [findAt, if_neg h1] at e1
  rw [hasAt, if_neg h1] at e2
  exact ⟨by omega, e2⟩
theorem findN_end {vs : List Vl} {id : Int} {k : Nat} (h : findN vs id k) (hk : k = vs.length) : findAt vs id = k ∧ hasAt vs id = false := by
  obtain ⟨e1, e2⟩ := h
  rw [hk, List.drop_length] at e1 e2
  exact ⟨by rw [hk]; simpa [findAt] using e1, by simpa [hasAt] using e2⟩

theorem inB_iff (bs : List ByteArray) (block : Int) : inB bs block = true ↔ 0 ≤ block ∧ block < bs.length := by simp [inB]
theorem locE_none {vs : List Vl} {vol block : Int} (h : hasAt vs vol = false) : locE vs vol block = 8 ∧ locI vs vol block = 0 := by
  have e : locE vs vol block = 8 := by unfold locE; rw [if_neg (by simp [h])]
  exact ⟨e, by unfold locI; rw [e]; rfl⟩
theorem locE_some {vs : List Vl} {vol block : Int} {v : Vl} (h : hasAt vs vol = true) (hv : vs[findAt vs vol]? = some v) :
    locE vs vol block = (if inB v.2 block = true then 0 else 10) ∧ locI vs vol block = (if inB v.2 block = true then findAt vs vol else 0) := by
  have e : locE vs vol block = (if inB v.2 block = true then 0 else 10) := by
    unfold locE; rw [if_pos h, List.getD_eq_getElem?_getD, hv]; rfl
  refine ⟨e, ?_⟩
  unfold locI
  rw [e]
  by_cases h2 : inB v.2 block = true <;> simp [h2]

end Go.Proofs.Ytpefhocjnkbklaa
