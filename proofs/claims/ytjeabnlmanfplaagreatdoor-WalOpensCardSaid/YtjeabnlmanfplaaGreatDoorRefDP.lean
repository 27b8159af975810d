/- The document's disk over the same states: what is left of the power, what is read. No program in sight. -/
import Derived.Test.YtjeabnlmanfplaaGreatDoorDiskP
namespace Go.Proofs.YtjeabnlmanfplaaGreatDoor

/-- What is read is what is firm with the loose writes done. -/
def DSt.Tru (d : DSt) : Prop := d.seen = applyAll d.firm d.loose
/-- What is left, -1 where the power is not armed. -/
def DSt.leftR (d : DSt) : Int := if d.armed = true then d.left else -1

theorem tru_new (n : Nat) : (DSt.new n).Tru := rfl
theorem DSt.Tru.spent {d : DSt} (h : d.Tru) : d.spent.Tru := by
  unfold DSt.Tru; rw [DSt.spent_seen, DSt.spent_firm, DSt.spent_loose]; exact h
theorem DSt.Tru.writeD {d : DSt} (h : d.Tru) (i : Int) (s : List UInt8) : (d.writeD i s).Tru := by
  unfold DSt.writeD
  split
  · exact h
  · split
    · show d.spent.seen.set i.toNat (padB s) = applyAll d.spent.firm (d.spent.loose ++ [(i.toNat, padB s)])
      rw [applyAll_snoc, h.spent]
    · exact h.spent
theorem DSt.Tru.flushD {d : DSt} (h : d.Tru) : d.flushD.Tru := by
  unfold DSt.flushD
  split
  · exact h
  · split
    · exact h.spent
    · exact h.spent
theorem DSt.Tru.armD {d : DSt} (h : d.Tru) (n : Int) : (d.armD n).Tru := h
theorem DSt.Tru.crashD (d : DSt) (bs : List Bool) : (d.crashD bs).Tru := rfl

theorem leftR_new (n : Nat) : (DSt.new n).leftR = -1 := rfl
theorem leftR_arm (d : DSt) (n : Int) : (d.armD n).leftR = if n < 0 then -1 else n := by
  unfold DSt.leftR DSt.armD
  by_cases h : n < 0
  · rw [if_neg (by simpa using h), if_pos h]
  · rw [if_pos (by simpa using h), if_neg h]
theorem leftR_crash (d : DSt) (bs : List Bool) : (d.crashD bs).leftR = -1 := rfl
theorem DSt.Ok.leftR {d : DSt} (h : d.Ok) : -1 ≤ d.leftR ∧ d.leftR ≤ 9223372036854775807 := by
  have h1 := h.arm
  have h2 := h.hi
  unfold DSt.leftR
  split
  · next h3 => have := h1 h3; omega
  · omega
theorem lasts_iff {d : DSt} : d.lasts = true ↔ d.leftR ≠ 0 := by
  unfold DSt.lasts DSt.leftR
  cases d.armed <;> simp
theorem spent_no {d : DSt} (h : d.leftR = 0) : d.spent = { d with off := true } ∧ d.lasts = false := by
  unfold DSt.leftR at h
  unfold DSt.spent DSt.lasts
  cases hd : d.armed with
  | false => rw [hd] at h; simp at h
  | true => rw [hd] at h; simp at h; simp [h]
theorem spent_yes {d : DSt} (h : d.leftR ≠ 0) (ho : d.Ok) : d.spent.leftR = (if 0 < d.leftR then d.leftR - 1 else d.leftR) ∧ d.spent.off = d.off := by
  have h1 := ho.arm
  unfold DSt.leftR at h ⊢
  unfold DSt.spent
  cases hd : d.armed with
  | false => simp [hd]
  | true =>
    rw [hd] at h
    have := h1 hd
    simp at h
    simp [h]
    omega

/-- What is read, step by step. -/
theorem applyAll_take_getD (f : List (List UInt8)) (l : List (Nat × List UInt8)) (k i : Nat) (hk : k < l.length) (hi : i < f.length) :
    (applyAll f (l.take (k + 1))).getD i [] = if l[k].1 = i then l[k].2 else (applyAll f (l.take k)).getD i [] := by
  rw [List.take_succ_eq_append_getElem hk, applyAll_snoc, List.getD_eq_getElem?_getD, List.getD_eq_getElem?_getD]
  by_cases h : l[k].1 = i
  · subst h
    rw [if_pos rfl, List.getElem?_set_self (by rw [applyAll_length]; exact hi)]
    rfl
  · rw [if_neg h, List.getElem?_set_ne h]

/-- What is kept, step by step. -/
theorem keepOf_take (bs : List Bool) (l : List (Nat × List UInt8)) (k : Nat) (hk : k < l.length) : keepOf bs (l.take (k + 1)) = keepOf bs (l.take k) ++ (if bs.getD k false then [l[k]] else []) := by
  rw [List.take_succ_eq_append_getElem hk, keepOf_snoc, List.length_take, Nat.min_eq_left (by omega)]
theorem keepOf_all (l : List (Nat × List UInt8)) : keepOf (List.replicate l.length true) l = l := by
  suffices h : ∀ k, k ≤ l.length → keepOf (List.replicate l.length true) (l.take k) = l.take k by
    have := h l.length (Nat.le_refl _)
    rwa [List.take_length] at this
  intro k
  induction k with
  | zero => intro _; rfl
  | succ k ih =>
    intro hk
    rw [keepOf_take _ _ _ (by omega), ih (by omega), List.take_succ_eq_append_getElem (by omega)]
    simp [List.getD_eq_getElem?_getD, show k < l.length by omega]
end Go.Proofs.YtjeabnlmanfplaaGreatDoor
