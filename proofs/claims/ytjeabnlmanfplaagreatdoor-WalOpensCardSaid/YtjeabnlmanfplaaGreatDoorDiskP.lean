/- What a disk holds, and what its functions answer and leave, as plain functions on lists. No program in sight. -/
namespace Go.Proofs.YtjeabnlmanfplaaGreatDoor

/-- A disk's state: what is read, what is firm, the loose writes, the power. -/
structure DSt where
  seen : List (List UInt8)
  firm : List (List UInt8)
  loose : List (Nat × List UInt8)
  off : Bool
  armed : Bool
  left : Int

def padB (l : List UInt8) : List UInt8 := l ++ List.replicate (32 - l.length) 0
theorem padB_length {l : List UInt8} (h : l.length ≤ 32) : (padB l).length = 32 := by
  unfold padB; rw [List.length_append, List.length_replicate]; omega

/-- Writes done to sectors, one behind the other. -/
def applyAll (f : List (List UInt8)) (l : List (Nat × List UInt8)) : List (List UInt8) := l.foldl (fun f p => f.set p.1 p.2) f
theorem applyAll_nil (f : List (List UInt8)) : applyAll f [] = f := rfl
theorem applyAll_snoc (f : List (List UInt8)) (l : List (Nat × List UInt8)) (p : Nat × List UInt8) : applyAll f (l ++ [p]) = (applyAll f l).set p.1 p.2 := by
  unfold applyAll; rw [List.foldl_append]; rfl
theorem applyAll_append (f : List (List UInt8)) (l m : List (Nat × List UInt8)) : applyAll f (l ++ m) = applyAll (applyAll f l) m := by
  unfold applyAll; rw [List.foldl_append]
theorem applyAll_length (l : List (Nat × List UInt8)) : ∀ f : List (List UInt8), (applyAll f l).length = f.length := by
  induction l with
  | nil => intro f; rfl
  | cons p l ih => intro f; show (applyAll (f.set p.1 p.2) l).length = _; rw [ih, List.length_set]

/-- The writes that are kept. -/
def keepOf (keep : List Bool) (l : List (Nat × List UInt8)) : List (Nat × List UInt8) := (l.zipIdx.filter (fun p => keep.getD p.2 false)).map Prod.fst
theorem keepOf_nil (keep : List Bool) : keepOf keep [] = [] := rfl
theorem keepOf_snoc (keep : List Bool) (l : List (Nat × List UInt8)) (p : Nat × List UInt8) : keepOf keep (l ++ [p]) = keepOf keep l ++ (if keep.getD l.length false then [p] else []) := by
  unfold keepOf
  rw [List.zipIdx_append, List.filter_append, List.map_append]
  congr 1
  by_cases h : keep.getD l.length false = true
  · simp only [List.zipIdx_cons, List.zipIdx_nil, Nat.zero_add, List.filter_cons, h, if_true, List.filter_nil, List.map_cons, List.map_nil]
  · simp only [List.zipIdx_cons, List.zipIdx_nil, Nat.zero_add, List.filter_cons, h, List.filter_nil, List.map_nil, Bool.false_eq_true, if_false]
theorem keepOf_sub (keep : List Bool) (l : List (Nat × List UInt8)) : ∀ p ∈ keepOf keep l, p ∈ l := by
  intro p hp
  unfold keepOf at hp
  obtain ⟨q, hq, rfl⟩ := List.mem_map.1 hp
  have h2 := (List.mem_filter.1 hq).1
  obtain ⟨x, i⟩ := q
  exact (List.mem_zipIdx h2).2.2 ▸ List.getElem_mem _

/-- Right: so many sectors of 32 bytes each; loose writes are to sectors; a power that is armed has no less than nothing left. -/
structure DSt.Ok (d : DSt) : Prop where
  len : d.firm.length = d.seen.length
  pos : 0 < d.seen.length
  le : d.seen.length ≤ 4096
  at_ : ∀ p ∈ d.loose, p.1 < d.seen.length ∧ p.2.length = 32
  arm : d.armed = true → 0 ≤ d.left
  lo : -9223372036854775808 ≤ d.left
  hi : d.left ≤ 9223372036854775807

/-- Has the disk a sector i? -/
def DSt.has (d : DSt) (i : Int) : Bool := decide (0 ≤ i) && decide (i < d.seen.length)
theorem DSt.has_iff (d : DSt) (i : Int) : d.has i = true ↔ 0 ≤ i ∧ i < d.seen.length := by unfold DSt.has; simp
theorem DSt.has_not (d : DSt) (i : Int) : d.has i = false ↔ ¬ (0 ≤ i ∧ i < d.seen.length) := by rw [← DSt.has_iff]; simp

/-- Does the power last for one write or flush more? What is left behind it. -/
def DSt.lasts (d : DSt) : Bool := !d.armed || d.left != 0
def DSt.spent (d : DSt) : DSt := if d.armed = true then (if d.left = 0 then { d with off := true } else { d with left := d.left - 1 }) else d

def DSt.new (n : Nat) : DSt := ⟨List.replicate n (List.replicate 32 0), List.replicate n (List.replicate 32 0), [], false, false, 0⟩

def DSt.readE (d : DSt) (i : Int) : Int := if d.off = true then 7 else if d.has i = true then 0 else 1
def DSt.readB (d : DSt) (i : Int) : List UInt8 := if d.readE i = 0 then d.seen.getD i.toNat [] else []

def DSt.writeE (d : DSt) (i : Int) (s : List UInt8) : Int :=
  if d.off = true then 7 else if d.has i = false then 1 else if 32 < s.length then 5 else if d.lasts = true then 0 else 7
def DSt.put (d : DSt) (i : Nat) (x : List UInt8) : DSt := { d with seen := d.seen.set i x, loose := d.loose ++ [(i, x)] }
def DSt.writeD (d : DSt) (i : Int) (s : List UInt8) : DSt :=
  if d.off = true ∨ d.has i = false ∨ 32 < s.length then d else if d.lasts = true then d.spent.put i.toNat (padB s) else d.spent

def DSt.flushE (d : DSt) : Int := if d.off = true then 7 else if d.lasts = true then 0 else 7
def DSt.firmAll (d : DSt) : DSt := { d with firm := applyAll d.firm d.loose, loose := [] }
def DSt.flushD (d : DSt) : DSt := if d.off = true then d else if d.lasts = true then d.spent.firmAll else d.spent

def DSt.armD (d : DSt) (n : Int) : DSt := { d with armed := decide (0 ≤ n), left := n }

def DSt.crashF (d : DSt) (keep : List Bool) : List (List UInt8) := applyAll d.firm (keepOf keep d.loose)
def DSt.crashD (d : DSt) (keep : List Bool) : DSt := ⟨d.crashF keep, d.crashF keep, [], false, false, 0⟩

/-! ### All stay right -/

theorem DSt.new_ok {n : Nat} (h1 : 0 < n) (h2 : n ≤ 4096) : (DSt.new n).Ok :=
  ⟨rfl, by simpa [DSt.new] using h1, by simpa [DSt.new] using h2, (fun p hp => by cases hp), (fun h => by cases h), by simp [DSt.new], by simp [DSt.new]⟩

theorem DSt.Ok.spent {d : DSt} (h : d.Ok) : d.spent.Ok := by
  unfold DSt.spent
  split
  · next ha =>
    have h0 := h.arm ha
    have h1 := h.hi
    split
    · exact ⟨h.len, h.pos, h.le, h.at_, h.arm, h.lo, h.hi⟩
    · refine ⟨h.len, h.pos, h.le, h.at_, fun _ => ?_, ?_, ?_⟩ <;> show _ ≤ _ <;> simp only <;> omega
  · exact h
theorem DSt.spent_seen (d : DSt) : d.spent.seen = d.seen := by unfold DSt.spent; split; split <;> rfl; rfl
theorem DSt.spent_firm (d : DSt) : d.spent.firm = d.firm := by unfold DSt.spent; split; split <;> rfl; rfl
theorem DSt.spent_loose (d : DSt) : d.spent.loose = d.loose := by unfold DSt.spent; split; split <;> rfl; rfl

theorem DSt.Ok.put {d : DSt} (h : d.Ok) {i : Nat} {x : List UInt8} (hi : i < d.seen.length) (hx : x.length = 32) : (d.put i x).Ok := by
  refine ⟨?_, ?_, ?_, ?_, h.arm, h.lo, h.hi⟩
  · show d.firm.length = (d.seen.set i x).length; rw [List.length_set]; exact h.len
  · show 0 < (d.seen.set i x).length; rw [List.length_set]; exact h.pos
  · show (d.seen.set i x).length ≤ 4096; rw [List.length_set]; exact h.le
  · intro p hp
    show p.1 < (d.seen.set i x).length ∧ _
    rw [List.length_set]
    rcases List.mem_append.1 hp with hp | hp
    · exact h.at_ p hp
    · rw [List.mem_singleton] at hp; subst hp; exact ⟨hi, hx⟩

theorem DSt.Ok.writeD {d : DSt} (h : d.Ok) (i : Int) (s : List UInt8) : (d.writeD i s).Ok := by
  unfold DSt.writeD
  split
  · exact h
  · next hn =>
    have h1 : d.has i = true := by cases hh : d.has i; exact absurd (Or.inr (Or.inl hh)) hn; rfl
    have h2 : ¬ 32 < s.length := fun hh => hn (Or.inr (Or.inr hh))
    rw [DSt.has_iff] at h1
    split
    · exact h.spent.put (by rw [DSt.spent_seen]; omega) (padB_length (by omega))
    · exact h.spent

theorem DSt.Ok.firmAll {d : DSt} (h : d.Ok) : d.firmAll.Ok :=
  ⟨by show (applyAll d.firm d.loose).length = _; rw [applyAll_length]; exact h.len, h.pos, h.le, (fun p hp => by cases hp), h.arm, h.lo, h.hi⟩

theorem DSt.Ok.flushD {d : DSt} (h : d.Ok) : d.flushD.Ok := by
  unfold DSt.flushD
  split
  · exact h
  · split
    · exact h.spent.firmAll
    · exact h.spent

theorem DSt.Ok.armD {d : DSt} (h : d.Ok) {n : Int} (h1 : -9223372036854775808 ≤ n) (h2 : n ≤ 9223372036854775807) : (d.armD n).Ok :=
  ⟨h.len, h.pos, h.le, h.at_, fun hh => by simpa [DSt.armD] using hh, h1, h2⟩

theorem DSt.crashF_length (d : DSt) (keep : List Bool) : (d.crashF keep).length = d.firm.length := applyAll_length _ _
theorem DSt.Ok.crashD {d : DSt} (h : d.Ok) (keep : List Bool) : (d.crashD keep).Ok :=
  ⟨rfl, by show 0 < (d.crashF keep).length; rw [d.crashF_length, h.len]; exact h.pos, by show (d.crashF keep).length ≤ _; rw [d.crashF_length, h.len]; exact h.le,
   (fun p hp => by cases hp), (fun hh => by cases hh), by show _ ≤ (0 : Int); omega, by show (0 : Int) ≤ _; omega⟩

end Go.Proofs.YtjeabnlmanfplaaGreatDoor
