/- What a disk holds, and what its functions answer and leave, as plain functions on lists. No program in sight. A disk in memory: its sectors, its loose writes, the block that holds it ('IsDisk'); what a call leaves alone ('Moves'). -/
import Derived.Test.YtlelfakememckaaGreatDoorRows
import Derived.WalkKit
import Derived.WalkSpells
import Derived.WalkLawsBesides
import Derived.Lib.Hide
import Derived.PlainAid
import Derived.Deep.OwnRows
import Derived.Deep.MidRow
import Derived.Deep.AppendLies
import Derived.Deep.RegionHeld3
import Derived.Lib.LazyBuf
import Derived.Test.YtlelfakememckaaGreatDoorPlain
namespace Go.Proofs.YtlelfakememckaaGreatDoor

/-- A disk's state: what is read, what is firm, the loose writes, the power. -/
structure DSt where
  seen : List (List UInt8)
  firm : List (List UInt8)
  loose : List (Nat × List UInt8)
  off : Bool
  armed : Bool
  left : Int

def padB (l : List UInt8) : List UInt8 := l ++ List.replicate (32 - l.length) 0
theorem padB_length {l : List UInt8} (h : l.length ≤ 32) : (padB l).length = 32 := by
  unfold padB; rw [List.length_append, List.length_replicate]; omega

/-- Writes done to sectors, one behind the other. -/
def applyAll (f : List (List UInt8)) (l : List (Nat × List UInt8)) : List (List UInt8) := l.foldl (fun f p => f.set p.1 p.2) f
theorem applyAll_nil (f : List (List UInt8)) : applyAll f [] = f := rfl
theorem applyAll_snoc (f : List (List UInt8)) (l : List (Nat × List UInt8)) (p : Nat × List UInt8) : applyAll f (l ++ [p]) = (applyAll f l).set p.1 p.2 := by
  unfold applyAll; rw [List.foldl_append]; rfl
theorem applyAll_append (f : List (List UInt8)) (l m : List (Nat × List UInt8)) : applyAll f (l ++ m) = applyAll (applyAll f l) m := by
  unfold applyAll; rw [List.foldl_append]
theorem applyAll_length (l : List (Nat × List UInt8)) : ∀ f : List (List UInt8), (applyAll f l).length = f.length := by
  induction l with
  | nil => intro f; rfl
  | cons p l ih => intro f; show (applyAll (f.set p.1 p.2) l).length = _; rw [ih, List.length_set]

/-- The writes that are kept. -/
def keepOf (keep : List Bool) (l : List (Nat × List UInt8)) : List (Nat × List UInt8) := (l.zipIdx.filter (fun p => keep.getD p.2 false)).map Prod.fst
theorem keepOf_nil (keep : List Bool) : keepOf keep [] = [] := rfl
theorem keepOf_snoc (keep : List Bool) (l : List (Nat × List UInt8)) (p : Nat × List UInt8) : keepOf keep (l ++ [p]) = keepOf keep l ++ (if keep.getD l.length false then [p] else []) := by
  unfold keepOf
  rw [List.zipIdx_append, List.filter_append, List.map_append]
  congr 1
  by_cases h : keep.getD l.length false = true
  · simp only [List.zipIdx_cons, List.zipIdx_nil, Nat.zero_add, List.filter_cons, h, if_true, List.filter_nil, List.map_cons, List.map_nil]
  · simp only [List.zipIdx_cons, List.zipIdx_nil, Nat.zero_add, List.filter_cons, h, List.filter_nil, List.map_nil, Bool.false_eq_true, if_false]
theorem keepOf_sub (keep : List Bool) (l : List (Nat × List UInt8)) : ∀ p ∈ keepOf keep l, p ∈ l := by
  intro p hp
  unfold keepOf at hp
  obtain ⟨q, hq, rfl⟩ := List.mem_map.1 hp
  have h2 := (List.mem_filter.1 hq).1
  obtain ⟨x, i⟩ := q
  exact (List.mem_zipIdx h2).2.2 ▸ List.getElem_mem _

/-- Right: so many sectors of 32 bytes each; loose writes are to sectors; a power that is armed has no less than nothing left. -/
structure DSt.Ok (d : DSt) : Prop where
  len : d.firm.length = d.seen.length
  pos : 0 < d.seen.length
  le : d.seen.length ≤ 4096
  at_ : ∀ p ∈ d.loose, p.1 < d.seen.length ∧ p.2.length = 32
  arm : d.armed = true → 0 ≤ d.left
  lo : -9223372036854775808 ≤ d.left
  hi : d.left ≤ 9223372036854775807

/-- Has the disk a sector i? -/
def DSt.has (d : DSt) (i : Int) : Bool := decide (0 ≤ i) && decide (i < d.seen.length)
theorem DSt.has_iff (d : DSt) (i : Int) : d.has i = true ↔ 0 ≤ i ∧ i < d.seen.length := by unfold DSt.has; simp
theorem DSt.has_not (d : DSt) (i : Int) : d.has i = false ↔ ¬ (0 ≤ i ∧ i < d.seen.length) := by rw [← DSt.has_iff]; simp

/-- Does the power last for one write or flush more? What is left behind it. -/
def DSt.lasts (d : DSt) : Bool := !d.armed || d.left != 0
def DSt.spent (d : DSt) : DSt := if d.armed = true then (if d.left = 0 then { d with off := true } else { d with left := d.left - 1 }) else d

def DSt.new (n : Nat) : DSt := ⟨List.replicate n (List.replicate 32 0), List.replicate n (List.replicate 32 0), [], false, false, 0⟩

def DSt.readE (d : DSt) (i : Int) : Int := if d.off = true then 7 else if d.has i = true then 0 else 1
def DSt.readB (d : DSt) (i : Int) : List UInt8 := if d.readE i = 0 then d.seen.getD i.toNat [] else []

def DSt.writeE (d : DSt) (i : Int) (s : List UInt8) : Int :=
  if d.off = true then 7 else if d.has i = false then 1 else if 32 < s.length then 5 else if d.lasts = true then 0 else 7
def DSt.put (d : DSt) (i : Nat) (x : List UInt8) : DSt := { d with seen := d.seen.set i x, loose := d.loose ++ [(i, x)] }
def DSt.writeD (d : DSt) (i : Int) (s : List UInt8) : DSt :=
  if d.off = true ∨ d.has i = false ∨ 32 < s.length then d else if d.lasts = true then d.spent.put i.toNat (padB s) else d.spent

def DSt.flushE (d : DSt) : Int := if d.off = true then 7 else if d.lasts = true then 0 else 7
def DSt.firmAll (d : DSt) : DSt := { d with firm := applyAll d.firm d.loose, loose := [] }
def DSt.flushD (d : DSt) : DSt := if d.off = true then d else if d.lasts = true then d.spent.firmAll else d.spent

def DSt.armD (d : DSt) (n : Int) : DSt := { d with armed := decide (0 ≤ n), left := n }

def DSt.crashF (d : DSt) (keep : List Bool) : List (List UInt8) := applyAll d.firm (keepOf keep d.loose)
def DSt.crashD (d : DSt) (keep : List Bool) : DSt := ⟨d.crashF keep, d.crashF keep, [], false, false, 0⟩

/-! ### All stay right -/

theorem DSt.new_ok {n : Nat} (h1 : 0 < n) (h2 : n ≤ 4096) : (DSt.new n).Ok :=
  ⟨rfl, by simpa [DSt.new] using h1, by simpa [DSt.new] using h2, (fun p hp => by cases hp), (fun h => by cases h), by simp [DSt.new], by simp [DSt.new]⟩

theorem DSt.Ok.spent {d : DSt} (h : d.Ok) : d.spent.Ok := by
  unfold DSt.spent
  split
  · next ha =>
    have h0 := h.arm ha
    have h1 := h.hi
    split
    · exact ⟨h.len, h.pos, h.le, h.at_, h.arm, h.lo, h.hi⟩
    · refine ⟨h.len, h.pos, h.le, h.at_, fun _ => ?_, ?_, ?_⟩ <;> show _ ≤ _ <;> simp only <;> omega
  · exact h
theorem DSt.spent_seen (d : DSt) : d.spent.seen = d.seen := by unfold DSt.spent; split; split <;> rfl; rfl
theorem DSt.spent_firm (d : DSt) : d.spent.firm = d.firm := by unfold DSt.spent; split; split <;> rfl; rfl
theorem DSt.spent_loose (d : DSt) : d.spent.loose = d.loose := by unfold DSt.spent; split; split <;> rfl; rfl

theorem DSt.Ok.put {d : DSt} (h : d.Ok) {i : Nat} {x : List UInt8} (hi : i < d.seen.length) (hx : x.length = 32) : (d.put i x).Ok := by
  refine ⟨?_, ?_, ?_, ?_, h.arm, h.lo, h.hi⟩
  · show d.firm.length = (d.seen.set i x).length; rw [List.length_set]; exact h.len
  · show 0 < (d.seen.set i x).length; rw [List.length_set]; exact h.pos
  · show (d.seen.set i x).length ≤ 4096; rw [List.length_set]; exact h.le
  · intro p hp
    show p.1 < (d.seen.set i x).length ∧ _
    rw [List.length_set]
    rcases List.mem_append.1 hp with hp | hp
    · exact h.at_ p hp
    · rw [List.mem_singleton] at hp; subst hp; exact ⟨hi, hx⟩

theorem DSt.Ok.writeD {d : DSt} (h : d.Ok) (i : Int) (s : List UInt8) : (d.writeD i s).Ok := by
  unfold DSt.writeD
  split
  · exact h
  · next hn =>
    have h1 : d.has i = true := by cases hh : d.has i; exact absurd (Or.inr (Or.inl hh)) hn; rfl
    have h2 : ¬ 32 < s.length := fun hh => hn (Or.inr (Or.inr hh))
    rw [DSt.has_iff] at h1
    split
    · exact h.spent.put (by rw [DSt.spent_seen]; omega) (padB_length (by omega))
    · exact h.spent

theorem DSt.Ok.firmAll {d : DSt} (h : d.Ok) : d.firmAll.Ok :=
  ⟨by show (applyAll d.firm d.loose).length = _; rw [applyAll_length]; exact h.len, h.pos, h.le, (fun p hp => by cases hp), h.arm, h.lo, h.hi⟩

theorem DSt.Ok.flushD {d : DSt} (h : d.Ok) : d.flushD.Ok := by
  unfold DSt.flushD
  split
  · exact h
  · split
    · exact h.spent.firmAll
    · exact h.spent

theorem DSt.Ok.armD {d : DSt} (h : d.Ok) {n : Int} (h1 : -9223372036854775808 ≤ n) (h2 : n ≤ 9223372036854775807) : (d.armD n).Ok :=
  ⟨h.len, h.pos, h.le, h.at_, fun hh => by simpa [DSt.armD] using hh, h1, h2⟩

theorem DSt.crashF_length (d : DSt) (keep : List Bool) : (d.crashF keep).length = d.firm.length := applyAll_length _ _
theorem DSt.Ok.crashD {d : DSt} (h : d.Ok) (keep : List Bool) : (d.crashD keep).Ok :=
  ⟨rfl, by show 0 < (d.crashF keep).length; rw [d.crashF_length, h.len]; exact h.pos, by show (d.crashF keep).length ≤ _; rw [d.crashF_length, h.len]; exact h.le,
   (fun p hp => by cases hp), (fun hh => by cases hh), by show _ ≤ (0 : Int); omega, by show (0 : Int) ≤ _; omega⟩

end Go.Proofs.YtlelfakememckaaGreatDoor

namespace Go.Proofs.YtlelfakememckaaGreatDoor
open Go.RowKit

def byteVals (l : List UInt8) : List Value := l.map (fun c => Value.int .u8 (c.toNat : Int))
theorem byteVals_length (l : List UInt8) : (byteVals l).length = l.length := by simp [byteVals]
theorem byteVals_one (l : List UInt8) : ∀ u ∈ byteVals l, u.oneCell' = true := by
  intro u hu
  obtain ⟨c, _, rfl⟩ := List.mem_map.1 hu
  rfl
theorem byteVals_append (l m : List UInt8) : byteVals (l ++ m) = byteVals l ++ byteVals m := by simp [byteVals]

/-! ### What a call leaves alone -/

theorem Moves.setCells {F : Nat → Prop} {a : World} {g : Nat} (hg : F g) : ∀ (vs : List Value) (o : Nat) {w : World}, Moves F a w → Moves F a (w.setCells g o vs)
  | [], _, _, h => h
  | v :: r, o, _, h => Moves.setCells hg r (o + 1) (h.setCell (p := ⟨g, o, none⟩) hg v)

theorem size_setCells (g : Nat) : ∀ (vs : List Value) (o : Nat) (w : World), (w.setCells g o vs).heap.size = w.heap.size
  | [], _, _ => rfl
  | v :: r, o, w => by
    rw [World.setCells, size_setCells g r]
    simp [World.setCell]
theorem block_setCells {g k : Nat} (h : k ≠ g) : ∀ (vs : List Value) (o : Nat) (w : World), (w.setCells g o vs).heap[k]? = w.heap[k]?
  | [], _, _ => rfl
  | v :: r, o, w => by
    rw [World.setCells, block_setCells h r, Below.heap_setCell _ _ _ _ h]

theorem rangeAt_block {w w' : World} {b o : Nat} {cs : List Value} (h : w.rangeAt b o cs) (hb : w'.heap[b]? = w.heap[b]?) : w'.rangeAt b o cs :=
  fun j v hv => (World.cell?_of_block (a := ⟨b, o + j, none⟩) hb).trans (h j v hv)
theorem there_block {w w' : World} {b o n : Nat} (h : w.there b o n) (hb : w'.heap[b]? = w.heap[b]?) : w'.there b o n := fun j hj => by
  rw [World.cell?_of_block (a := ⟨b, o + j, none⟩) hb, World.frozen?_of_block (a := ⟨b, o + j, none⟩) hb]
  exact h j hj

/-! ### Sectors -/

/-- The sectors l lie in block b, and may be written. -/
def Secs (w : World) (b : Nat) (l : List (List UInt8)) : Prop :=
  b < w.heap.size ∧ ∀ i (h : i < l.length), l[i].length = 32 ∧ w.rangeAt b (i * 32) (byteVals l[i]) ∧ w.there b (i * 32) 32

theorem Secs.kept {w w' : World} {b : Nat} {l : List (List UInt8)} (h : Secs w b l) (hb : w'.heap[b]? = w.heap[b]?) (hs : w.heap.size ≤ w'.heap.size) : Secs w' b l :=
  ⟨Nat.lt_of_lt_of_le h.1 hs, fun i hi => ⟨(h.2 i hi).1, rangeAt_block (h.2 i hi).2.1 hb, there_block (h.2 i hi).2.2 hb⟩⟩
theorem Secs.set {w : World} {b : Nat} {l : List (List UInt8)} (h : Secs w b l) {i : Nat} (_hi : i < l.length) {x : List UInt8} (hx : x.length = 32) : Secs (w.setCells b (i * 32) (byteVals x)) b (l.set i x) := by
  refine ⟨by rw [size_setCells]; exact h.1, fun j hj => ?_⟩
  have hj' : j < l.length := by simpa using hj
  obtain ⟨h1, h2, h3⟩ := h.2 j hj'
  by_cases e : i = j
  · subst e
    rw [List.getElem_set_self]
    exact ⟨hx, World.rangeAt_setCells_same _ _ _ _ (by rw [byteVals_length, hx]; exact h3), World.there_setCells h3 _ _ _⟩
  · rw [List.getElem_set_ne e]
    exact ⟨h1, World.rangeAt_setCells_apart h2 _ _ _ (by rw [byteVals_length, byteVals_length, hx, h1]; omega), World.there_setCells h3 _ _ _⟩

/-! ### Loose writes -/

def looseCells (l : List (Nat × List UInt8)) : List Value := (l.map fun p => Value.int .i64 (p.1 : Int) :: byteVals p.2).flatten
theorem looseCells_snoc (l : List (Nat × List UInt8)) (p : Nat × List UInt8) : looseCells (l ++ [p]) = looseCells l ++ (Value.int .i64 (p.1 : Int) :: byteVals p.2) := by
  simp [looseCells]
theorem looseCells_length {l : List (Nat × List UInt8)} (h : ∀ p ∈ l, p.2.length = 32) : (looseCells l).length = l.length * 33 := by
  induction l with
  | nil => rfl
  | cons p l ih =>
    have h1 := ih (fun q hq => h q (List.mem_cons_of_mem _ hq))
    have h2 := h p List.mem_cons_self
    simp only [looseCells, List.map_cons, List.flatten_cons, List.length_append, List.length_cons, byteVals_length] at h1 ⊢
    omega
theorem looseCells_at {l : List (Nat × List UInt8)} (h : ∀ p ∈ l, p.2.length = 32) (k : Nat) (hk : k < l.length) (j : Nat) (hj : j < 33) :
    (looseCells l)[k * 33 + j]? = (Value.int .i64 ((l[k].1 : Nat) : Int) :: byteVals l[k].2)[j]? := by
  induction l generalizing k with
  | nil => simp at hk
  | cons p l ih =>
    have h2 := h p List.mem_cons_self
    have hlen : (Value.int .i64 ((p.1 : Nat) : Int) :: byteVals p.2).length = 33 := by simp [byteVals_length, h2]
    simp only [looseCells, List.map_cons, List.flatten_cons]
    cases k with
    | zero => rw [List.getElem?_append_left (by omega), Nat.zero_mul, Nat.zero_add]; rfl
    | succ k =>
      rw [List.getElem?_append_right (by omega), hlen, show (k + 1) * 33 + j - 33 = k * 33 + j from by omega]
      exact ih (fun q hq => h q (List.mem_cons_of_mem _ hq)) k (by simpa using hk)

/-- The cells of one loose write. -/
theorem loose_range {w : World} {v : Value} {l : List (Nat × List UInt8)} {e : TypeId} (h : w.ownsRow 0 e 33 v l.length (looseCells l)) (hl : ∀ p ∈ l, p.2.length = 32) (k : Nat) (hk : k < l.length) :
    ∃ g cap, v = .slice (some ⟨g, 0, none⟩) l.length cap ∧ g < w.heap.size ∧ w.rangeAt g (k * 33) (Value.int .i64 ((l[k].1 : Nat) : Int) :: byteVals l[k].2) := by
  obtain ⟨g, cap, rfl, _, hg⟩ := h.form (by omega)
  refine ⟨g, cap, rfl, hg, fun j u hu => ?_⟩
  have hl2 := hl l[k] (List.getElem_mem hk)
  have hj : j < 33 := by
    have := (List.getElem?_eq_some_iff.1 hu).1
    simpa [byteVals_length, hl2] using this
  have := h.cells (g := g) rfl (k * 33 + j) u (by rw [looseCells_at hl k hk j hj]; exact hu)
  rwa [WideShapes.add_plain, Nat.zero_add] at this

/-! ### The disk -/

def diskCells (d : DSt) (s cs u cu : Nat) (v : Value) : Array Value :=
  #[.slice (some ⟨s, 0, none⟩) d.seen.length cs, .slice (some ⟨u, 0, none⟩) d.firm.length cu, v, .bool d.off, .bool d.armed, .int .i64 d.left]

/-- A disk lies at block a: with its sectors in blocks s and u, its loose writes in the row of v. -/
structure DiskAt (w : World) (F : Nat → Prop) (a : Nat) (d : DSt) (s cs u cu : Nat) (v : Value) : Prop where
  blk : w.heap[a]? = some (.cells (diskCells d s cs u cu v) 69 (0, 0))
  seen : Secs w s d.seen
  firm : Secs w u d.firm
  own : w.ownsRow 0 97 33 v d.loose.length (looseCells d.loose)
  caps : d.seen.length ≤ cs ∧ cs ≤ maxLen ∧ d.firm.length ≤ cu ∧ cu ≤ maxLen
  as_ : a ≠ s
  au : a ≠ u
  su : s ≠ u
  va : v.ownBlock ≠ some a
  vs : v.ownBlock ≠ some s
  vu : v.ownBlock ≠ some u
  fa : F a
  fs : F s
  fu : F u
  fv : ∀ k, v.ownBlock = some k → F k
  low : ∀ k, F k → k < w.heap.size

/-- At block a lies a disk that is right and holds d; all its memory is of F. -/
def IsDisk (w : World) (F : Nat → Prop) (a : Nat) (d : DSt) : Prop := d.Ok ∧ ∃ s cs u cu v, DiskAt w F a d s cs u cu v

theorem DiskAt.cell {w : World} {F : Nat → Prop} {a : Nat} {d : DSt} {s cs u cu : Nat} {v : Value} (h : DiskAt w F a d s cs u cu v) :
    w.cell? ⟨a, 0, none⟩ = some (.slice (some ⟨s, 0, none⟩) d.seen.length cs) ∧ w.cell? ⟨a, 1, none⟩ = some (.slice (some ⟨u, 0, none⟩) d.firm.length cu) ∧
    w.cell? ⟨a, 2, none⟩ = some v ∧ w.cell? ⟨a, 3, none⟩ = some (.bool d.off) ∧ w.cell? ⟨a, 4, none⟩ = some (.bool d.armed) ∧ w.cell? ⟨a, 5, none⟩ = some (.int .i64 d.left) := by
  refine ⟨?_, ?_, ?_, ?_, ?_, ?_⟩ <;> rw [Lib.cell_of_heap h.blk] <;> rfl
theorem DiskAt.frozen {w : World} {F : Nat → Prop} {a : Nat} {d : DSt} {s cs u cu : Nat} {v : Value} (h : DiskAt w F a d s cs u cu v) (j : Nat) : w.frozen? ⟨a, j, none⟩ = false := Lib.frozen_of_heap h.blk j

theorem DiskAt.kept {w w' : World} {F G : Nat → Prop} {a : Nat} {d : DSt} {s cs u cu : Nat} {v : Value} (h : DiskAt w F a d s cs u cu v) (hm : Moves G w w') (hF : ∀ k, G k → ¬ F k) : DiskAt w' F a d s cs u cu v := by
  have hb : ∀ k, F k → w'.heap[k]? = w.heap[k]? := fun k hk => hm.block k (h.low k hk) (fun hg => hF k hg hk)
  refine ⟨by rw [hb a h.fa]; exact h.blk, h.seen.kept (hb s h.fs) hm.size, h.firm.kept (hb u h.fu) hm.size, ?_, h.caps, h.as_, h.au, h.su, h.va, h.vs, h.vu, h.fa, h.fs, h.fu, h.fv, fun k hk => Nat.lt_of_lt_of_le (h.low k hk) hm.size⟩
  obtain ⟨h1, h2⟩ := h.own
  refine ⟨h1, h2.imp id ?_⟩
  rintro ⟨g, cap, cur, rfl, hb0, hg, hr⟩
  exact ⟨g, cap, cur, rfl, hb0, by rw [hb g (h.fv g rfl)]; exact hg, hr⟩

theorem IsDisk.kept {w w' : World} {F G : Nat → Prop} {a : Nat} {d : DSt} (h : IsDisk w F a d) (hm : Moves G w w') (hF : ∀ k, G k → ¬ F k) : IsDisk w' F a d := by
  obtain ⟨ho, s, cs, u, cu, v, h⟩ := h
  exact ⟨ho, s, cs, u, cu, v, h.kept hm hF⟩
theorem IsDisk.below {w w' : World} {F : Nat → Prop} {a : Nat} {d : DSt} (h : IsDisk w F a d) (hb : Below w.heap.size w w') : IsDisk w' F a d := h.kept (Moves.of_below (F := fun _ => False) hb) (fun _ h => h.elim)
theorem IsDisk.low {w : World} {F : Nat → Prop} {a : Nat} {d : DSt} (h : IsDisk w F a d) : ∀ k, F k → k < w.heap.size := by
  obtain ⟨_, s, cs, u, cu, v, h⟩ := h
  exact h.low

/-- What a call on a disk leaves: the disk's memory is what it was, or new. -/
def DiskEnd (w : World) (F : Nat → Prop) (a : Nat) (d : DSt) (v : Value) (e : Ending) (w' : World) : Prop :=
  e = .returned v ∧ Moves F w w' ∧ ∃ F', IsDisk w' F' a d ∧ ∀ k, F' k → F k ∨ w.heap.size ≤ k

theorem DiskEnd.same {w : World} {F : Nat → Prop} {a : Nat} {d : DSt} {v : Value} (h : IsDisk w F a d) : DiskEnd w F a d v (.returned v) w := ⟨rfl, Moves.refl _ _, F, h, fun _ h => Or.inl h⟩

end Go.Proofs.YtlelfakememckaaGreatDoor
