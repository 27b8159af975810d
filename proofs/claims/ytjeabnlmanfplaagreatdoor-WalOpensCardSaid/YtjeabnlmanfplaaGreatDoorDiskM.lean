/- A disk in memory: its sectors, its loose writes, the block that holds it ('IsDisk'); what a call leaves alone ('Moves'). -/
import Derived.Test.YtjeabnlmanfplaaGreatDoorRows
import Derived.WalkKit
import Derived.WalkSpells
import Derived.WalkLawsBesides
import Derived.Lib.Hide
import Derived.PlainAid
import Derived.Deep.OwnRows
import Derived.Deep.MidRow
import Derived.Deep.AppendLies
import Derived.Deep.RegionHeld3
import Derived.Lib.LazyBuf
import Derived.Test.YtjeabnlmanfplaaGreatDoorSpec
import Derived.Test.YtjeabnlmanfplaaGreatDoorMem
import Derived.Test.YtjeabnlmanfplaaGreatDoorDiskP
namespace Go.Proofs.YtjeabnlmanfplaaGreatDoor
open Go.RowKit

def byteVals (l : List UInt8) : List Value := l.map (fun c => Value.int .u8 (c.toNat : Int))
theorem byteVals_length (l : List UInt8) : (byteVals l).length = l.length := by simp [byteVals]
theorem byteVals_one (l : List UInt8) : ∀ u ∈ byteVals l, u.oneCell' = true := by
  intro u hu
  obtain ⟨c, _, rfl⟩ := List.mem_map.1 hu
  rfl
theorem byteVals_append (l m : List UInt8) : byteVals (l ++ m) = byteVals l ++ byteVals m := by simp [byteVals]

/-! ### What a call leaves alone -/

/-- All but the blocks of F is as it was. -/
structure Moves (F : Nat → Prop) (w w' : World) : Prop where
  os : w'.os = w.os
  tape : w'.tape = w.tape
  output : w'.output = w.output
  size : w.heap.size ≤ w'.heap.size
  block : ∀ k, k < w.heap.size → ¬ F k → w'.heap[k]? = w.heap[k]?

theorem Moves.refl (F : Nat → Prop) (w : World) : Moves F w w := ⟨rfl, rfl, rfl, Nat.le_refl _, fun _ _ _ => rfl⟩
theorem Moves.trans {F G : Nat → Prop} {a b c : World} (h : Moves F a b) (k : Moves G b c) (hG : ∀ i, G i → F i ∨ a.heap.size ≤ i) : Moves F a c :=
  ⟨k.os.trans h.os, k.tape.trans h.tape, k.output.trans h.output, Nat.le_trans h.size k.size,
   fun i hi hn => (k.block i (Nat.lt_of_lt_of_le hi h.size) (fun hg => (hG i hg).elim hn (by omega))).trans (h.block i hi hn)⟩
theorem Moves.mono {F G : Nat → Prop} {a b : World} (h : Moves F a b) (hG : ∀ i, F i → G i) : Moves G a b :=
  ⟨h.os, h.tape, h.output, h.size, fun i hi hn => h.block i hi (fun hf => hn (hG i hf))⟩
theorem Moves.below {F : Nat → Prop} {a b : World} {B : Nat} (h : Moves F a b) (hB : B ≤ a.heap.size) (hF : ∀ i, F i → B ≤ i) : Below B a b :=
  ⟨h.os, h.tape, h.output, h.size, fun i hi => h.block i (by omega) (fun hf => by have := hF i hf; omega)⟩
theorem Moves.of_below {F : Nat → Prop} {a b : World} (h : Below a.heap.size a b) : Moves F a b := ⟨h.os, h.tape, h.output, h.size, fun i hi _ => h.block i hi⟩
theorem Moves.of_grown {F : Nat → Prop} {a b : World} {row : Option Nat} (h : a.grownBy b row) (hF : ∀ k, row = some k → F k) : Moves F a b :=
  ⟨h.os, h.tape, h.output, h.size, fun i hi hn => h.block i hi (fun e => hn (hF i e.symm))⟩
theorem Moves.setCell {F : Nat → Prop} {a w : World} (h : Moves F a w) {p : Addr} (hp : F p.block) (u : Value) : Moves F a (w.setCell p u) :=
  h.trans (G := F) ⟨rfl, rfl, rfl, by simp [World.setCell], fun k _ hk => Below.heap_setCell _ _ _ _ (fun e => hk (e ▸ hp))⟩ (fun _ h => Or.inl h)
theorem Moves.alloc {F : Nat → Prop} {a w : World} (h : Moves F a w) (o : Obj) : Moves F a (w.alloc o) :=
  h.trans (G := fun _ => False) ⟨rfl, rfl, rfl, by simp, fun k hk _ => Below.heap_alloc _ _ _ (by omega)⟩ (fun _ h => h.elim)
theorem Moves.drew {F : Nat → Prop} {a w : World} (h : Moves F a w) : Moves F a w.drew := ⟨h.os, h.tape, h.output, h.size, h.block⟩
theorem Moves.setCells {F : Nat → Prop} {a : World} {g : Nat} (hg : F g) : ∀ (vs : List Value) (o : Nat) {w : World}, Moves F a w → Moves F a (w.setCells g o vs)
  | [], _, _, h => h
  | v :: r, o, _, h => Moves.setCells hg r (o + 1) (h.setCell (p := ⟨g, o, none⟩) hg v)

theorem size_setCells (g : Nat) : ∀ (vs : List Value) (o : Nat) (w : World), (w.setCells g o vs).heap.size = w.heap.size
  | [], _, _ => rfl
  | v :: r, o, w => by
    rw [World.setCells, size_setCells g r]
    simp [World.setCell]
theorem block_setCells {g k : Nat} (h : k ≠ g) : ∀ (vs : List Value) (o : Nat) (w : World), (w.setCells g o vs).heap[k]? = w.heap[k]?
  | [], _, _ => rfl
  | v :: r, o, w => by
    rw [World.setCells, block_setCells h r, Below.heap_setCell _ _ _ _ h]

theorem rangeAt_block {w w' : World} {b o : Nat} {cs : List Value} (h : w.rangeAt b o cs) (hb : w'.heap[b]? = w.heap[b]?) : w'.rangeAt b o cs :=
  fun j v hv => (World.cell?_of_block (a := ⟨b, o + j, none⟩) hb).trans (h j v hv)
theorem there_block {w w' : World} {b o n : Nat} (h : w.there b o n) (hb : w'.heap[b]? = w.heap[b]?) : w'.there b o n := fun j hj => by
  rw [World.cell?_of_block (a := ⟨b, o + j, none⟩) hb, World.frozen?_of_block (a := ⟨b, o + j, none⟩) hb]
  exact h j hj

/-! ### Sectors -/

/-- The sectors l lie in block b, and may be written. -/
def Secs (w : World) (b : Nat) (l : List (List UInt8)) : Prop :=
  b < w.heap.size ∧ ∀ i (h : i < l.length), l[i].length = 32 ∧ w.rangeAt b (i * 32) (byteVals l[i]) ∧ w.there b (i * 32) 32

theorem Secs.kept {w w' : World} {b : Nat} {l : List (List UInt8)} (h : Secs w b l) (hb : w'.heap[b]? = w.heap[b]?) (hs : w.heap.size ≤ w'.heap.size) : Secs w' b l :=
  ⟨Nat.lt_of_lt_of_le h.1 hs, fun i hi => ⟨(h.2 i hi).1, rangeAt_block (h.2 i hi).2.1 hb, there_block (h.2 i hi).2.2 hb⟩⟩
theorem Secs.set {w : World} {b : Nat} {l : List (List UInt8)} (h : Secs w b l) {i : Nat} (_hi : i < l.length) {x : List UInt8} (hx : x.length = 32) : Secs (w.setCells b (i * 32) (byteVals x)) b (l.set i x) := by
  refine ⟨by rw [size_setCells]; exact h.1, fun j hj => ?_⟩
  have hj' : j < l.length := by simpa using hj
  obtain ⟨h1, h2, h3⟩ := h.2 j hj'
  by_cases e : i = j
  · subst e
    rw [List.getElem_set_self]
    exact ⟨hx, World.rangeAt_setCells_same _ _ _ _ (by rw [byteVals_length, hx]; exact h3), World.there_setCells h3 _ _ _⟩
  · rw [List.getElem_set_ne e]
    exact ⟨h1, World.rangeAt_setCells_apart h2 _ _ _ (by rw [byteVals_length, byteVals_length, hx, h1]; omega), World.there_setCells h3 _ _ _⟩

/-! ### Loose writes -/

def looseCells (l : List (Nat × List UInt8)) : List Value := (l.map fun p => Value.int .i64 (p.1 : Int) :: byteVals p.2).flatten
theorem looseCells_snoc (l : List (Nat × List UInt8)) (p : Nat × List UInt8) : looseCells (l ++ [p]) = looseCells l ++ (Value.int .i64 (p.1 : Int) :: byteVals p.2) := by
  simp [looseCells]
theorem looseCells_length {l : List (Nat × List UInt8)} (h : ∀ p ∈ l, p.2.length = 32) : (looseCells l).length = l.length * 33 := by
  induction l with
  | nil => rfl
  | cons p l ih =>
    have h1 := ih (fun q hq => h q (List.mem_cons_of_mem _ hq))
    have h2 := h p List.mem_cons_self
    simp only [looseCells, List.map_cons, List.flatten_cons, List.length_append, List.length_cons, byteVals_length] at h1 ⊢
    omega
theorem looseCells_at {l : List (Nat × List UInt8)} (h : ∀ p ∈ l, p.2.length = 32) (k : Nat) (hk : k < l.length) (j : Nat) (hj : j < 33) :
    (looseCells l)[k * 33 + j]? = (Value.int .i64 ((l[k].1 : Nat) : Int) :: byteVals l[k].2)[j]? := by
  induction l generalizing k with
  | nil => simp at hk
  | cons p l ih =>
    have h2 := h p List.mem_cons_self
    have hlen : (Value.int .i64 ((p.1 : Nat) : Int) :: byteVals p.2).length = 33 := by simp [byteVals_length, h2]
    simp only [looseCells, List.map_cons, List.flatten_cons]
    cases k with
    | zero => rw [List.getElem?_append_left (by omega), Nat.zero_mul, Nat.zero_add]; rfl
    | succ k =>
      rw [List.getElem?_append_right (by omega), hlen, show (k + 1) * 33 + j - 33 = k * 33 + j from by omega]
      exact ih (fun q hq => h q (List.mem_cons_of_mem _ hq)) k (by simpa using hk)

/-- The cells of one loose write. -/
theorem loose_range {w : World} {v : Value} {l : List (Nat × List UInt8)} {e : TypeId} (h : w.ownsRow 0 e 33 v l.length (looseCells l)) (hl : ∀ p ∈ l, p.2.length = 32) (k : Nat) (hk : k < l.length) :
    ∃ g cap, v = .slice (some ⟨g, 0, none⟩) l.length cap ∧ g < w.heap.size ∧ w.rangeAt g (k * 33) (Value.int .i64 ((l[k].1 : Nat) : Int) :: byteVals l[k].2) := by
  obtain ⟨g, cap, rfl, _, hg⟩ := h.form (by omega)
  refine ⟨g, cap, rfl, hg, fun j u hu => ?_⟩
  have hl2 := hl l[k] (List.getElem_mem hk)
  have hj : j < 33 := by
    have := (List.getElem?_eq_some_iff.1 hu).1
    simpa [byteVals_length, hl2] using this
  have := h.cells (g := g) rfl (k * 33 + j) u (by rw [looseCells_at hl k hk j hj]; exact hu)
  rwa [WideShapes.add_plain, Nat.zero_add] at this

/-! ### The disk -/

def diskCells (d : DSt) (s cs u cu : Nat) (v : Value) : Array Value :=
  #[.slice (some ⟨s, 0, none⟩) d.seen.length cs, .slice (some ⟨u, 0, none⟩) d.firm.length cu, v, .bool d.off, .bool d.armed, .int .i64 d.left]

/-- A disk lies at block a: with its sectors in blocks s and u, its loose writes in the row of v. -/
structure DiskAt (w : World) (F : Nat → Prop) (a : Nat) (d : DSt) (s cs u cu : Nat) (v : Value) : Prop where
  blk : w.heap[a]? = some (.cells (diskCells d s cs u cu v) 85 (0, 0))
  seen : Secs w s d.seen
  firm : Secs w u d.firm
  own : w.ownsRow 0 111 33 v d.loose.length (looseCells d.loose)
  caps : d.seen.length ≤ cs ∧ cs ≤ maxLen ∧ d.firm.length ≤ cu ∧ cu ≤ maxLen
  as_ : a ≠ s
  au : a ≠ u
  su : s ≠ u
  va : v.ownBlock ≠ some a
  vs : v.ownBlock ≠ some s
  vu : v.ownBlock ≠ some u
  fa : F a
  fs : F s
  fu : F u
  fv : ∀ k, v.ownBlock = some k → F k
  low : ∀ k, F k → k < w.heap.size

/-- At block a lies a disk that is right and holds d; all its memory is of F. -/
def IsDisk (w : World) (F : Nat → Prop) (a : Nat) (d : DSt) : Prop := d.Ok ∧ ∃ s cs u cu v, DiskAt w F a d s cs u cu v

theorem DiskAt.cell {w : World} {F : Nat → Prop} {a : Nat} {d : DSt} {s cs u cu : Nat} {v : Value} (h : DiskAt w F a d s cs u cu v) :
    w.cell? ⟨a, 0, none⟩ = some (.slice (some ⟨s, 0, none⟩) d.seen.length cs) ∧ w.cell? ⟨a, 1, none⟩ = some (.slice (some ⟨u, 0, none⟩) d.firm.length cu) ∧
    w.cell? ⟨a, 2, none⟩ = some v ∧ w.cell? ⟨a, 3, none⟩ = some (.bool d.off) ∧ w.cell? ⟨a, 4, none⟩ = some (.bool d.armed) ∧ w.cell? ⟨a, 5, none⟩ = some (.int .i64 d.left) := by
  refine ⟨?_, ?_, ?_, ?_, ?_, ?_⟩ <;> rw [Lib.cell_of_heap h.blk] <;> rfl
theorem DiskAt.frozen {w : World} {F : Nat → Prop} {a : Nat} {d : DSt} {s cs u cu : Nat} {v : Value} (h : DiskAt w F a d s cs u cu v) (j : Nat) : w.frozen? ⟨a, j, none⟩ = false := Lib.frozen_of_heap h.blk j

theorem DiskAt.kept {w w' : World} {F G : Nat → Prop} {a : Nat} {d : DSt} {s cs u cu : Nat} {v : Value} (h : DiskAt w F a d s cs u cu v) (hm : Moves G w w') (hF : ∀ k, G k → ¬ F k) : DiskAt w' F a d s cs u cu v := by
  have hb : ∀ k, F k → w'.heap[k]? = w.heap[k]? := fun k hk => hm.block k (h.low k hk) (fun hg => hF k hg hk)
  refine ⟨by rw [hb a h.fa]; exact h.blk, h.seen.kept (hb s h.fs) hm.size, h.firm.kept (hb u h.fu) hm.size, ?_, h.caps, h.as_, h.au, h.su, h.va, h.vs, h.vu, h.fa, h.fs, h.fu, h.fv, fun k hk => Nat.lt_of_lt_of_le (h.low k hk) hm.size⟩
  obtain ⟨h1, h2⟩ := h.own
  refine ⟨h1, h2.imp id ?_⟩
  rintro ⟨g, cap, cur, rfl, hb0, hg, hr⟩
  exact ⟨g, cap, cur, rfl, hb0, by rw [hb g (h.fv g rfl)]; exact hg, hr⟩

theorem IsDisk.kept {w w' : World} {F G : Nat → Prop} {a : Nat} {d : DSt} (h : IsDisk w F a d) (hm : Moves G w w') (hF : ∀ k, G k → ¬ F k) : IsDisk w' F a d := by
  obtain ⟨ho, s, cs, u, cu, v, h⟩ := h
  exact ⟨ho, s, cs, u, cu, v, h.kept hm hF⟩
theorem IsDisk.below {w w' : World} {F : Nat → Prop} {a : Nat} {d : DSt} (h : IsDisk w F a d) (hb : Below w.heap.size w w') : IsDisk w' F a d := h.kept (Moves.of_below (F := fun _ => False) hb) (fun _ h => h.elim)
theorem IsDisk.low {w : World} {F : Nat → Prop} {a : Nat} {d : DSt} (h : IsDisk w F a d) : ∀ k, F k → k < w.heap.size := by
  obtain ⟨_, s, cs, u, cu, v, h⟩ := h
  exact h.low

/-- What a call on a disk leaves: the disk's memory is what it was, or new. -/
def DiskEnd (w : World) (F : Nat → Prop) (a : Nat) (d : DSt) (v : Value) (e : Ending) (w' : World) : Prop :=
  e = .returned v ∧ Moves F w w' ∧ ∃ F', IsDisk w' F' a d ∧ ∀ k, F' k → F k ∨ w.heap.size ≤ k

theorem DiskEnd.same {w : World} {F : Nat → Prop} {a : Nat} {d : DSt} {v : Value} (h : IsDisk w F a d) : DiskEnd w F a d v (.returned v) w := ⟨rfl, Moves.refl _ _, F, h, fun _ h => Or.inl h⟩

end Go.Proofs.YtjeabnlmanfplaaGreatDoor
