/- What a call leaves alone ('Moves'). No function of the program in sight. -/
import Derived.Test.YtpmllckfijfehaaMem
namespace Go.Proofs.Ytpmllckfijfehaa
open Go.RowKit

/-- All but the blocks of F is as it was. -/
structure Moves (F : Nat → Prop) (w w' : World) : Prop where
  os : w'.os = w.os
  tape : w'.tape = w.tape
  output : w'.output = w.output
  size : w.heap.size ≤ w'.heap.size
  block : ∀ k, k < w.heap.size → ¬ F k → w'.heap[k]? = w.heap[k]?

theorem Moves.refl (F : Nat → Prop) (w : World) : Moves F w w := ⟨rfl, rfl, rfl, Nat.le_refl _, fun _ _ _ => rfl⟩
theorem Moves.trans {F G : Nat → Prop} {a b c : World} (h : Moves F a b) (k : Moves G b c) (hG : ∀ i, G i → F i ∨ a.heap.size ≤ i) : Moves F a c :=
  ⟨k.os.trans h.os, k.tape.trans h.tape, k.output.trans h.output, Nat.le_trans h.size k.size,
   fun i hi hn => (k.block i (Nat.lt_of_lt_of_le hi h.size) (fun hg => (hG i hg).elim hn (by omega))).trans (h.block i hi hn)⟩
theorem Moves.mono {F G : Nat → Prop} {a b : World} (h : Moves F a b) (hG : ∀ i, F i → G i) : Moves G a b :=
  ⟨h.os, h.tape, h.output, h.size, fun i hi hn => h.block i hi (fun hf => hn (hG i hf))⟩
theorem Moves.below {F : Nat → Prop} {a b : World} {B : Nat} (h : Moves F a b) (hB : B ≤ a.heap.size) (hF : ∀ i, F i → B ≤ i) : Below B a b :=
  ⟨h.os, h.tape, h.output, h.size, fun i hi => h.block i (by omega) (fun hf => by have := hF i hf; omega)⟩
theorem Moves.of_below {F : Nat → Prop} {a b : World} (h : Below a.heap.size a b) : Moves F a b := ⟨h.os, h.tape, h.output, h.size, fun i hi _ => h.block i hi⟩
theorem Moves.of_grown {F : Nat → Prop} {a b : World} {row : Option Nat} (h : a.grownBy b row) (hF : ∀ k, row = some k → F k) : Moves F a b :=
  ⟨h.os, h.tape, h.output, h.size, fun i hi hn => h.block i hi (fun e => hn (hF i e.symm))⟩
theorem Moves.setCell {F : Nat → Prop} {a w : World} (h : Moves F a w) {p : Addr} (hp : F p.block) (u : Value) : Moves F a (w.setCell p u) :=
  h.trans (G := F) ⟨rfl, rfl, rfl, by simp [World.setCell], fun k _ hk => Below.heap_setCell _ _ _ _ (fun e => hk (e ▸ hp))⟩ (fun _ h => Or.inl h)
theorem Moves.alloc {F : Nat → Prop} {a w : World} (h : Moves F a w) (o : Obj) : Moves F a (w.alloc o) :=
  h.trans (G := fun _ => False) ⟨rfl, rfl, rfl, by simp, fun k hk _ => Below.heap_alloc _ _ _ (by omega)⟩ (fun _ h => h.elim)
theorem Moves.drew {F : Nat → Prop} {a w : World} (h : Moves F a w) : Moves F a w.drew := ⟨h.os, h.tape, h.output, h.size, h.block⟩
/-- A row of cells stays where only other blocks turn. -/
theorem Lies.moves {F : Nat → Prop} {w w' : World} {B : Nat} {A : Option Addr} {cs : List Value} (h : Lies w B A cs) (hm : Moves F w w') (hF : ∀ b off, A = some ⟨b, off, none⟩ → cs ≠ [] → ¬ F b) : Lies w' B A cs := by
  rcases h with h | ⟨b, off, hA, hlt, hc⟩
  · exact .inl h
  · by_cases hn : cs = []
    · exact .inl hn
    · refine .inr ⟨b, off, hA, hlt, fun i hi => ?_⟩
      have hbw : b < w.heap.size := World.block_lt_of_cell? w _ (hc i hi)
      have e := hm.block b hbw (hF b off hA hn)
      rw [World.cell?_of_block (w := w) (a := ⟨b, off + i, none⟩) e]
      exact hc i hi
end Go.Proofs.Ytpmllckfijfehaa
