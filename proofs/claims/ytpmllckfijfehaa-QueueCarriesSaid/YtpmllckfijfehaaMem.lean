/- Words for slices in memory: the cells of a slice lie where its address says ('Lies'), also those of a row of the call's own. No function of the program in sight. -/
import Derived.WalkKit
import Derived.Below
import Derived.Laws.OwnMore
import Derived.Deep.OwnRows
import Derived.Maps.AppendAt
import Derived.Deep.Draws
import Derived.Lib.Hide
namespace Go.Proofs.Ytpmllckfijfehaa
open Go.RowKit

/-- The cells cs lie where a slice's address says, below block B. -/
def Lies (w : World) (B : Nat) (A : Option Addr) (cs : List Value) : Prop :=
  cs = [] ∨ ∃ b off, A = some ⟨b, off, none⟩ ∧ b < B ∧ ∀ i, (h : i < cs.length) → w.cell? ⟨b, off + i, none⟩ = some cs[i]

theorem Lies.at_ {w : World} {B : Nat} {A : Option Addr} {cs : List Value} (h : Lies w B A cs) (hn : cs ≠ []) :
    ∃ b off, A = some ⟨b, off, none⟩ ∧ b < B ∧ ∀ i, (h : i < cs.length) → w.cell? ⟨b, off + i, none⟩ = some cs[i] := by
  rcases h with rfl | h
  · exact absurd rfl hn
  · exact h
theorem Lies.below {w w' : World} {B : Nat} {A : Option Addr} {cs : List Value} (h : Lies w B A cs) (hb : Below B w w') : Lies w' B A cs := by
  rcases h with h | ⟨b, off, hA, hlt, hc⟩
  · exact .inl h
  · exact .inr ⟨b, off, hA, hlt, fun i hi => (hb.cell (p := ⟨b, off + i, none⟩) hlt).trans (hc i hi)⟩
theorem Lies.more {w : World} {B B' : Nat} {A : Option Addr} {cs : List Value} (h : Lies w B A cs) (hB : B ≤ B') : Lies w B' A cs := by
  rcases h with h | ⟨b, off, hA, hlt, hc⟩
  · exact .inl h
  · exact .inr ⟨b, off, hA, by omega, hc⟩
theorem Lies.next {w w' : World} {A : Option Addr} {cs : List Value} (h : Lies w w.heap.size A cs) (hb : Below w.heap.size w w') : Lies w' w'.heap.size A cs := (h.below hb).more hb.size

/-- A row of the call's own, as such. -/
theorem own_lies {w : World} {base : Nat} {e : TypeId} {size : Nat} {v : Value} {n : Nat} {cs : List Value} (h : w.ownsRow base e size v n cs) :
    ∃ A c, v = .slice A n c ∧ cs.length = n * size ∧ Lies w w.heap.size A cs := by
  have hl := h.1
  rcases h.2 with ⟨rfl, rfl⟩ | ⟨g, cap, cur, rfl, hb, hg, hn, hm, hs, ht⟩
  · exact ⟨none, 0, rfl, hl, .inl (List.eq_nil_of_length_eq_zero (by omega))⟩
  · refine ⟨some ⟨g, 0, none⟩, cap, rfl, hl, .inr ⟨g, 0, rfl, ?_, fun i hi => ?_⟩⟩
    · exact (h.lt g rfl).2
    · have := h.cells (g := g) rfl i _ (List.getElem?_eq_getElem hi)
      rwa [WideShapes.add_plain] at this

theorem own_kept {w w' : World} {base : Nat} {e : TypeId} {size n : Nat} {v : Value} {xs : List Value} (h : w.ownsRow base e size v n xs) (hb : Below w.heap.size w w') : w'.ownsRow base e size v n xs :=
  h.kept (row := none) ⟨hb.os, hb.tape, hb.output, hb.size, fun i hi _ => hb.block i hi⟩ (by cases hv : v.ownBlock <;> simp)
end Go.Proofs.Ytpmllckfijfehaa
