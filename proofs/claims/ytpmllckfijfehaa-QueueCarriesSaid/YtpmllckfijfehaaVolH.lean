/- Contract of slices.Insert of one volume, ahead of the end. -/
import Derived.Test.YtpmllckfijfehaaVolG
namespace Go.Proofs.Ytpmllckfijfehaa
open Go.RowKit

theorem size_setCells (g : Nat) : ∀ (vs : List Value) (o : Nat) (w : World), (w.setCells g o vs).heap.size = w.heap.size
  | [], _, _ => rfl
  | v :: r, o, w => by
    rw [World.setCells, size_setCells g r]
    simp [World.setCell]
theorem block_setCells {g k : Nat} (h : k ≠ g) : ∀ (vs : List Value) (o : Nat) (w : World), (w.setCells g o vs).heap[k]? = w.heap[k]?
  | [], _, _ => rfl
  | v :: r, o, w => by
    rw [World.setCells, block_setCells h r, Below.heap_setCell _ _ _ _ h]
theorem os_setCells (g : Nat) : ∀ (vs : List Value) (o : Nat) (w : World), (w.setCells g o vs).os = w.os ∧ (w.setCells g o vs).tape = w.tape ∧ (w.setCells g o vs).output = w.output
  | [], _, _ => ⟨rfl, rfl, rfl⟩
  | v :: r, o, w => by rw [World.setCells]; exact os_setCells g r _ _
theorem grown_setCells {w w' : World} {g : Nat} (h : w.grownBy w' (some g)) (o : Nat) (vs : List Value) : w.grownBy (w'.setCells g o vs) (some g) :=
  ⟨(os_setCells g vs o w').1.trans h.os, (os_setCells g vs o w').2.1.trans h.tape, (os_setCells g vs o w').2.2.trans h.output, by rw [size_setCells]; exact h.size,
   fun k hk hne => (block_setCells (fun e => hne (by rw [e])) vs o w').trans (h.block k hk hne)⟩
theorem grown_drew {w w' : World} {row : Option Nat} (h : w.grownBy w' row) : w.grownBy w'.drew row := ⟨h.os, h.tape, h.output, h.size, h.block⟩
theorem grown_refl (w : World) (row : Option Nat) : w.grownBy w row := ⟨rfl, rfl, rfl, Nat.le_refl _, fun _ _ _ => rfl⟩

/-- A row of which the tail is moved up, and news laid in. -/
theorem row_shift {w : World} {g i : Nat} {xs news : List Value} (hx : ∀ j u, xs[j]? = some u → w.cell? ⟨g, j, none⟩ = some u) (hs : ∀ j, j < xs.length + news.length → (w.cell? ⟨g, j, none⟩).isSome = true) (hi : i ≤ xs.length) :
    ∀ j u, (xs.take i ++ news ++ xs.drop i)[j]? = some u → ((w.setCells g (i + news.length) (xs.drop i)).setCells g i news).cell? ⟨g, j, none⟩ = some u := by
  intro j u hu
  have h1 : ∀ t, t < (xs.drop i).length → (w.cell? ⟨g, i + news.length + t, none⟩).isSome = true := fun t ht => hs _ (by rw [List.length_drop] at ht; omega)
  have hlen : (xs.take i).length = i := by rw [List.length_take]; omega
  by_cases c1 : j < i
  · rw [World.cell?_setCells_out g news i _ ⟨g, j, none⟩ (fun _ _ => Or.inl c1), World.cell?_setCells_out g _ _ _ ⟨g, j, none⟩ (fun _ _ => Or.inl (by show j < i + news.length; omega))]
    rw [List.append_assoc, List.getElem?_append_left (by omega), List.getElem?_take, if_pos c1] at hu
    exact hx j u hu
  · by_cases c2 : j < i + news.length
    · have := World.cell?_setCells_in g news i (w.setCells g (i + news.length) (xs.drop i)) (fun t ht => by
        rw [World.cell?_setCells_out g _ _ _ ⟨g, i + t, none⟩ (fun _ _ => Or.inl (by show i + t < i + news.length; omega))]
        exact hs _ (by omega)) (j - i) (by omega)
      rw [show i + (j - i) = j from by omega] at this
      rw [this]
      rw [List.append_assoc, List.getElem?_append_right (by omega), hlen, List.getElem?_append_left (by omega)] at hu
      rw [← hu, List.getElem?_eq_getElem]
    · rw [World.cell?_setCells_out g news i _ ⟨g, j, none⟩ (fun _ _ => Or.inr (by show i + news.length ≤ j; omega))]
      rw [List.getElem?_append_right (by rw [List.length_append, hlen]; omega), List.length_append, hlen] at hu
      have hj := (List.getElem?_eq_some_iff.1 hu).1
      have := World.cell?_setCells_in g (xs.drop i) (i + news.length) w h1 (j - (i + news.length)) hj
      rw [show i + news.length + (j - (i + news.length)) = j from by omega] at this
      rw [this, ← hu, List.getElem?_eq_getElem]

end Go.Proofs.Ytpmllckfijfehaa
