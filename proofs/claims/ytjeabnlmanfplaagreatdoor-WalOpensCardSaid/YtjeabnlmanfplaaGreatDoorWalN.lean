/- Plain: the state that a slot holds; a part of a row. -/
import Derived.Test.YtjeabnlmanfplaaGreatDoorWalK
import Derived.IntWalk
import Derived.BigRegion
namespace Go.Proofs.YtjeabnlmanfplaaGreatDoor
open Go.RowKit

def stateOf (xs : List (List UInt8)) (slot gen len : Nat) : List UInt8 := (((xs.drop (gen % 2 * slot + 1)).take (secs len)).flatten).take len

theorem flatten_32 : ∀ (xs : List (List UInt8)), (∀ x ∈ xs, x.length = 32) → xs.flatten.length = 32 * xs.length
  | [], _ => rfl
  | x :: r, h => by
    rw [List.flatten_cons, List.length_append, h x List.mem_cons_self, flatten_32 r (fun y hy => h y (List.mem_cons_of_mem _ hy)), List.length_cons]
    omega
theorem Lies.part {w : World} {B : Nat} {g o : Nat} {cs : List Value} (h : Lies w B (some ⟨g, o, none⟩) cs) (k m : Nat) : Lies w B (some ⟨g, o + k, none⟩) ((cs.drop k).take m) := by
  by_cases hn : (cs.drop k).take m = []
  · exact .inl hn
  · have hcs : cs ≠ [] := by rintro rfl; simp at hn
    obtain ⟨b, off, hA, hb, hc⟩ := h.at_ hcs
    simp only [Option.some.injEq, Addr.mk.injEq, and_true] at hA
    obtain ⟨rfl, rfl⟩ := hA
    refine .inr ⟨g, o + k, rfl, hb, fun i hi => ?_⟩
    rw [List.length_take, List.length_drop] at hi
    have := hc (k + i) (by omega)
    rw [List.getElem_take, List.getElem_drop, Nat.add_assoc]
    exact this

theorem Lies.moves6 {w w' : World} {F : Nat → Prop} {A : Option Addr} {cs : List Value} (h : Lies w w.heap.size A cs) (hm : Moves F w w') (hn : ∀ b off, A = some ⟨b, off, none⟩ → ¬ F b) : Lies w' w'.heap.size A cs := by
  rcases h with h | ⟨b, off, hA, hlt, hc⟩
  · exact .inl h
  · exact .inr ⟨b, off, hA, Nat.lt_of_lt_of_le hlt hm.size, fun i hi => (World.cell?_of_block (a := ⟨b, off + i, none⟩) (hm.block b hlt (hn b off hA))).trans (hc i hi)⟩
end Go.Proofs.YtjeabnlmanfplaaGreatDoor
