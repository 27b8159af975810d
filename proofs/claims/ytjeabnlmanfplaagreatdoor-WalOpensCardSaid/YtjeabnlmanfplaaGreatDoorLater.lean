/- A region that draws its order, whose operations only read what was there, and whose callees leave what was there: walked once, in the order of the text. The class of worlds: all in which what was there is as it was ('LatW'). -/
import Derived.Test.YtjeabnlmanfplaaGreatDoorMem
import Derived.Deep.QuietTactic
namespace Go.Proofs.YtjeabnlmanfplaaGreatDoor
open Go.RowKit

/-- A later world: what was there is as it was. -/
structure LatW (w : World) where
  wd : World
  bel : Below w.heap.size w wd
instance (w : World) : Inhabited (LatW w) := ⟨⟨w, Below.refl _ _⟩⟩

theorem wp_region_later {P : Program} {id : Nat} {Q : Exit → Act → World → Prop} {a : Act} {w : World} {l : List Oper} (hm : P.follows .mixedOrders = true) (hB : Region.lexB .any l.toArray = true)
    (h : wpQuiet P l.toArray (fun w' => ∃ p : LatW w, w' = p.wd) (fun a' => ∀ w', (∃ p : LatW w, w' = p.wd) → Q .normal a' w') l a) : (Code.region id l.toArray true).wp P Q a w :=
  wp_region_quiet (C := fun w' => ∃ p : LatW w, w' = p.wd) hm hB ⟨⟨w.drew, (Below.refl _ _).drew⟩, rfl⟩ (by simpa using h)
theorem Calls.later_of {P : Program} {f : FuncId} {args : Array Value} {w : World} {v : Value} {p : LatW w}
    (h : Calls P f args p.wd fun e w' => e = .returned v ∧ Below p.wd.heap.size p.wd w') : Calls P f args p.wd fun e w'' => e = .returned v ∧ ∃ p' : LatW w, w'' = p'.wd :=
  h.mono fun _ w' ⟨he, hb⟩ => ⟨he, ⟨w', p.bel.trans (hb.mono p.bel.size)⟩, rfl⟩
theorem Calls.later_same {P : Program} {f : FuncId} {args : Array Value} {w : World} {v : Value} {p : LatW w}
    (h : Calls P f args p.wd fun e w' => e = .returned v ∧ p.wd = w') : Calls P f args p.wd fun e w'' => e = .returned v ∧ ∃ p' : LatW w, w'' = p'.wd :=
  h.mono fun _ _ ⟨he, hb⟩ => ⟨he, p, hb.symm⟩
theorem LatW.cell {w : World} (p : LatW w) {b o : Nat} {v : Value} (h : w.cell? ⟨b, o, none⟩ = some v) (hb : b < w.heap.size) : p.wd.cell? ⟨b, o, none⟩ = some v := (p.bel.cell (p := ⟨b, o, none⟩) hb).trans h
end Go.Proofs.YtjeabnlmanfplaaGreatDoor
