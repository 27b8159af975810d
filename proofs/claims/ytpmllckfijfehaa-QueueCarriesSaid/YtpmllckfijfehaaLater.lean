/- A region that draws its order, whose operations only read what was there, and whose callees leave what was there: walked once, in the order of the text. The class of worlds: all in which what was there is as it was ('LatW'). -/
import Derived.Test.YtpmllckfijfehaaMem
import Derived.Deep.QuietTactic
namespace Go.Proofs.Ytpmllckfijfehaa
open Go.RowKit

/-- A later world: what was there is as it was. -/
structure LatW (w : World) where
  wd : World
  bel : Below w.heap.size w wd
instance (w : World) : Inhabited (LatW w) := ⟨⟨w, Below.refl _ _⟩⟩

theorem wp_region_later {P : Program} {id : Nat} {Q : Exit → Act → World → Prop} {a : Act} {w : World} {l : List Oper} (hm : P.follows .mixedOrders = true) (hB : Region.lexB .any l.toArray = true)
    (h : wpQuiet P l.toArray (fun w' => ∃ p : LatW w, w' = p.wd) (fun a' => ∀ w', (∃ p : LatW w, w' = p.wd) → Q .normal a' w') l a) : (Code.region id l.toArray true).wp P Q a w :=
  wp_region_quiet (C := fun w' => ∃ p : LatW w, w' = p.wd) hm hB ⟨⟨w.drew, (Below.refl _ _).drew⟩, rfl⟩ (by simpa using h)
theorem Calls.later_of {P : Program} {f : FuncId} {args : Array Value} {w : World} {v : Value} {p : LatW w}
    (h : Calls P f args p.wd fun e w' => e = .returned v ∧ Below p.wd.heap.size p.wd w') : Calls P f args p.wd fun e w'' => e = .returned v ∧ ∃ p' : LatW w, w'' = p'.wd :=
  h.mono fun _ w' ⟨he, hb⟩ => ⟨he, ⟨w', p.bel.trans (hb.mono p.bel.size)⟩, rfl⟩
theorem Calls.later_same {P : Program} {f : FuncId} {args : Array Value} {w : World} {v : Value} {p : LatW w}
    (h : Calls P f args p.wd fun e w' => e = .returned v ∧ p.wd = w') : Calls P f args p.wd fun e w'' => e = .returned v ∧ ∃ p' : LatW w, w'' = p'.wd :=
  h.mono fun _ _ ⟨he, hb⟩ => ⟨he, p, hb.symm⟩
theorem LatW.cell {w : World} (p : LatW w) {b o : Nat} {v : Value} (h : w.cell? ⟨b, o, none⟩ = some v) (hb : b < w.heap.size) : p.wd.cell? ⟨b, o, none⟩ = some v := (p.bel.cell (p := ⟨b, o, none⟩) hb).trans h
theorem heap_new (w : World) (o : Obj) : (w.alloc o).heap[w.heap.size]? = some o := by show (w.heap.push _)[w.heap.size]? = _; simp
theorem below_one (w : World) (o : Obj) : Below w.heap.size w (w.alloc o) := (Below.refl _ _).alloc (Nat.le_refl _) _
theorem LatW.far {w V : World} (hb : Below w.heap.size w V) (z : LatW V) {b o : Nat} {v : Value} (h : w.cell? ⟨b, o, none⟩ = some v) (hlt : b < w.heap.size) : z.wd.cell? ⟨b, o, none⟩ = some v := (z.bel.cell (p := ⟨b, o, none⟩) (Nat.lt_of_lt_of_le hlt hb.size)).trans ((hb.cell (p := ⟨b, o, none⟩) hlt).trans h)
/-- What a call answers in each later world, and that it leaves a later one. -/
def LatCalls (P : Program) (V : World) (f : FuncId) (args : Array Value) (v : Value) : Prop := ∀ z : LatW V, Calls P f args z.wd fun e w' => e = .returned v ∧ ∃ z' : LatW V, w' = z'.wd
theorem LatCalls.of {P : Program} {V : World} {f : FuncId} {args : Array Value} {v : Value} (h : ∀ z : LatW V, Calls P f args z.wd fun e w' => e = .returned v ∧ Below z.wd.heap.size z.wd w') : LatCalls P V f args v := fun z => Calls.later_of (h z)
theorem LatCalls.at_ {P : Program} {V : World} {f : FuncId} {args : Array Value} {v : Value} (h : LatCalls P V f args v) (z : LatW V) : Calls P f args z.wd fun e w' => e = .returned v ∧ ∃ z' : LatW V, w' = z'.wd := h z
theorem LatW.start (V : World) : ∃ z : LatW V, z.wd = V := ⟨⟨V, Below.refl _ _⟩, rfl⟩
theorem LatW.drawn {V : World} (z : LatW V) : ∃ z' : LatW V, z.wd.drew = z'.wd := ⟨⟨z.wd.drew, z.bel.drew⟩, rfl⟩
theorem lat_end {w V : World} (h : Below w.heap.size w V) (z : LatW V) : Below w.heap.size w z.wd := h.trans (z.bel.mono h.size)
theorem LatW.later {V : World} (z : LatW V) {w : World} (h : Below z.wd.heap.size z.wd w) : ∃ z' : LatW V, w = z'.wd := ⟨⟨w, z.bel.trans (h.mono z.bel.size)⟩, rfl⟩
theorem LatW.made {V : World} (z : LatW V) (o : Obj) : ∃ z' : LatW V, z.wd.alloc o = z'.wd := z.later (below_one _ _)
end Go.Proofs.Ytpmllckfijfehaa
