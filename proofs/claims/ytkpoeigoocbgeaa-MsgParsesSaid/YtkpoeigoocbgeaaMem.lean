/- Words for slices in memory: the cells of a slice lie where its address says ('Lies'), also those of a row of the call's own. No function of the program in sight. Laws for single operations of a plain region whose run is known: build, alloc, store and load of an aggregate, copy of a text. No function of the program in sight. A region that draws its order, whose operations only read what was there, and whose callees leave what was there: walked once, in the order of the text. The class of worlds: all in which what was there is as it was ('LatW'). What a call leaves alone ('Moves'). No function of the program in sight. -/
import Derived.WalkKit
import Derived.Below
import Derived.Laws.OwnMore
import Derived.Deep.OwnRows
import Derived.Maps.AppendAt
import Derived.Deep.Draws
import Derived.Lib.Hide
import Derived.WalkSpells
import Derived.Deep.MidRow
import Derived.Deep.WholeRow
import Derived.Lib.LazyBuf
import Derived.Deep.QuietTactic
namespace Go.Proofs.Ytkpoeigoocbgeaa
open Go.RowKit

/-- The cells cs lie where a slice's address says, below block B. -/
def Lies (w : World) (B : Nat) (A : Option Addr) (cs : List Value) : Prop :=
  cs = [] ∨ ∃ b off, A = some ⟨b, off, none⟩ ∧ b < B ∧ ∀ i, (h : i < cs.length) → w.cell? ⟨b, off + i, none⟩ = some cs[i]

theorem Lies.at_ {w : World} {B : Nat} {A : Option Addr} {cs : List Value} (h : Lies w B A cs) (hn : cs ≠ []) :
    ∃ b off, A = some ⟨b, off, none⟩ ∧ b < B ∧ ∀ i, (h : i < cs.length) → w.cell? ⟨b, off + i, none⟩ = some cs[i] := by
  rcases h with rfl | h
  · exact absurd rfl hn
  · exact h
theorem Lies.below {w w' : World} {B : Nat} {A : Option Addr} {cs : List Value} (h : Lies w B A cs) (hb : Below B w w') : Lies w' B A cs := by
  rcases h with h | ⟨b, off, hA, hlt, hc⟩
  · exact .inl h
  · exact .inr ⟨b, off, hA, hlt, fun i hi => (hb.cell (p := ⟨b, off + i, none⟩) hlt).trans (hc i hi)⟩
theorem Lies.more {w : World} {B B' : Nat} {A : Option Addr} {cs : List Value} (h : Lies w B A cs) (hB : B ≤ B') : Lies w B' A cs := by
  rcases h with h | ⟨b, off, hA, hlt, hc⟩
  · exact .inl h
  · exact .inr ⟨b, off, hA, by omega, hc⟩
theorem Lies.next {w w' : World} {A : Option Addr} {cs : List Value} (h : Lies w w.heap.size A cs) (hb : Below w.heap.size w w') : Lies w' w'.heap.size A cs := (h.below hb).more hb.size

/-- A row of the call's own, as such. -/
theorem own_lies {w : World} {base : Nat} {e : TypeId} {size : Nat} {v : Value} {n : Nat} {cs : List Value} (h : w.ownsRow base e size v n cs) :
    ∃ A c, v = .slice A n c ∧ cs.length = n * size ∧ Lies w w.heap.size A cs := by
  have hl := h.1
  rcases h.2 with ⟨rfl, rfl⟩ | ⟨g, cap, cur, rfl, hb, hg, hn, hm, hs, ht⟩
  · exact ⟨none, 0, rfl, hl, .inl (List.eq_nil_of_length_eq_zero (by omega))⟩
  · refine ⟨some ⟨g, 0, none⟩, cap, rfl, hl, .inr ⟨g, 0, rfl, ?_, fun i hi => ?_⟩⟩
    · exact (h.lt g rfl).2
    · have := h.cells (g := g) rfl i _ (List.getElem?_eq_getElem hi)
      rwa [WideShapes.add_plain] at this

theorem own_kept {w w' : World} {base : Nat} {e : TypeId} {size n : Nat} {v : Value} {xs : List Value} (h : w.ownsRow base e size v n xs) (hb : Below w.heap.size w w') : w'.ownsRow base e size v n xs :=
  h.kept (row := none) ⟨hb.os, hb.tape, hb.output, hb.size, fun i hi _ => hb.block i hi⟩ (by cases hv : v.ownBlock <;> simp)
end Go.Proofs.Ytkpoeigoocbgeaa

namespace Go.Proofs.Ytkpoeigoocbgeaa
open Go.RowKit

theorem alloc_drew (w : World) (o : Obj) : w.drew.alloc o = (w.alloc o).drew := rfl
theorem drew_size (w : World) : w.drew.heap.size = w.heap.size := rfl
theorem drew_cell (w : World) (p : Addr) : w.drew.cell? p = w.cell? p := rfl
theorem drew_frozen (w : World) (p : Addr) : w.drew.frozen? p = w.frozen? p := rfl
theorem drew_heap (w : World) (k : Nat) : w.drew.heap[k]? = w.heap[k]? := rfl

section
variable {P : Program} {ops : Array Oper} {rest : List Oper} {o : Oper} {a : Act} {w : World} {Q : Exit → Act → World → Prop}

theorem wp_value {K : Act → World → Prop} (v : Value) (w' : World) (hrun : (execOp a.eval o).run P w = .ok (.value v) w') (h : K (a.put o.dst v) w') : o.wp P a w K Q := by
  unfold Oper.wp; rw [hrun]; exact h
theorem wp_skipped {K : Act → World → Prop} (w' : World) (hrun : (execOp a.eval o).run P w = .ok .skip w') (h : K (a.put o.dst undef) w') : o.wp P a w K Q := by
  unfold Oper.wp; rw [hrun]; exact h

theorem wpList_value (hg : o.guard = none) (v : Value) (w' : World) (hrun : (execOp a.eval o).run P w = .ok (.value v) w') (h : wpList P ops Q rest (a.put o.dst v) w') : wpList P ops Q (o :: rest) a w :=
  wpList_plain hg fun _ hK => by unfold Oper.wp; rw [hrun]; exact hK _ _ h
theorem wpList_skipped (hg : o.guard = none) (w' : World) (hrun : (execOp a.eval o).run P w = .ok .skip w') (h : wpList P ops Q rest (a.put o.dst undef) w') : wpList P ops Q (o :: rest) a w :=
  wpList_plain hg fun _ hK => by unfold Oper.wp; rw [hrun]; exact hK _ _ h

theorem wpList_build_known (hg : o.guard = none) (t : TypeId) (parts : Array (Nat × Operand)) (ho : o.op = .build t parts) (v : Value) (w' : World) (ps : Array (Nat × Value)) (hp : (parts.map fun (i, x) => (i, a.eval x)) = ps)
    (hrun : (Instr.build t ps).run P w = .ok v w') (h : wpList P ops Q rest (a.put o.dst v) w') : wpList P ops Q (o :: rest) a w := by
  refine wpList_value hg v w' ?_ h
  subst hp
  unfold execOp
  simp only [ho, Sem.run_bind, hrun, Result.andThen_ok, Sem.run_pure]

theorem wp_buildSlice_known {K : Act → World → Prop} (t : TypeId) (n : Nat) (parts : Array (Nat × Operand)) (ho : o.op = .buildSlice t n parts) (v : Value) (w' : World) (ps : Array (Nat × Value)) (hp : (parts.map fun (i, x) => (i, a.eval x)) = ps)
    (hrun : (Instr.buildSlice t n ps).run P w = .ok v w') (h : K (a.put o.dst v) w') : o.wp P a w K Q := by
  refine wp_value v w' ?_ h
  subst hp
  unfold execOp
  simp only [ho, Sem.run_bind, hrun, Result.andThen_ok, Sem.run_pure]

theorem run_loadAt_one {t : TypeId} {d : TypeDesc} {p : Addr} {v : Value} (hu : P.underlying t = some d) (hd : d.isRow = false) (hc : w.cell? p = some v) : (Instr.loadAt t (.pointer (some p))).run P w = .ok v w := by
  have hagg : (isAgg t).run P w = .ok false w := by
    unfold isAgg
    rw [Sem.run_bind, run_underlying hu w]
    cases d <;> simp_all [TypeDesc.isRow]
  simp [Instr.loadAt, Instr.sureAddr, loadVar, Sem.run_bind, hagg, hc]
theorem run_storeAt_one {t : TypeId} {p : Addr} {u v : Value} (hi : (P.info? t).map (·.size) = some 1) (hv : v.oneCell' = true) (hvc : v.cells = #[v]) (hc : w.cell? p = some u) (hf : w.frozen? p = false) :
    (Instr.storeAt t (.pointer (some p)) v).run P w = .ok () (w.setCell p v) := by
  cases hq : P.info? t with
  | none => simp [hq] at hi
  | some i =>
    simp [hq] at hi
    have hp : p.add 0 = p := by cases p; simp [Addr.add]
    simp [Instr.storeAt, Instr.sureAddr, storeVar, Sem.run_bind, sizeOf, typeInfo, hq, hi, hvc, storeCells, hp, run_store P w p v _ hv, hc, hf]

theorem wp_load_one {K : Act → World → Prop} (t : TypeId) (x : Operand) (ho : o.op = .load t x) {d : TypeDesc} (p : Addr) (v : Value) (hx : a.eval x = .pointer (some p)) (hu : P.underlying t = some d) (hd : d.isRow = false) (hc : w.cell? p = some v) (h : K (a.put o.dst v) w) : o.wp P a w K Q := by
  refine wp_value v w ?_ h
  unfold execOp
  simp only [ho, hx, Sem.run_bind, run_loadAt_one hu hd hc, Result.andThen_ok, Sem.run_pure]
theorem wp_store_one {K : Act → World → Prop} (t : TypeId) (x y : Operand) (ho : o.op = .store t x y) (p : Addr) (u v : Value) (hx : a.eval x = .pointer (some p)) (hy : a.eval y = v) (hi : (P.info? t).map (·.size) = some 1) (hv : v.oneCell' = true) (hvc : v.cells = #[v])
    (hc : w.cell? p = some u) (hf : w.frozen? p = false) (h : K (a.put o.dst undef) (w.setCell p v)) : o.wp P a w K Q := by
  refine wp_skipped _ ?_ h
  unfold execOp
  simp only [ho, hx, hy, Sem.run_bind, run_storeAt_one hi hv hvc hc hf, Result.andThen_ok, Sem.run_pure]

theorem wpList_alloc_known (hg : o.guard = none) (t : TypeId) (ho : o.op = .alloc t) (Z : Array Value) (hz : (zeroValue t).run P w = .ok (.agg Z) w)
    (h : wpList P ops Q rest (a.put o.dst (.pointer (some ⟨w.heap.size, 0, none⟩))) (w.alloc (.cells Z t))) : wpList P ops Q (o :: rest) a w := by
  refine wpList_value hg _ _ ?_ h
  unfold execOp
  simp [ho, Instr.alloc, hz, newVar, newRow, Value.cells]

theorem wpList_store_new (hg : o.guard = none) (t : TypeId) (x y : Operand) (ho : o.op = .store t x y) (w0 : World) (c c' : Array Value) (hw : w = w0.alloc (.cells c t)) (hx : a.eval x = .pointer (some ⟨w0.heap.size, 0, none⟩)) (hy : a.eval y = .agg c')
    (hi : (P.info? t).map (·.size) = some c'.size) (hs : c.size = c'.size) (h1 : c'.all (·.oneCell') = true)
    (h : wpList P ops Q rest (a.put o.dst undef) (w0.alloc (.cells c' t))) : wpList P ops Q (o :: rest) a w := by
  subst hw
  refine wpList_skipped hg _ ?_ h
  have := run_storeAt_new (P := P) w0 t c c' hi hs h1
  unfold execOp
  simp only [ho, hx, hy, Sem.run_bind, this, Result.andThen_ok, Sem.run_pure]

theorem wpList_copy_string (hg : o.guard = none) (d x : Operand) (dT sT : TypeId) (ho : o.op = Op.call { callee := Callee.builtin Builtin.copy, args := #[d, x], argTypes := #[dT, sT] })
    (elem : TypeId) (hu : P.underlying dT = some (.slice elem)) (hz : ∀ w, (Go.sizeOf elem).run P w = .ok 1 w)
    (b off dLen dCap : Nat) (hd : a.eval d = .slice (some ⟨b, off, none⟩) dLen dCap) (t : ByteArray) (hx : a.eval x = .string t) (hle : t.size ≤ dLen)
    (ht : w.there b off t.size)
    (h : wpList P ops Q rest (a.put o.dst (goInt t.size)) (w.setCells b off (t.data.toList.map fun x => Value.int .u8 (x.toNat : Int)))) : wpList P ops Q (o :: rest) a w := by
  have hrun := run_copy_string (P := P) w dT sT o.type elem b off dLen dCap t hu hz hle (fun j hj => (ht j hj).1) (fun j hj => (ht j hj).2)
  refine wpList_value hg _ _ ?_ h
  simp [execOp, ho, resolve, invoke, builtin, hd, hx, hrun, Result.andThen]
end
end Go.Proofs.Ytkpoeigoocbgeaa

namespace Go.Proofs.Ytkpoeigoocbgeaa
open Go.RowKit

/-- A later world: what was there is as it was. -/
structure LatW (w : World) where
  wd : World
  bel : Below w.heap.size w wd
instance (w : World) : Inhabited (LatW w) := ⟨⟨w, Below.refl _ _⟩⟩

theorem wp_region_later {P : Program} {id : Nat} {Q : Exit → Act → World → Prop} {a : Act} {w : World} {l : List Oper} (hm : P.follows .mixedOrders = true) (hB : Region.lexB .any l.toArray = true)
    (h : wpQuiet P l.toArray (fun w' => ∃ p : LatW w, w' = p.wd) (fun a' => ∀ w', (∃ p : LatW w, w' = p.wd) → Q .normal a' w') l a) : (Code.region id l.toArray true).wp P Q a w :=
  wp_region_quiet (C := fun w' => ∃ p : LatW w, w' = p.wd) hm hB ⟨⟨w.drew, (Below.refl _ _).drew⟩, rfl⟩ (by simpa using h)
theorem Calls.later_of {P : Program} {f : FuncId} {args : Array Value} {w : World} {v : Value} {p : LatW w}
    (h : Calls P f args p.wd fun e w' => e = .returned v ∧ Below p.wd.heap.size p.wd w') : Calls P f args p.wd fun e w'' => e = .returned v ∧ ∃ p' : LatW w, w'' = p'.wd :=
  h.mono fun _ w' ⟨he, hb⟩ => ⟨he, ⟨w', p.bel.trans (hb.mono p.bel.size)⟩, rfl⟩
theorem Calls.later_same {P : Program} {f : FuncId} {args : Array Value} {w : World} {v : Value} {p : LatW w}
    (h : Calls P f args p.wd fun e w' => e = .returned v ∧ p.wd = w') : Calls P f args p.wd fun e w'' => e = .returned v ∧ ∃ p' : LatW w, w'' = p'.wd :=
  h.mono fun _ _ ⟨he, hb⟩ => ⟨he, p, hb.symm⟩
theorem LatW.cell {w : World} (p : LatW w) {b o : Nat} {v : Value} (h : w.cell? ⟨b, o, none⟩ = some v) (hb : b < w.heap.size) : p.wd.cell? ⟨b, o, none⟩ = some v := (p.bel.cell (p := ⟨b, o, none⟩) hb).trans h
theorem heap_new (w : World) (o : Obj) : (w.alloc o).heap[w.heap.size]? = some o := by show (w.heap.push _)[w.heap.size]? = _; simp
theorem below_one (w : World) (o : Obj) : Below w.heap.size w (w.alloc o) := (Below.refl _ _).alloc (Nat.le_refl _) _
theorem LatW.far {w V : World} (hb : Below w.heap.size w V) (z : LatW V) {b o : Nat} {v : Value} (h : w.cell? ⟨b, o, none⟩ = some v) (hlt : b < w.heap.size) : z.wd.cell? ⟨b, o, none⟩ = some v := (z.bel.cell (p := ⟨b, o, none⟩) (Nat.lt_of_lt_of_le hlt hb.size)).trans ((hb.cell (p := ⟨b, o, none⟩) hlt).trans h)
/-- What a call answers in each later world, and that it leaves a later one. -/
def LatCalls (P : Program) (V : World) (f : FuncId) (args : Array Value) (v : Value) : Prop := ∀ z : LatW V, Calls P f args z.wd fun e w' => e = .returned v ∧ ∃ z' : LatW V, w' = z'.wd
theorem LatCalls.of {P : Program} {V : World} {f : FuncId} {args : Array Value} {v : Value} (h : ∀ z : LatW V, Calls P f args z.wd fun e w' => e = .returned v ∧ Below z.wd.heap.size z.wd w') : LatCalls P V f args v := fun z => Calls.later_of (h z)
theorem LatCalls.at_ {P : Program} {V : World} {f : FuncId} {args : Array Value} {v : Value} (h : LatCalls P V f args v) (z : LatW V) : Calls P f args z.wd fun e w' => e = .returned v ∧ ∃ z' : LatW V, w' = z'.wd := h z
theorem LatW.start (V : World) : ∃ z : LatW V, z.wd = V := ⟨⟨V, Below.refl _ _⟩, rfl⟩
theorem LatW.drawn {V : World} (z : LatW V) : ∃ z' : LatW V, z.wd.drew = z'.wd := ⟨⟨z.wd.drew, z.bel.drew⟩, rfl⟩
theorem lat_end {w V : World} (h : Below w.heap.size w V) (z : LatW V) : Below w.heap.size w z.wd := h.trans (z.bel.mono h.size)
theorem LatW.later {V : World} (z : LatW V) {w : World} (h : Below z.wd.heap.size z.wd w) : ∃ z' : LatW V, w = z'.wd := ⟨⟨w, z.bel.trans (h.mono z.bel.size)⟩, rfl⟩
theorem LatW.made {V : World} (z : LatW V) (o : Obj) : ∃ z' : LatW V, z.wd.alloc o = z'.wd := z.later (below_one _ _)
end Go.Proofs.Ytkpoeigoocbgeaa

namespace Go.Proofs.Ytkpoeigoocbgeaa
open Go.RowKit

/-- All but the blocks of F is as it was. -/
structure Moves (F : Nat → Prop) (w w' : World) : Prop where
  os : w'.os = w.os
  tape : w'.tape = w.tape
  output : w'.output = w.output
  size : w.heap.size ≤ w'.heap.size
  block : ∀ k, k < w.heap.size → ¬ F k → w'.heap[k]? = w.heap[k]?

theorem Moves.refl (F : Nat → Prop) (w : World) : Moves F w w := ⟨rfl, rfl, rfl, Nat.le_refl _, fun _ _ _ => rfl⟩
theorem Moves.trans {F G : Nat → Prop} {a b c : World} (h : Moves F a b) (k : Moves G b c) (hG : ∀ i, G i → F i ∨ a.heap.size ≤ i) : Moves F a c :=
  ⟨k.os.trans h.os, k.tape.trans h.tape, k.output.trans h.output, Nat.le_trans h.size k.size,
   fun i hi hn => (k.block i (Nat.lt_of_lt_of_le hi h.size) (fun hg => (hG i hg).elim hn (by omega))).trans (h.block i hi hn)⟩
theorem Moves.mono {F G : Nat → Prop} {a b : World} (h : Moves F a b) (hG : ∀ i, F i → G i) : Moves G a b :=
  ⟨h.os, h.tape, h.output, h.size, fun i hi hn => h.block i hi (fun hf => hn (hG i hf))⟩
theorem Moves.below {F : Nat → Prop} {a b : World} {B : Nat} (h : Moves F a b) (hB : B ≤ a.heap.size) (hF : ∀ i, F i → B ≤ i) : Below B a b :=
  ⟨h.os, h.tape, h.output, h.size, fun i hi => h.block i (by omega) (fun hf => by have := hF i hf; omega)⟩
theorem Moves.of_below {F : Nat → Prop} {a b : World} (h : Below a.heap.size a b) : Moves F a b := ⟨h.os, h.tape, h.output, h.size, fun i hi _ => h.block i hi⟩
theorem Moves.of_grown {F : Nat → Prop} {a b : World} {row : Option Nat} (h : a.grownBy b row) (hF : ∀ k, row = some k → F k) : Moves F a b :=
  ⟨h.os, h.tape, h.output, h.size, fun i hi hn => h.block i hi (fun e => hn (hF i e.symm))⟩
theorem Moves.setCell {F : Nat → Prop} {a w : World} (h : Moves F a w) {p : Addr} (hp : F p.block) (u : Value) : Moves F a (w.setCell p u) :=
  h.trans (G := F) ⟨rfl, rfl, rfl, by simp [World.setCell], fun k _ hk => Below.heap_setCell _ _ _ _ (fun e => hk (e ▸ hp))⟩ (fun _ h => Or.inl h)
theorem Moves.alloc {F : Nat → Prop} {a w : World} (h : Moves F a w) (o : Obj) : Moves F a (w.alloc o) :=
  h.trans (G := fun _ => False) ⟨rfl, rfl, rfl, by simp, fun k hk _ => Below.heap_alloc _ _ _ (by omega)⟩ (fun _ h => h.elim)
theorem Moves.drew {F : Nat → Prop} {a w : World} (h : Moves F a w) : Moves F a w.drew := ⟨h.os, h.tape, h.output, h.size, h.block⟩
/-- A row of cells stays where only other blocks turn. -/
theorem Lies.moves {F : Nat → Prop} {w w' : World} {B : Nat} {A : Option Addr} {cs : List Value} (h : Lies w B A cs) (hm : Moves F w w') (hF : ∀ b off, A = some ⟨b, off, none⟩ → cs ≠ [] → ¬ F b) : Lies w' B A cs := by
  rcases h with h | ⟨b, off, hA, hlt, hc⟩
  · exact .inl h
  · by_cases hn : cs = []
    · exact .inl hn
    · refine .inr ⟨b, off, hA, hlt, fun i hi => ?_⟩
      have hbw : b < w.heap.size := World.block_lt_of_cell? w _ (hc i hi)
      have e := hm.block b hbw (hF b off hA hn)
      rw [World.cell?_of_block (w := w) (a := ⟨b, off + i, none⟩) e]
      exact hc i hi
end Go.Proofs.Ytkpoeigoocbgeaa
