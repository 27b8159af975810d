/- How the document's answer builds a list of volumes, one volume behind the other, block by block. -/
import Derived.Test.YthajgoigmkkbgaaVolK
namespace Go.Proofs.Ythajgoigmkkbgaa
open Go.RowKit

/-- Volumes that have been built: the row of the volumes is v, the rows of their blocks are us. -/
structure OwnO (w : World) (base : Nat) (v : Value) (vs : List Vl) (us : List Value) : Prop where
  len : us.length = vs.length
  row : w.ownsRow base 83 2 v vs.length (volCells vs us)
  each : ∀ p ∈ vs.zip us, w.ownsRow base 9 1 p.2 p.1.2.length (p.1.2.map Value.string)
  gap : ∀ u ∈ us, ∀ k, u.ownBlock = some k → v.ownBlock ≠ some k ∧ k < w.heap.size

theorem OwnO.none_ (w : World) (base : Nat) : OwnO w base (.slice none 0 0) [] [] := ⟨rfl, by simpa [volCells] using World.ownsRow_nil _ _ _ _, by simp, by simp⟩
theorem OwnO.kept {w w' : World} {base : Nat} {v : Value} {vs : List Vl} {us : List Value} (h : OwnO w base v vs us) (hb : Below w.heap.size w w') : OwnO w' base v vs us :=
  ⟨h.len, own_kept h.row hb, fun p hp => own_kept (h.each p hp) hb, fun u hu k hk => ⟨(h.gap u hu k hk).1, by have := (h.gap u hu k hk).2; have := hb.size; omega⟩⟩
theorem OwnO.vols {w : World} {base : Nat} {v : Value} {vs : List Vl} {us : List Value} (h : OwnO w base v vs us) : ∃ A c, v = .slice A vs.length c ∧ VolsAt w w.heap.size A vs := by
  obtain ⟨A, c, rfl, _, hl⟩ := own_lies h.row
  exact ⟨A, c, rfl, VolsAt.of_zip h.len hl (fun p hp => own_texts (h.each p hp))⟩
theorem OwnO.oneCells {w : World} {base : Nat} {v : Value} {vs : List Vl} {us : List Value} (h : OwnO w base v vs us) : ∀ u ∈ volCells vs us, u.oneCell' = true :=
  volCells_one (fun u hu => by
    obtain ⟨i, hi, rfl⟩ := List.getElem_of_mem hu
    have := zip_mem_at (l := vs) (m := us) (by rw [← h.len]; exact hi) hi
    exact (own_texts (h.each _ this)).one)

/-- One volume more. -/
theorem OwnO.more {w w3 : World} {base g cap : Nat} {v u : Value} {vs : List Vl} {us : List Value} {id : Int} {bs : List ByteArray} (h : OwnO w base v vs us)
    (hu : w.ownsRow base 9 1 u bs.length (bs.map Value.string)) (hne : ∀ k, u.ownBlock = some k → v.ownBlock ≠ some k)
    (ho : w3.ownsRow base 83 2 (.slice (some ⟨g, 0, none⟩) (vs.length + 1) cap) (vs.length + 1) (volCells vs us ++ [.int .i64 id, u]))
    (hg : (w.alloc (.cells #[.int .i64 id, u] 83)).grownBy w3 v.ownBlock) (hat : v.ownBlock = some g ∨ g = w.heap.size + 1) :
    OwnO w3 base (.slice (some ⟨g, 0, none⟩) (vs.length + 1) cap) (vs ++ [(id, bs)]) (us ++ [u]) := by
  have hz : w.heap.size + 1 ≤ w3.heap.size := by have := hg.size; simpa using this
  have hub : ∀ k, u.ownBlock = some k → k < w.heap.size := fun k hk => (hu.lt k hk).2
  have hgd : ∀ k, (v.ownBlock ≠ some k) → k < w.heap.size → g ≠ k := fun k h1 h2 e => by
    subst e
    rcases hat with h3 | h3
    · exact h1 h3
    · omega
  refine ⟨by simp [h.len], ?_, fun p hp => ?_, fun x hx k hk => ?_⟩
  · rw [volCells_append h.len, List.length_append]; exact ho
  · rw [List.zip_append h.len.symm] at hp
    rcases List.mem_append.1 hp with hp | hp
    · refine ((h.each p hp).alloc _).kept hg ?_
      cases hq : p.2.ownBlock with
      | none => exact Or.inl rfl
      | some b =>
        have hpu : p.2 ∈ us := (List.of_mem_zip hp).2
        exact Or.inr (fun e => (h.gap _ hpu b hq).1 e.symm)
    · simp only [List.zip_cons_cons, List.zip_nil_right, List.mem_singleton] at hp
      subst hp
      refine (hu.alloc _).kept hg ?_
      cases hq : u.ownBlock with
      | none => exact Or.inl rfl
      | some b => exact Or.inr (fun e => hne b hq e.symm)
  · simp only [Value.ownBlock, ne_eq, Option.some.injEq]
    rcases List.mem_append.1 hx with hx | hx
    · obtain ⟨h1, h2⟩ := h.gap x hx k hk
      exact ⟨hgd k h1 h2, by omega⟩
    · simp only [List.mem_singleton] at hx
      subst hx
      exact ⟨hgd k (hne k hk) (hub k hk), by have := hub k hk; omega⟩

/-- A volume under way: it lies at block B, its blocks so far are bs. -/
structure Inner (w0 w : World) (id : Int) (bs : List ByteArray) (u : Value) : Prop where
  blk : w.heap[w0.heap.size]? = some (.cells #[.int .i64 id, u] 83 (0, 0))
  own : w.ownsRow (w0.heap.size + 1) 9 1 u bs.length (bs.map Value.string)
  bel : Below w0.heap.size w0 w

theorem Inner.first (w0 : World) (id : Int) : Inner w0 (w0.alloc (.cells #[.int .i64 id, .slice none 0 0] 83)) id [] (.slice none 0 0) :=
  ⟨heap_alloc_new _ _, by simpa using World.ownsRow_nil _ _ _ _, (Below.refl _ _).alloc (Nat.le_refl _) _⟩
theorem Inner.cells {w0 w : World} {id : Int} {bs : List ByteArray} {u : Value} (h : Inner w0 w id bs u) :
    w.cell? ⟨w0.heap.size, 0, none⟩ = some (.int .i64 id) ∧ w.cell? ⟨w0.heap.size, 1, none⟩ = some u ∧ ∀ j, w.frozen? ⟨w0.heap.size, j, none⟩ = false := by
  refine ⟨?_, ?_, fun j => Lib.frozen_of_heap h.blk j⟩ <;> rw [Lib.cell_of_heap h.blk] <;> rfl
theorem Inner.lt {w0 w : World} {id : Int} {bs : List ByteArray} {u : Value} (h : Inner w0 w id bs u) : w0.heap.size < w.heap.size := (Array.getElem?_eq_some_iff.1 h.blk).1

/-- One block more. -/
theorem Inner.step {w0 w w3 : World} {id : Int} {bs : List ByteArray} {u u' : Value} {s : ByteArray} (h : Inner w0 w id bs u)
    (ho : w3.ownsRow (w0.heap.size + 1) 9 1 u' (bs.length + 1) (bs.map Value.string ++ [.string s])) (hg : (w.alloc (.cells #[.string s] 9)).grownBy w3 u.ownBlock) :
    Inner w0 (w3.setCell ⟨w0.heap.size, 1, none⟩ u') id (bs ++ [s]) u' ∧ w3.cell? ⟨w0.heap.size, 1, none⟩ = some u ∧ w3.frozen? ⟨w0.heap.size, 1, none⟩ = false := by
  have hlt := h.lt
  have hub : ∀ k, u.ownBlock = some k → w0.heap.size + 1 ≤ k := fun k hk => (h.own.lt k hk).1
  have hub' : ∀ k, u'.ownBlock = some k → w0.heap.size + 1 ≤ k := fun k hk => (ho.lt k hk).1
  have hb3 : w3.heap[w0.heap.size]? = some (.cells #[.int .i64 id, u] 83 (0, 0)) := by
    rw [hg.block _ (by simp; omega) (fun e => by have := hub _ e.symm; omega), Below.heap_alloc _ _ _ hlt]
    exact h.blk
  refine ⟨⟨?_, ?_, ?_⟩, ?_, Lib.frozen_of_heap hb3 1⟩
  · rw [row_set hb3 1 u']; rfl
  · rw [List.length_append, List.map_append]
    exact ho.kept (row := some w0.heap.size) ⟨rfl, rfl, rfl, by simp [World.setCell], fun q _ hq => Below.heap_setCell _ _ _ _ (fun e => hq (by rw [e]))⟩ (by
      cases hq : u'.ownBlock with
      | none => exact Or.inl rfl
      | some k => exact Or.inr (fun e => by cases e; have := hub' _ hq; omega))
  · exact ((h.bel.alloc (by omega) _).grown hg (by simp; omega) (fun k hk => by have := hub k hk; omega)).setCell (by simp) _
  · rw [Lib.cell_of_heap hb3]; rfl

/-- The volume is whole: it is laid behind the others. -/
theorem built {w w0 wi w3 : World} {base g cap : Nat} {v u : Value} {vs : List Vl} {us : List Value} {id : Int} {bs : List ByteArray} (h : OwnO w0 base v vs us) (hi : Inner w0 wi id bs u) (hb0 : Below w.heap.size w w0) (hbase : base ≤ w0.heap.size)
    (ho : w3.ownsRow base 83 2 (.slice (some ⟨g, 0, none⟩) (vs.length + 1) cap) (vs.length + 1) (volCells vs us ++ [.int .i64 id, u]))
    (hg : (wi.alloc (.cells #[.int .i64 id, u] 83)).grownBy w3 v.ownBlock) (hat : v.ownBlock = some g ∨ g = wi.heap.size + 1) (hlow : w.heap.size ≤ base) :
    OwnO w3 base (.slice (some ⟨g, 0, none⟩) (vs.length + 1) cap) (vs ++ [(id, bs)]) (us ++ [u]) ∧ Below w.heap.size w w3 := by
  have h2 := h.kept hi.bel
  refine ⟨h2.more (own_base hi.own (by omega)) (fun k hk e => ?_) ho hg hat, ?_⟩
  · have h3 := (hi.own.lt k hk).1
    have h4 := (h.row.lt k e).2
    omega
  · have h1 : Below w.heap.size w wi := hb0.trans (hi.bel.mono hb0.size)
    exact (h1.alloc h1.size _).grown hg (by have := h1.size; simp; omega) (fun k hk => by have := (h.row.lt k hk).1; omega)
end Go.Proofs.Ythajgoigmkkbgaa
