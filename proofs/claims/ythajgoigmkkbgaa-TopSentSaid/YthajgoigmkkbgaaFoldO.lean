/- Arguments of the laws on folded writes: writes with the bound on their texts, marks. -/
import Derived.Test.YthajgoigmkkbgaaVolO
import Derived.Test.YthajgoigmkkbgaaFoldJ
import Derived.SizedLaws
namespace Go.Proofs.Ythajgoigmkkbgaa
open Go.RowKit
open Go.ChangeShapes Go.WideShapes Go.ChangeAt

section
variable {H : Type} {enc : TypeId × Value → H} {w : World}

theorem weightsAll_in {P : Program} {e : TypeId} : ∀ {l : List (DataW H)} {d : DataW H}, d ∈ l → ∀ n ∈ d.weights P e, n ∈ DataW.weightsAll P e l
  | d' :: r, d, hd, n, hn => by
    simp only [DataW.weightsAll, List.mem_append]
    rcases List.mem_cons.1 hd with rfl | h
    · exact Or.inl hn
    · exact Or.inr (weightsAll_in h n hn)

set_option maxRecDepth 100000 in
theorem open_writeS {n : Nat} {cs : List Value} {y : DataW H × List MemPlace} (h : DataW.trod enc Try.prog w 0 (fun _ => true) true n 74 cs = some y) :
    ∃ x : Wr, cs = [.int .i64 x.vol, .int .i64 x.block, .string x.data] ∧ x.data.data.toList.length ∈ y.1.weights Try.prog 74 := by
  obtain ⟨ys, m, _, hy, hlen, hyl, hf⟩ := DataW.trod_struct Try.underlying74 h
  rw [Try.cellsWrite] at hlen
  match cs, hlen with
  | [c0, c1, c2], _ =>
    match ys, hyl with
    | [y0, y1, y2], _ =>
      have f0 := hf 0 _ rfl
      have f1 := hf 1 _ rfl
      have f2 := hf 2 _ rfl
      clear hf h
      simp [Try.cellsInt] at f0
      simp [Try.cellsInt] at f1
      simp [Try.cellsStr] at f2
      obtain ⟨k, e0, _, _⟩ := DataW.trod_int Try.underlying3 f0
      obtain ⟨q, e1, _, _⟩ := DataW.trod_int Try.underlying3 f1
      obtain ⟨t, e2, e3, _⟩ := DataW.trod_string Try.underlying9 f2
      simp only [List.cons.injEq, and_true] at e0 e1 e2
      subst e0 e1 e2
      refine ⟨⟨k, q, t⟩, rfl, ?_⟩
      rw [hy]
      simp only [List.map_cons, List.map_nil, e3]
      rw [DataW.weights]
      simp only [Try.underlying74]
      simp [DataW.weightsEach, DataW.weights]

set_option maxRecDepth 100000 in
theorem open_writesS {n : Nat} {A : Option Addr} {len cap : Nat} {y : DataW H × List MemPlace} (h : DataW.trod enc Try.prog w 0 (fun _ => true) true n 25 [.slice A len cap] = some y)
    (hz : ∀ n ∈ y.1.weights Try.prog 25, n ≤ reachBytes) :
    ∃ ws, ws.length = len ∧ WrsAt w w.heap.size A ws ∧ (len ≤ 9223372036854775807 ∧ (A = none → cap = 0)) ∧ ∀ x ∈ ws, x.data.size ≤ 140737488351232 := by
  rcases Deep.open_slice Try.underlying25 h with ⟨hcs, _⟩ | ⟨a, l, c, m, n', D, Pl, hcs, _, hl, hm, hmm, hy, hi⟩
  · simp only [List.cons.injEq, Value.slice.injEq, and_true] at hcs
    obtain ⟨rfl, rfl, rfl⟩ := hcs
    exact ⟨[], rfl, .inl rfl, ⟨by omega, fun _ => rfl⟩, by simp⟩
  · simp only [List.cons.injEq, Value.slice.injEq, and_true] at hcs
    obtain ⟨rfl, rfl, rfl⟩ := hcs
    simp only [if_true] at hmm
    subst hmm
    rw [Try.cellsWrite] at hi
    have hone : ∀ i, i < len → ∃ x : Wr, w.cell? ((a.add (i * 3)).add 0) = some (.int .i64 x.vol) ∧ w.cell? ((a.add (i * 3)).add 1) = some (.int .i64 x.block) ∧ w.cell? ((a.add (i * 3)).add 2) = some (.string x.data) ∧ x.data.size ≤ 140737488351232 := fun i hlt => by
      obtain ⟨cs, hc, ht⟩ := hi i (by omega)
      obtain ⟨x, rfl, hw⟩ := open_writeS ht
      obtain ⟨_, _, hat⟩ := World.cells?_some hc
      refine ⟨x, hat 0 (by omega), hat 1 (by omega), hat 2 (by omega), ?_⟩
      have := hz _ (by
        rw [hy]
        simp only [DataW.weights, Try.underlying25, List.mem_cons, List.mem_append]
        exact Or.inr (Or.inl (weightsAll_in (List.mem_map.2 ⟨i, by simpa using hlt, rfl⟩) _ hw)))
      have e : reachBytes = 140737488351232 := rfl
      have e2 : x.data.data.toList.length = x.data.size := by simp
      omega
    obtain ⟨L, hL, hp⟩ := list_of len hone
    refine ⟨L, hL, ?_, ⟨by unfold maxLen at hm; omega, fun e => by cases e⟩, fun x hx => ?_⟩
    · by_cases h0 : len = 0
      · exact .inl (List.eq_nil_of_length_eq_zero (by omega))
      · obtain ⟨h1, _⟩ := hp 0 (by omega)
        have ha : (a.add (0 * 3)).add 0 = a := by cases a; simp [Addr.add]
        rw [ha] at h1
        have e := plain_addr h1
        refine .inr ⟨a.block, a.off, by rw [← e], World.block_lt_of_cell? w _ h1, fun i hi => ?_⟩
        obtain ⟨g0, g1, g2, _⟩ := hp i hi
        rw [e, WideShapes.add_plain, WideShapes.add_plain] at g0 g1 g2
        exact ⟨g0, g1, g2⟩
    · obtain ⟨i, hi, rfl⟩ := List.getElem_of_mem hx
      exact (hp i hi).2.2.2

theorem Try.cellsMark : Try.prog.cellsOf 88 = 2 := by kernel_rfl
set_option maxRecDepth 100000 in
theorem open_mark {n : Nat} {cs : List Value} {y : DataW H × List MemPlace} (h : DataW.trod enc Try.prog w 0 (fun _ => true) true n 88 cs = some y) :
    ∃ x : Mk, cs = [.int .i64 x.1, .int .i64 x.2] := by
  obtain ⟨ys, m, _, _, hlen, hyl, hf⟩ := DataW.trod_struct Try.underlying88 h
  rw [Try.cellsMark] at hlen
  match cs, hlen with
  | [c0, c1], _ =>
    match ys, hyl with
    | [y0, y1], _ =>
      have f0 := hf 0 _ rfl
      have f1 := hf 1 _ rfl
      clear hf h
      simp [Try.cellsInt] at f0
      simp [Try.cellsInt] at f1
      obtain ⟨k, e0, _, _⟩ := DataW.trod_int Try.underlying3 f0
      obtain ⟨q, e1, _, _⟩ := DataW.trod_int Try.underlying3 f1
      simp only [List.cons.injEq, and_true] at e0 e1
      subst e0 e1
      exact ⟨(k, q), rfl⟩
set_option maxRecDepth 100000 in
theorem open_marks {n : Nat} {A : Option Addr} {len cap : Nat} {y : DataW H × List MemPlace} (h : DataW.trod enc Try.prog w 0 (fun _ => true) true n 55 [.slice A len cap] = some y) :
    ∃ ms : List Mk, ms.length = len ∧ MksAt w w.heap.size A ms ∧ len ≤ 9223372036854775807 := by
  rcases Deep.open_slice Try.underlying55 h with ⟨hcs, _⟩ | ⟨a, l, c, m, n', D, Pl, hcs, _, hl, hm, hmm, _, hi⟩
  · simp only [List.cons.injEq, Value.slice.injEq, and_true] at hcs
    obtain ⟨rfl, rfl, rfl⟩ := hcs
    exact ⟨[], rfl, .inl rfl, by omega⟩
  · simp only [List.cons.injEq, Value.slice.injEq, and_true] at hcs
    obtain ⟨rfl, rfl, rfl⟩ := hcs
    simp only [if_true] at hmm
    subst hmm
    rw [Try.cellsMark] at hi
    have hone : ∀ i, i < len → ∃ x : Mk, w.cell? ((a.add (i * 2)).add 0) = some (.int .i64 x.1) ∧ w.cell? ((a.add (i * 2)).add 1) = some (.int .i64 x.2) := fun i hlt => by
      obtain ⟨cs, hc, ht⟩ := hi i (by omega)
      obtain ⟨x, rfl⟩ := open_mark ht
      obtain ⟨_, _, hat⟩ := World.cells?_some hc
      exact ⟨x, hat 0 (by omega), hat 1 (by omega)⟩
    obtain ⟨L, hL, hp⟩ := list_of len hone
    refine ⟨L, hL, ?_, by unfold maxLen at hm; omega⟩
    by_cases h0 : len = 0
    · exact .inl (List.eq_nil_of_length_eq_zero (by omega))
    · obtain ⟨h1, _⟩ := hp 0 (by omega)
      have ha : (a.add (0 * 2)).add 0 = a := by cases a; simp [Addr.add]
      rw [ha] at h1
      have e := plain_addr h1
      refine .inr ⟨a.block, a.off, by rw [← e], World.block_lt_of_cell? w _ h1, fun i hi => ?_⟩
      obtain ⟨g0, g1⟩ := hp i hi
      rw [e, WideShapes.add_plain, WideShapes.add_plain] at g0 g1
      exact ⟨g0, g1⟩
end
end Go.Proofs.Ythajgoigmkkbgaa
