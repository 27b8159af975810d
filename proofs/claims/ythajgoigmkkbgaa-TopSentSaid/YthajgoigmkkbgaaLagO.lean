/- Arguments of the laws on the lag: a bound; lists of lists of writes with the bound on their texts. -/
import Derived.Test.YthajgoigmkkbgaaQueO
import Derived.Test.YthajgoigmkkbgaaLagA
namespace Go.Proofs.Ythajgoigmkkbgaa
open Go.RowKit
open Go.ChangeShapes Go.WideShapes Go.ChangeAt

theorem Try.cellsBound : Try.prog.cellsOf 23 = 3 := by kernel_rfl
section
variable {H : Type} {enc : TypeId × Value → H} {w : World}

set_option maxRecDepth 100000 in
/-- A bound as an argument. -/
theorem open_bound {v : Value} {d : DataW H} {p : List MemPlace} {g : Nat} (hv : Value.okWide Try.prog w .any g 23 v) (h : DataW.Trod enc Try.prog w 0 (fun _ => true) true 23 v d p) :
    ∃ b : Bd, v = b.val := by
  obtain ⟨cs, rfl, hsz⟩ := okWide_struct Try.underlying23 hv
  rw [Try.cellsBound] at hsz
  obtain ⟨fuel, hf⟩ := h
  obtain ⟨ys, m, _, hy, hlen, hyl, hf⟩ := DataW.trod_struct Try.underlying23 hf
  obtain ⟨⟨c0, c1, c2, rfl⟩⟩ : Nonempty (∃ c0 c1 c2, cs = #[c0, c1, c2]) := by
    obtain ⟨l⟩ := cs
    match l, hsz with
    | [c0, c1, c2], _ => exact ⟨c0, c1, c2, rfl⟩
  match ys, hyl with
  | [y0, y1, y2], _ =>
    have f0 := hf 0 _ rfl
    have f1 := hf 1 _ rfl
    have f2 := hf 2 _ rfl
    clear hf
    simp [Value.cells, Try.cellsInt] at f0
    simp [Value.cells, Try.cellsInt] at f1
    simp [Value.cells, Try.cellsBolQ] at f2
    obtain ⟨k, e0, _, _⟩ := DataW.trod_int Try.underlying3 f0
    obtain ⟨j, e1, _, _⟩ := DataW.trod_int Try.underlying3 f1
    obtain ⟨b, e2, _⟩ := DataW.trod_bool Try.underlying4 f2
    simp only [List.cons.injEq, and_true] at e0 e1 e2
    subst e0 e1 e2
    exact ⟨⟨k, j, b⟩, rfl⟩

set_option maxRecDepth 100000 in
theorem open_wlsS {n : Nat} {A : Option Addr} {len cap : Nat} {y : DataW H × List MemPlace} (h : DataW.trod enc Try.prog w 0 (fun _ => true) true n 33 [.slice A len cap] = some y)
    (hz : ∀ n ∈ y.1.weights Try.prog 33, n ≤ reachBytes) :
    ∃ wss, wss.length = len ∧ WlsAt w w.heap.size A wss ∧ len ≤ 9223372036854775807 ∧ ∀ x ∈ wss, ∀ u ∈ x, u.data.size ≤ 140737488351232 := by
  rcases Deep.open_slice Try.underlying33 h with ⟨hcs, _⟩ | ⟨a, l, c, m, n', D, Pl, hcs, _, hl, hm, hmm, hy, hi⟩
  · simp only [List.cons.injEq, Value.slice.injEq, and_true] at hcs
    obtain ⟨rfl, rfl, rfl⟩ := hcs
    exact ⟨[], rfl, .inl rfl, by omega, by simp⟩
  · simp only [List.cons.injEq, Value.slice.injEq, and_true] at hcs
    obtain ⟨rfl, rfl, rfl⟩ := hcs
    simp only [if_true] at hmm
    subst hmm
    rw [Try.cellsWrsQ] at hi
    have hone : ∀ i, i < len → ∃ x : List Wr, ∃ a' c', w.cell? (a.add i) = some (.slice a' x.length c') ∧ WrsAt w w.heap.size a' x ∧ x.length ≤ 9223372036854775807 ∧ (a' = none → c' = 0) ∧ ∀ u ∈ x, u.data.size ≤ 140737488351232 := fun i hlt => by
      obtain ⟨cs, hc, ht⟩ := hi i (by omega)
      obtain ⟨hcl, _, hat⟩ := World.cells?_some hc
      match cs, hcl with
      | [v], _ =>
        obtain ⟨a', l', c', rfl⟩ := open_wrs_cell ht
        obtain ⟨x, hxl, hx, hx2, hx3⟩ := open_writesS ht (fun n hn => hz n (by
          rw [hy]
          simp only [DataW.weights, Try.underlying33, List.mem_cons, List.mem_append]
          exact Or.inr (Or.inl (weightsAll_in (List.mem_map.2 ⟨i, by simpa using hlt, rfl⟩) _ hn))))
        subst hxl
        have := hat 0 (by simp)
        rw [Nat.mul_one] at this
        have e : (a.add i).add 0 = a.add i := by cases a; simp [Addr.add]
        rw [e] at this
        exact ⟨x, a', c', this, hx, hx2.1, hx2.2, hx3⟩
    obtain ⟨L, hL, hp⟩ := list_of len hone
    refine ⟨L, hL, ?_, by unfold maxLen at hm; omega, fun x hx => ?_⟩
    · by_cases h0 : len = 0
      · exact .inl (List.eq_nil_of_length_eq_zero (by omega))
      · obtain ⟨a0, c0, h1, _⟩ := hp 0 (by omega)
        have ha : a.add 0 = a := by cases a; simp [Addr.add]
        rw [ha] at h1
        have e := plain_addr h1
        refine .inr ⟨a.block, a.off, by rw [← e], World.block_lt_of_cell? w _ h1, fun i hi => ?_⟩
        obtain ⟨a1, c1, g1, g2, g3, g4, _⟩ := hp i hi
        rw [e, WideShapes.add_plain] at g1
        exact ⟨a1, c1, g1, g2, g3, g4⟩
    · obtain ⟨i, hi, rfl⟩ := List.getElem_of_mem hx
      obtain ⟨_, _, _, _, _, _, g5⟩ := hp i hi
      exact g5
/-- The size of few writes. -/
theorem bytes_le (K : Nat) : ∀ l : List Wr, (∀ u ∈ l, 8 + u.data.size ≤ K) → bytesW l ≤ l.length * K := by
  intro l
  induction l with
  | nil => intro _; simp [bytesW]
  | cons x r ih =>
    intro hx
    have h1 := hx x (by simp)
    have h2 := ih (fun u hu => hx u (List.mem_cons_of_mem _ hu))
    rw [bytesW_cons, List.length_cons, Nat.succ_mul]
    omega
theorem bytes_few {ws : List Wr} {n : Nat} (hl : ws.length ≤ n) (hn : n ≤ 4000) (h : ∀ u ∈ ws, u.data.size ≤ 140737488351232) : bytesW ws ≤ 562949953404960000 := by
  have h1 := bytes_le 140737488351240 ws (fun u hu => by have := h u hu; omega)
  have h2 : ws.length ≤ 4000 := Nat.le_trans hl hn
  generalize ws.length = m at h1 h2
  omega
end
end Go.Proofs.Ythajgoigmkkbgaa
