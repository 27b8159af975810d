/- Arguments of the laws on queues: how a queue is opened, with the bound on its texts. Arguments of QueueCarries: lists of lists of writes, lists of bools. -/
import Derived.Test.YthajgoigmkkbgaaFoldO
import Derived.Test.YthajgoigmkkbgaaQueMa
namespace Go.Proofs.Ythajgoigmkkbgaa
open Go.RowKit
open Go.ChangeShapes Go.WideShapes Go.ChangeAt

/-- What a queue that is an argument fits. -/
structure QuFit (q : QuV) : Prop where
  sets : q.sets.length ≤ 9223372036854775807
  each : ∀ x ∈ q.sets, x.ws.length ≤ 9223372036854775807 ∧ ∀ u ∈ x.ws, u.data.size ≤ 140737488351232
  opn : q.opn.length ≤ 9223372036854775807 ∧ ∀ u ∈ q.opn, u.data.size ≤ 140737488351232

section
variable {H : Type} {enc : TypeId × Value → H} {w : World}
theorem Try.cellsWrsQ : Try.prog.cellsOf 25 = 1 := by kernel_rfl
theorem Try.cellsSets : Try.prog.cellsOf 24 = 1 := by kernel_rfl
theorem Try.cellsSet : Try.prog.cellsOf 42 = 3 := by kernel_rfl
theorem Try.cellsQueue : Try.prog.cellsOf 27 = 4 := by kernel_rfl
set_option maxRecDepth 100000 in
theorem open_wrs_cell {n : Nat} {v : Value} {y : DataW H × List MemPlace} (h : DataW.trod enc Try.prog w 0 (fun _ => true) true n 25 [v] = some y) : ∃ A len cap, v = .slice A len cap := by
  rcases Deep.open_slice Try.underlying25 h with ⟨hcs, _⟩ | ⟨a, l, c, m, n', D, Pl, hcs, _⟩
  · simp only [List.cons.injEq, and_true] at hcs; exact ⟨_, _, _, hcs⟩
  · simp only [List.cons.injEq, and_true] at hcs; exact ⟨_, _, _, hcs⟩
set_option maxRecDepth 100000 in
theorem open_sets_cell {n : Nat} {v : Value} {y : DataW H × List MemPlace} (h : DataW.trod enc Try.prog w 0 (fun _ => true) true n 24 [v] = some y) : ∃ A len cap, v = .slice A len cap := by
  rcases Deep.open_slice Try.underlying24 h with ⟨hcs, _⟩ | ⟨a, l, c, m, n', D, Pl, hcs, _⟩
  · simp only [List.cons.injEq, and_true] at hcs; exact ⟨_, _, _, hcs⟩
  · simp only [List.cons.injEq, and_true] at hcs; exact ⟨_, _, _, hcs⟩

set_option maxRecDepth 100000 in
theorem open_setQ {n : Nat} {cs : List Value} {y : DataW H × List MemPlace} (h : DataW.trod enc Try.prog w 0 (fun _ => true) true n 42 cs = some y)
    (hz : ∀ n ∈ y.1.weights Try.prog 42, n ≤ reachBytes) :
    ∃ x : SetV, cs = [.int .i64 x.frm, .int .i64 x.to_, .slice x.a x.ws.length x.c] ∧ (WrsAt w w.heap.size x.a x.ws ∧ (x.a = none → x.c = 0)) ∧ x.ws.length ≤ 9223372036854775807 ∧ ∀ u ∈ x.ws, u.data.size ≤ 140737488351232 := by
  obtain ⟨ys, m, _, hy, hlen, hyl, hf⟩ := DataW.trod_struct Try.underlying42 h
  rw [Try.cellsSet] at hlen
  match cs, hlen with
  | [c0, c1, c2], _ =>
    match ys, hyl with
    | [y0, y1, y2], _ =>
      have f0 := hf 0 _ rfl
      have f1 := hf 1 _ rfl
      have f2 := hf 2 _ rfl
      clear hf h
      simp [Try.cellsInt] at f0
      simp [Try.cellsInt] at f1
      simp [Try.cellsWrsQ] at f2
      obtain ⟨k, e0, _, _⟩ := DataW.trod_int Try.underlying3 f0
      obtain ⟨q, e1, _, _⟩ := DataW.trod_int Try.underlying3 f1
      simp only [List.cons.injEq, and_true] at e0 e1
      subst e0 e1
      obtain ⟨A, len, cap, rfl⟩ := open_wrs_cell f2
      obtain ⟨ws, rfl, h1, ⟨h2, h3⟩, h4⟩ := open_writesS f2 (fun n hn => hz n (by
        rw [hy]
        show n ∈ DataW.weights _ _ (DataW.agg [y0.1, y1.1, y2.1])
        rw [DataW.weights]
        simp only [Try.underlying42]
        simp [DataW.weightsEach, hn]))
      exact ⟨⟨k, q, ws, A, cap⟩, rfl, ⟨h1, h3⟩, h2, h4⟩

set_option maxRecDepth 100000 in
theorem open_setsQ {n : Nat} {A : Option Addr} {len cap : Nat} {y : DataW H × List MemPlace} (h : DataW.trod enc Try.prog w 0 (fun _ => true) true n 24 [.slice A len cap] = some y)
    (hz : ∀ n ∈ y.1.weights Try.prog 24, n ≤ reachBytes) :
    ∃ l : List SetV, l.length = len ∧ SetsAt w w.heap.size A l ∧ (len ≤ 9223372036854775807 ∧ (A = none → cap = 0)) ∧ ∀ x ∈ l, x.ws.length ≤ 9223372036854775807 ∧ ∀ u ∈ x.ws, u.data.size ≤ 140737488351232 := by
  rcases Deep.open_slice Try.underlying24 h with ⟨hcs, _⟩ | ⟨a, l, c, m, n', D, Pl, hcs, _, hl, hm, hmm, hy, hi⟩
  · simp only [List.cons.injEq, Value.slice.injEq, and_true] at hcs
    obtain ⟨rfl, rfl, rfl⟩ := hcs
    exact ⟨[], rfl, SetsAt.nil _ _ _, ⟨by omega, fun _ => rfl⟩, by simp⟩
  · simp only [List.cons.injEq, Value.slice.injEq, and_true] at hcs
    obtain ⟨rfl, rfl, rfl⟩ := hcs
    simp only [if_true] at hmm
    subst hmm
    rw [Try.cellsSet] at hi
    have hone : ∀ i, i < len → ∃ x : SetV, (w.cell? ((a.add (i * 3)).add 0) = some (.int .i64 x.frm) ∧ w.cell? ((a.add (i * 3)).add 1) = some (.int .i64 x.to_) ∧ w.cell? ((a.add (i * 3)).add 2) = some (.slice x.a x.ws.length x.c)) ∧ (WrsAt w w.heap.size x.a x.ws ∧ (x.a = none → x.c = 0)) ∧ x.ws.length ≤ 9223372036854775807 ∧ ∀ u ∈ x.ws, u.data.size ≤ 140737488351232 := fun i hlt => by
      obtain ⟨cs, hc, ht⟩ := hi i (by omega)
      obtain ⟨x, rfl, hw1, hw2, hw3⟩ := open_setQ ht (fun n hn => hz n (by
        rw [hy]
        simp only [DataW.weights, Try.underlying24, List.mem_cons, List.mem_append]
        exact Or.inr (Or.inl (weightsAll_in (List.mem_map.2 ⟨i, by simpa using hlt, rfl⟩) _ hn))))
      obtain ⟨_, _, hat⟩ := World.cells?_some hc
      exact ⟨x, ⟨hat 0 (by omega), hat 1 (by omega), hat 2 (by omega)⟩, hw1, hw2, hw3⟩
    obtain ⟨L, hL, hp⟩ := list_of len hone
    refine ⟨L, hL, ⟨?_, fun x hx => ?_⟩, ⟨by unfold maxLen at hm; omega, fun e => by cases e⟩, fun x hx => ?_⟩
    · by_cases h0 : len = 0
      · have e : L = [] := List.eq_nil_of_length_eq_zero (by omega)
        rw [e]; exact .inl rfl
      · obtain ⟨⟨h1, _⟩, _⟩ := hp 0 (by omega)
        have ha : (a.add (0 * 3)).add 0 = a := by cases a; simp [Addr.add]
        rw [ha] at h1
        have e := plain_addr h1
        refine .inr ⟨a.block, a.off, by rw [← e], World.block_lt_of_cell? w _ h1, fun i hi => ?_⟩
        rw [svCells_length] at hi
        have hk : i / 3 < L.length := by omega
        obtain ⟨⟨h1, h2, h3⟩, _⟩ := hp (i / 3) hk
        rw [e, WideShapes.add_plain, WideShapes.add_plain] at h1 h2 h3
        obtain ⟨g1, g2, g3⟩ := svCells_at hk
        have e : (svCells L)[i]? = some (svCells L)[i] := List.getElem?_eq_getElem _
        have hm : i % 3 = 0 ∨ i % 3 = 1 ∨ i % 3 = 2 := by omega
        rcases hm with h0 | h0 | h0
        · rw [show i / 3 * 3 = i from by omega, e] at g1
          rw [show a.off + i = a.off + i / 3 * 3 + 0 from by omega, h1, ← g1]
        · rw [show i / 3 * 3 + 1 = i from by omega, e] at g2
          rw [show a.off + i = a.off + i / 3 * 3 + 1 from by omega, h2, ← g2]
        · rw [show i / 3 * 3 + 2 = i from by omega, e] at g3
          rw [show a.off + i = a.off + i / 3 * 3 + 2 from by omega, h3, ← g3]
    · obtain ⟨i, hi, rfl⟩ := List.getElem_of_mem hx
      exact (hp i hi).2.1
    · obtain ⟨i, hi, rfl⟩ := List.getElem_of_mem hx
      exact (hp i hi).2.2

set_option maxRecDepth 100000 in
/-- A queue as an argument. -/
theorem open_queue {v : Value} {d : DataW H} {p : List MemPlace} {g : Nat} (hv : Value.okWide Try.prog w .any g 27 v) (h : DataW.Trod enc Try.prog w 0 (fun _ => true) true 27 v d p)
    (hz : ∀ n ∈ d.weights Try.prog 27, n ≤ reachBytes) :
    ∃ q : QuV, v = q.val ∧ QuAt w w.heap.size q ∧ QuFit q := by
  obtain ⟨cs, rfl, hsz⟩ := okWide_struct Try.underlying27 hv
  rw [Try.cellsQueue] at hsz
  obtain ⟨fuel, hf⟩ := h
  obtain ⟨ys, m, _, hy, hlen, hyl, hf⟩ := DataW.trod_struct Try.underlying27 hf
  obtain ⟨⟨c0, c1, c2, c3, rfl⟩⟩ : Nonempty (∃ c0 c1 c2 c3, cs = #[c0, c1, c2, c3]) := by
    obtain ⟨l⟩ := cs
    match l, hsz with
    | [c0, c1, c2, c3], _ => exact ⟨c0, c1, c2, c3, rfl⟩
  match ys, hyl with
  | [y0, y1, y2, y3], _ =>
    have f0 := hf 0 _ rfl
    have f1 := hf 1 _ rfl
    have f2 := hf 2 _ rfl
    have f3 := hf 3 _ rfl
    clear hf
    simp [Value.cells, Try.cellsSets] at f0
    simp [Value.cells, Try.cellsWrsQ] at f1
    simp [Value.cells, Try.cellsInt] at f2
    simp [Value.cells, Try.cellsInt] at f3
    have hzw : ∀ n, (n ∈ y0.1.weights Try.prog 24 ∨ n ∈ y1.1.weights Try.prog 25) → n ≤ reachBytes := fun n hn => hz n (by
      have hy2 : d = DataW.agg ([y0, y1, y2, y3].map (·.1)) := by first | exact hy | exact (Prod.mk.inj hy).1 | (simpa using congrArg Prod.fst hy)
      rw [hy2]
      show n ∈ DataW.weights _ _ (DataW.agg [y0.1, y1.1, y2.1, y3.1])
      rw [DataW.weights]
      simp only [Try.underlying27]
      rcases hn with hn | hn <;> simp [DataW.weightsEach, hn])
    obtain ⟨A, len, cap, rfl⟩ := open_sets_cell f0
    obtain ⟨A2, len2, cap2, rfl⟩ := open_wrs_cell f1
    obtain ⟨l, rfl, h1, h2, h3⟩ := open_setsQ f0 (fun n hn => hzw n (Or.inl hn))
    obtain ⟨ws, rfl, h4, h5, h6⟩ := open_writesS f1 (fun n hn => hzw n (Or.inr hn))
    obtain ⟨k, e2, _, _⟩ := DataW.trod_int Try.underlying3 f2
    obtain ⟨j, e3, _, _⟩ := DataW.trod_int Try.underlying3 f3
    simp only [List.cons.injEq, and_true] at e2 e3
    subst e2 e3
    exact ⟨⟨A, cap, l, A2, cap2, ws, k, j⟩, rfl, ⟨h1, h4, h2.2, h5.2⟩, ⟨h2.1, h3, h5.1, h6⟩⟩
end
end Go.Proofs.Ythajgoigmkkbgaa

namespace Go.Proofs.Ythajgoigmkkbgaa
open Go.RowKit
open Go.ChangeShapes Go.WideShapes Go.ChangeAt

theorem Try.cellsBolQ : Try.prog.cellsOf 4 = 1 := by kernel_rfl
/-- The bools bs lie where a slice says. -/
def BolsAt (W : World) (A : Option Addr) (bs : List Bool) : Prop :=
  bs = [] ∨ ∃ b off, A = some ⟨b, off, none⟩ ∧ b < W.heap.size ∧ ∀ i, (h : i < bs.length) → W.cell? ⟨b, off + i, none⟩ = some (.bool bs[i])

theorem BolsAt.far {W : World} {A : Option Addr} {bs : List Bool} (h : BolsAt W A bs) {i : Nat} (hi : i < bs.length) : ∃ b off, A = some ⟨b, off, none⟩ ∧ ∀ w, Below W.heap.size W w → w.cell? ⟨b, off + i, none⟩ = some (.bool bs[i]) := by
  rcases h with rfl | ⟨b, off, hA, hlt, hc⟩
  · simp at hi
  · exact ⟨b, off, hA, fun w hb => (hb.cell (p := ⟨b, off + i, none⟩) hlt).trans (hc i hi)⟩
theorem BolsAt.at_ {W w : World} {A : Option Addr} {bs : List Bool} (h : BolsAt W A bs) (hb : Below W.heap.size W w) {i : Nat} (hi : i < bs.length) : ∃ b off, A = some ⟨b, off, none⟩ ∧ w.cell? ⟨b, off + i, none⟩ = some (.bool bs[i]) := by
  rcases h with rfl | ⟨b, off, hA, hlt, hc⟩
  · simp at hi
  · exact ⟨b, off, hA, (hb.cell (p := ⟨b, off + i, none⟩) hlt).trans (hc i hi)⟩

/-- Lists of writes lie where a slice's address says. -/
def WlsAt (w : World) (B : Nat) (A : Option Addr) (wss : List (List Wr)) : Prop :=
  wss = [] ∨ ∃ b off, A = some ⟨b, off, none⟩ ∧ b < B ∧ ∀ i, (h : i < wss.length) → ∃ a c, w.cell? ⟨b, off + i, none⟩ = some (.slice a wss[i].length c) ∧ WrsAt w B a wss[i] ∧ wss[i].length ≤ 9223372036854775807 ∧ (a = none → c = 0)
theorem WlsAt.far {w : World} {B : Nat} {A : Option Addr} {wss : List (List Wr)} (h : WlsAt w B A wss) {i : Nat} (hi : i < wss.length) :
    ∃ b off a c, A = some ⟨b, off, none⟩ ∧ b < B ∧ (a = none → c = 0) ∧ (∀ w', Below B w w' → w'.cell? ⟨b, off + i, none⟩ = some (.slice a wss[i].length c) ∧ WrsAt w' B a wss[i]) := by
  rcases h with rfl | ⟨b, off, hA, hlt, hc⟩
  · simp at hi
  · obtain ⟨a, c, h1, h2, h3, h4⟩ := hc i hi
    exact ⟨b, off, a, c, hA, hlt, h4, fun w' hb => ⟨(hb.cell (p := ⟨b, off + i, none⟩) hlt).trans h1, h2.below hb⟩⟩

section
variable {H : Type} {enc : TypeId × Value → H} {w : World}
theorem open_wls {n : Nat} {A : Option Addr} {len cap : Nat} {y : DataW H × List MemPlace} (h : DataW.trod enc Try.prog w 0 (fun _ => true) true n 33 [.slice A len cap] = some y) :
    ∃ wss, wss.length = len ∧ WlsAt w w.heap.size A wss ∧ len ≤ 9223372036854775807 := by
  rcases Deep.open_slice Try.underlying33 h with ⟨hcs, _⟩ | ⟨a, l, c, m, n', D, Pl, hcs, _, hl, hm, hmm, _, hi⟩
  · simp only [List.cons.injEq, Value.slice.injEq, and_true] at hcs
    obtain ⟨rfl, rfl, rfl⟩ := hcs
    exact ⟨[], rfl, .inl rfl, by omega⟩
  · simp only [List.cons.injEq, Value.slice.injEq, and_true] at hcs
    obtain ⟨rfl, rfl, rfl⟩ := hcs
    simp only [if_true] at hmm
    subst hmm
    rw [Try.cellsWrsQ] at hi
    have hone : ∀ i, i < len → ∃ x : List Wr, ∃ a' c', w.cell? (a.add i) = some (.slice a' x.length c') ∧ WrsAt w w.heap.size a' x ∧ x.length ≤ 9223372036854775807 ∧ (a' = none → c' = 0) := fun i hlt => by
      obtain ⟨cs, hc, ht⟩ := hi i (by omega)
      obtain ⟨hcl, _, hat⟩ := World.cells?_some hc
      match cs, hcl with
      | [v], _ =>
        obtain ⟨a', l', c', rfl⟩ : ∃ a' l' c', v = .slice a' l' c' := by
          rcases Deep.open_slice Try.underlying25 ht with ⟨hcs, _⟩ | ⟨_, _, _, _, _, _, _, hcs, _⟩
          · simp only [List.cons.injEq, and_true] at hcs; exact ⟨_, _, _, hcs⟩
          · simp only [List.cons.injEq, and_true] at hcs; exact ⟨_, _, _, hcs⟩
        obtain ⟨x, hxl, hx, hx2, hx3⟩ := open_writes ht
        subst hxl
        have := hat 0 (by simp)
        rw [Nat.mul_one] at this
        have e : (a.add i).add 0 = a.add i := by cases a; simp [Addr.add]
        rw [e] at this
        exact ⟨x, a', c', this, hx, hx2, hx3⟩
    obtain ⟨L, hL, hp⟩ := list_of len hone
    refine ⟨L, hL, ?_, by unfold maxLen at hm; omega⟩
    by_cases h0 : len = 0
    · exact .inl (List.eq_nil_of_length_eq_zero (by omega))
    · obtain ⟨a0, c0, h1, _⟩ := hp 0 (by omega)
      have ha : a.add 0 = a := by cases a; simp [Addr.add]
      rw [ha] at h1
      have e := plain_addr h1
      refine .inr ⟨a.block, a.off, by rw [← e], World.block_lt_of_cell? w _ h1, fun i hi => ?_⟩
      obtain ⟨a1, c1, g1, g2, g3⟩ := hp i hi
      rw [e, WideShapes.add_plain] at g1
      exact ⟨a1, c1, g1, g2, g3⟩

theorem open_bols {n : Nat} {A : Option Addr} {len cap : Nat} {y : DataW H × List MemPlace} (h : DataW.trod enc Try.prog w 0 (fun _ => true) true n 34 [.slice A len cap] = some y) :
    len ≤ 9223372036854775807 ∧ ∃ bs : List Bool, bs.length = len ∧ BolsAt w A bs := by
  rcases Deep.open_bools Try.underlying34 Try.underlying4 Try.cellsBolQ h with ⟨hcs, _⟩ | ⟨a, l, c, B, hcs, _, hl, hm, _, hc⟩
  · simp only [List.cons.injEq, Value.slice.injEq, and_true] at hcs
    obtain ⟨rfl, rfl, rfl⟩ := hcs
    exact ⟨by omega, [], rfl, .inl rfl⟩
  · simp only [List.cons.injEq, Value.slice.injEq, and_true] at hcs
    obtain ⟨rfl, rfl, rfl⟩ := hcs
    refine ⟨by unfold maxLen at hm; omega, (List.range len).map B, by simp, ?_⟩
    by_cases h0 : len = 0
    · subst h0; exact .inl rfl
    · have h1 := hc 0 (by omega)
      have ha : a.add 0 = a := by cases a; simp [Addr.add]
      rw [ha] at h1
      have e := plain_addr h1
      refine .inr ⟨a.block, a.off, by rw [← e], World.block_lt_of_cell? w _ h1, fun i hi => ?_⟩
      have hi' : i < len := by simpa using hi
      have h2 := hc i (by omega)
      rw [e, WideShapes.add_plain] at h2
      rw [h2]
      simp

end
end Go.Proofs.Ythajgoigmkkbgaa
