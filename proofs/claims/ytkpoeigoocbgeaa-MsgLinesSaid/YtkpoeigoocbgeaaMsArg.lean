/- Arguments for messages: of stages 7, 10 and 11 how branches, bits, numbers and writes are opened (slice.py). -/
import Derived.Test.YtkpoeigoocbgeaaRows
import Derived.Test.YtkpoeigoocbgeaaMsgG
import Derived.Deep.Grids
import Derived.Deep.Fields
import Derived.ChangeArms
import Derived.ProofKit
import Derived.OpenShut
import Derived.SliceStrings
import Derived.ShutString
namespace Go.Proofs.Ytkpoeigoocbgeaa
open Go.RowKit
open Go.ChangeShapes Go.WideShapes Go.ChangeAt
set_option maxRecDepth 100000 in
theorem list_of {α : Type} {p : Nat → α → Prop} : ∀ n : Nat, (∀ i, i < n → ∃ x, p i x) → ∃ l : List α, l.length = n ∧ ∀ i, (h : i < l.length) → p i l[i]
  | 0, _ => ⟨[], rfl, fun i h => by simp at h⟩
  | n + 1, h => by
    obtain ⟨l, hl, hp⟩ := list_of n (fun i hi => h i (by omega))
    obtain ⟨x, hx⟩ := h n (by omega)
    refine ⟨l ++ [x], by simp [hl], fun i hi => ?_⟩
    by_cases e : i < l.length
    · rw [List.getElem_append_left e]; exact hp i e
    · have e2 : i = l.length := by simp at hi; omega
      subst e2
      rw [List.getElem_append_right (Nat.le_refl _)]
      simp only [Nat.sub_self, List.getElem_singleton]
      rw [hl]; exact hx

set_option maxRecDepth 100000 in
theorem plain_addr {w : World} {a : Addr} {v : Value} (h : w.cell? a = some v) : a = ⟨a.block, a.off, none⟩ := by
  obtain ⟨b, o, s⟩ := a
  cases s with
  | none => rfl
  | some s =>
    simp only [World.cell?] at h
    split at h <;> simp at h

set_option maxRecDepth 100000 in
theorem Try.cellsInt : Try.prog.cellsOf 3 = 1 := by kernel_rfl

set_option maxRecDepth 100000 in
theorem Try.cellsStr : Try.prog.cellsOf 9 = 1 := by kernel_rfl

set_option maxRecDepth 100000 in
theorem Try.cellsStrs : Try.prog.cellsOf 125 = 1 := by kernel_rfl

set_option maxRecDepth 100000 in
theorem Try.cellsVol : Try.prog.cellsOf 127 = 2 := by kernel_rfl

set_option maxRecDepth 100000 in
theorem Try.cellsWrite : Try.prog.cellsOf 65 = 3 := by kernel_rfl

section
variable {H : Type} {enc : TypeId × Value → H} {w : World}

set_option maxRecDepth 100000 in
theorem open_texts {n : Nat} {A : Option Addr} {len cap : Nat} {y : DataW H × List MemPlace} (h : DataW.trod enc Try.prog w 0 (fun _ => true) true n 125 [.slice A len cap] = some y) :
    len ≤ 9223372036854775807 ∧ ∃ bs : List ByteArray, bs.length = len ∧ Lies w w.heap.size A (bs.map Value.string) := by
  rcases open_strings Try.underlying125 Try.underlying9 (by kernel_rfl) h with ⟨hcs, _⟩ | ⟨x, l, c, ss, hcs, _, hl, hm, hz, hx, hcell, hws⟩
  · simp only [List.cons.injEq, Value.slice.injEq, and_true] at hcs
    obtain ⟨rfl, rfl, rfl⟩ := hcs
    exact ⟨by omega, [], rfl, .inl rfl⟩
  · simp only [List.cons.injEq, Value.slice.injEq, and_true] at hcs
    obtain ⟨rfl, rfl, rfl⟩ := hcs
    have hz' : ss.length = cap := by simpa using hz
    refine ⟨by unfold maxLen at hm; omega, ss.take len, by rw [List.length_take]; omega, ?_⟩
    by_cases h0 : len = 0
    · subst h0; exact .inl (by simp)
    · have h1 := hcell 0 (by omega)
      have ha : x.add 0 = x := by cases x; simp [Addr.add]
      rw [ha] at h1
      have e := plain_addr h1
      refine .inr ⟨x.block, x.off, by rw [← e], World.block_lt_of_cell? w _ h1, fun i hi => ?_⟩
      have hi' : i < len ∧ i < ss.length := by rw [List.length_map, List.length_take] at hi; omega
      have h2 := hcell i hi'.2
      rw [e, WideShapes.add_plain] at h2
      rw [h2]
      simp [List.getD, List.getElem?_eq_getElem hi'.2]

set_option maxRecDepth 100000 in
theorem open_vol {n : Nat} {cs : List Value} {y : DataW H × List MemPlace} (h : DataW.trod enc Try.prog w 0 (fun _ => true) true n 127 cs = some y) :
    ∃ (v : Vl) (a : Option Addr) (c : Nat), cs = [.int .i64 v.1, .slice a v.2.length c] ∧ v.2.length ≤ 9223372036854775807 ∧ Lies w w.heap.size a (v.2.map Value.string) := by
  obtain ⟨ys, m, _, _, hlen, hyl, hf⟩ := DataW.trod_struct Try.underlying127 h
  rw [Try.cellsVol] at hlen
  match cs, hlen with
  | [c0, c1], _ =>
    match ys, hyl with
    | [y0, y1], _ =>
      have f0 := hf 0 _ rfl
      have f1 := hf 1 _ rfl
      clear hf h
      simp [Try.cellsInt] at f0
      simp [Try.cellsStrs] at f1
      obtain ⟨k, e0, _, k0⟩ := DataW.trod_int Try.underlying3 f0
      simp only [List.cons.injEq, and_true] at e0
      subst e0
      obtain ⟨A, len, cap, rfl⟩ : ∃ A len cap, c1 = .slice A len cap := by
        rcases open_strings Try.underlying125 Try.underlying9 (by kernel_rfl) f1 with ⟨hcs, _⟩ | ⟨x, l, c, ss, hcs, _⟩
        · simp only [List.cons.injEq, and_true] at hcs; exact ⟨_, _, _, hcs⟩
        · simp only [List.cons.injEq, and_true] at hcs; exact ⟨_, _, _, hcs⟩
      obtain ⟨hl, bs, hb1, hb2⟩ := open_texts f1
      subst hb1
      exact ⟨(k, bs), A, cap, rfl, hl, hb2⟩

set_option maxRecDepth 100000 in
theorem open_vols {n : Nat} {A : Option Addr} {len cap : Nat} {y : DataW H × List MemPlace} (h : DataW.trod enc Try.prog w 0 (fun _ => true) true n 88 [.slice A len cap] = some y) :
    ∃ vs, vs.length = len ∧ VolsAt w w.heap.size A vs ∧ VolsFit vs := by
  rcases Deep.open_slice Try.underlying88 h with ⟨hcs, _⟩ | ⟨a, l, c, m, n', D, Pl, hcs, _, hl, hm, hmm, _, hi⟩
  · simp only [List.cons.injEq, Value.slice.injEq, and_true] at hcs
    obtain ⟨rfl, rfl, rfl⟩ := hcs
    exact ⟨[], rfl, .inl rfl, ⟨by simp, by simp⟩⟩
  · simp only [List.cons.injEq, Value.slice.injEq, and_true] at hcs
    obtain ⟨rfl, rfl, rfl⟩ := hcs
    simp only [if_true] at hmm
    subst hmm
    rw [Try.cellsVol] at hi
    have hone : ∀ i, i < len → ∃ v : Vl, v.2.length ≤ 9223372036854775807 ∧ ∃ (a' : Option Addr) (c' : Nat), w.cell? ((a.add (i * 2)).add 0) = some (.int .i64 v.1) ∧ w.cell? ((a.add (i * 2)).add 1) = some (.slice a' v.2.length c') ∧ Lies w w.heap.size a' (v.2.map Value.string) := fun i hlt => by
      obtain ⟨cs, hc, ht⟩ := hi i (by omega)
      obtain ⟨v, a', c', rfl, h1, h2⟩ := open_vol ht
      obtain ⟨_, _, hat⟩ := World.cells?_some hc
      exact ⟨v, h1, a', c', hat 0 (by omega), hat 1 (by omega), h2⟩
    obtain ⟨L, hL, hp⟩ := list_of len hone
    refine ⟨L, hL, ?_, ⟨by unfold maxLen at hm; omega, fun v hv => ?_⟩⟩
    · by_cases h0 : len = 0
      · exact .inl (List.eq_nil_of_length_eq_zero (by omega))
      · obtain ⟨_, a', c', h1, _⟩ := hp 0 (by omega)
        have ha : (a.add (0 * 2)).add 0 = a := by cases a; simp [Addr.add]
        rw [ha] at h1
        have e := plain_addr h1
        refine .inr ⟨a.block, a.off, by rw [← e], World.block_lt_of_cell? w _ h1, fun i hi => ?_⟩
        obtain ⟨_, a'', c'', g0, g1, g2⟩ := hp i hi
        rw [e, WideShapes.add_plain, WideShapes.add_plain] at g0 g1
        exact ⟨a'', c'', g0, g1, g2⟩
    · obtain ⟨i, hi, rfl⟩ := List.getElem_of_mem hv
      exact (hp i hi).1

set_option maxRecDepth 100000 in
theorem open_write {n : Nat} {cs : List Value} {y : DataW H × List MemPlace} (h : DataW.trod enc Try.prog w 0 (fun _ => true) true n 65 cs = some y) :
    ∃ x : Wr, cs = [.int .i64 x.vol, .int .i64 x.block, .string x.data] := by
  obtain ⟨ys, m, _, _, hlen, hyl, hf⟩ := DataW.trod_struct Try.underlying65 h
  rw [Try.cellsWrite] at hlen
  match cs, hlen with
  | [c0, c1, c2], _ =>
    match ys, hyl with
    | [y0, y1, y2], _ =>
      have f0 := hf 0 _ rfl
      have f1 := hf 1 _ rfl
      have f2 := hf 2 _ rfl
      clear hf h
      simp [Try.cellsInt] at f0
      simp [Try.cellsInt] at f1
      simp [Try.cellsStr] at f2
      obtain ⟨k, e0, _, _⟩ := DataW.trod_int Try.underlying3 f0
      obtain ⟨q, e1, _, _⟩ := DataW.trod_int Try.underlying3 f1
      obtain ⟨t, e2, _, _⟩ := DataW.trod_string Try.underlying9 f2
      simp only [List.cons.injEq, and_true] at e0 e1 e2
      subst e0 e1 e2
      exact ⟨⟨k, q, t⟩, rfl⟩

set_option maxRecDepth 100000 in
theorem open_writes {n : Nat} {A : Option Addr} {len cap : Nat} {y : DataW H × List MemPlace} (h : DataW.trod enc Try.prog w 0 (fun _ => true) true n 35 [.slice A len cap] = some y) :
    ∃ ws, ws.length = len ∧ WrsAt w w.heap.size A ws ∧ len ≤ 9223372036854775807 ∧ (A = none → cap = 0) := by
  rcases Deep.open_slice Try.underlying35 h with ⟨hcs, _⟩ | ⟨a, l, c, m, n', D, Pl, hcs, _, hl, hm, hmm, _, hi⟩
  · simp only [List.cons.injEq, Value.slice.injEq, and_true] at hcs
    obtain ⟨rfl, rfl, rfl⟩ := hcs
    exact ⟨[], rfl, .inl rfl, by omega, fun _ => rfl⟩
  · simp only [List.cons.injEq, Value.slice.injEq, and_true] at hcs
    obtain ⟨rfl, rfl, rfl⟩ := hcs
    simp only [if_true] at hmm
    subst hmm
    rw [Try.cellsWrite] at hi
    have hone : ∀ i, i < len → ∃ x : Wr, w.cell? ((a.add (i * 3)).add 0) = some (.int .i64 x.vol) ∧ w.cell? ((a.add (i * 3)).add 1) = some (.int .i64 x.block) ∧ w.cell? ((a.add (i * 3)).add 2) = some (.string x.data) := fun i hlt => by
      obtain ⟨cs, hc, ht⟩ := hi i (by omega)
      obtain ⟨x, rfl⟩ := open_write ht
      obtain ⟨_, _, hat⟩ := World.cells?_some hc
      exact ⟨x, hat 0 (by omega), hat 1 (by omega), hat 2 (by omega)⟩
    obtain ⟨L, hL, hp⟩ := list_of len hone
    refine ⟨L, hL, ?_, by unfold maxLen at hm; omega, fun e => by cases e⟩
    by_cases h0 : len = 0
    · exact .inl (List.eq_nil_of_length_eq_zero (by omega))
    · obtain ⟨h1, _⟩ := hp 0 (by omega)
      have ha : (a.add (0 * 3)).add 0 = a := by cases a; simp [Addr.add]
      rw [ha] at h1
      have e := plain_addr h1
      refine .inr ⟨a.block, a.off, by rw [← e], World.block_lt_of_cell? w _ h1, fun i hi => ?_⟩
      obtain ⟨g0, g1, g2⟩ := hp i hi
      rw [e, WideShapes.add_plain, WideShapes.add_plain] at g0 g1 g2
      exact ⟨g0, g1, g2⟩

set_option maxRecDepth 100000 in
theorem Try.cellsIntI : Try.prog.cellsOf 3 = 1 := by kernel_rfl
set_option maxRecDepth 100000 in
theorem open_nums {n : Nat} {A : Option Addr} {len cap : Nat} {y : DataW H × List MemPlace} (h : DataW.trod enc Try.prog w 0 (fun _ => true) true n 48 [.slice A len cap] = some y) :
    ∃ l : List Int, l.length = len ∧ Lies w w.heap.size A (l.map (Value.int .i64)) ∧ len ≤ 9223372036854775807 ∧ ∀ x ∈ l, -9223372036854775808 ≤ x ∧ x ≤ 9223372036854775807 := by
  rcases Deep.open_slice Try.underlying48 h with ⟨hcs, _⟩ | ⟨a, l, c, m, n', D, Pl, hcs, _, hl, hm, hmm, _, hi⟩
  · simp only [List.cons.injEq, Value.slice.injEq, and_true] at hcs
    obtain ⟨rfl, rfl, rfl⟩ := hcs
    exact ⟨[], rfl, .inl rfl, by omega, by simp⟩
  · simp only [List.cons.injEq, Value.slice.injEq, and_true] at hcs
    obtain ⟨rfl, rfl, rfl⟩ := hcs
    simp only [if_true] at hmm
    subst hmm
    rw [Try.cellsInt] at hi
    have hone : ∀ i, i < len → ∃ x : Int, w.cell? ((a.add (i * 1)).add 0) = some (.int .i64 x) ∧ -9223372036854775808 ≤ x ∧ x ≤ 9223372036854775807 := fun i hlt => by
      obtain ⟨cs, hc, ht⟩ := hi i (by omega)
      obtain ⟨x, rfl, _, hx⟩ := DataW.trod_int Try.underlying3 ht
      obtain ⟨_, _, hat⟩ := World.cells?_some hc
      have e1 : IntKind.i64.min = -9223372036854775808 := by decide
      have e2 : IntKind.i64.max = 9223372036854775807 := by decide
      simp [Lit.wf, e1, e2] at hx
      exact ⟨x, hat 0 (by omega), by omega, by omega⟩
    obtain ⟨L, hL, hp⟩ := list_of len hone
    refine ⟨L, hL, ?_, by unfold maxLen at hm; omega, fun x hx => ?_⟩
    · by_cases h0 : len = 0
      · exact .inl (by rw [List.eq_nil_of_length_eq_zero (by omega : L.length = 0)]; rfl)
      · obtain ⟨h1, _⟩ := hp 0 (by omega)
        have ha : (a.add (0 * 1)).add 0 = a := by cases a; simp [Addr.add]
        rw [ha] at h1
        have e := plain_addr h1
        refine .inr ⟨a.block, a.off, by rw [← e], World.block_lt_of_cell? w _ h1, fun i hi => ?_⟩
        have hi' : i < L.length := by simpa using hi
        obtain ⟨g0, _⟩ := hp i hi'
        rw [e, WideShapes.add_plain, WideShapes.add_plain] at g0
        simpa using g0
    · obtain ⟨i, hi, rfl⟩ := List.getElem_of_mem hx
      exact (hp i hi).2
end

set_option maxRecDepth 100000 in
theorem list_ofL {α : Type} {p : Nat → α → Prop} : ∀ n : Nat, (∀ i, i < n → ∃ x, p i x) → ∃ l : List α, l.length = n ∧ ∀ i, (h : i < l.length) → p i l[i]
  | 0, _ => ⟨[], rfl, fun i h => by simp at h⟩
  | n + 1, h => by
    obtain ⟨l, hl, hp⟩ := list_ofL n (fun i hi => h i (by omega))
    obtain ⟨x, hx⟩ := h n (by omega)
    refine ⟨l ++ [x], by simp [hl], fun i hi => ?_⟩
    by_cases e : i < l.length
    · rw [List.getElem_append_left e]; exact hp i e
    · have e2 : i = l.length := by simp at hi; omega
      subst e2
      rw [List.getElem_append_right (Nat.le_refl _)]
      simp only [Nat.sub_self, List.getElem_singleton]
      rw [hl]; exact hx

set_option maxRecDepth 100000 in
theorem plain_addrL {w : World} {a : Addr} {v : Value} (h : w.cell? a = some v) : a = ⟨a.block, a.off, none⟩ := by
  obtain ⟨b, o, s⟩ := a
  cases s with
  | none => rfl
  | some s =>
    simp only [World.cell?] at h
    split at h <;> simp at h

set_option maxRecDepth 100000 in
theorem wf_i64L {n : Int} (h : (Lit.int .i64 n).wf = true) : -9223372036854775808 ≤ n ∧ n ≤ 9223372036854775807 := by
  have e1 : IntKind.i64.min = -9223372036854775808 := by decide
  have e2 : IntKind.i64.max = 9223372036854775807 := by decide
  simp [Lit.wf, e1, e2] at h
  omega

set_option maxRecDepth 100000 in
theorem Try.cellsIntL17 : Try.prog.cellsOf 3 = 1 := by kernel_rfl

set_option maxRecDepth 100000 in
theorem Try.cellsBranches : Try.prog.cellsOf 22 = 1 := by kernel_rfl

set_option maxRecDepth 100000 in
theorem Try.cellsBranch : Try.prog.cellsOf 76 = 2 := by kernel_rfl

/-- All numbers of a line fit a word. -/
def BrsFit (ms : List Br) : Prop := ms.length ≤ 9223372036854775807 ∧ ∀ x ∈ ms, -9223372036854775808 ≤ x.1 ∧ x.1 ≤ 9223372036854775807 ∧ -9223372036854775808 ≤ x.2 ∧ x.2 ≤ 9223372036854775807

section
variable {H : Type} {enc : TypeId × Value → H} {w : World}

set_option maxRecDepth 100000 in
theorem open_branch {n : Nat} {cs : List Value} {y : DataW H × List MemPlace} (h : DataW.trod enc Try.prog w 0 (fun _ => true) true n 76 cs = some y) :
    ∃ x : Br, cs = [.int .i64 x.1, .int .i64 x.2] ∧ -9223372036854775808 ≤ x.1 ∧ x.1 ≤ 9223372036854775807 ∧ -9223372036854775808 ≤ x.2 ∧ x.2 ≤ 9223372036854775807 := by
  obtain ⟨ys, m, _, _, hlen, hyl, hf⟩ := DataW.trod_struct Try.underlying76 h
  rw [Try.cellsBranch] at hlen
  match cs, hlen with
  | [c0, c1], _ =>
    match ys, hyl with
    | [y0, y1], _ =>
      have f0 := hf 0 _ rfl
      have f1 := hf 1 _ rfl
      clear hf h
      simp [Try.cellsIntL17] at f0
      simp [Try.cellsIntL17] at f1
      obtain ⟨k, e0, _, k0⟩ := DataW.trod_int Try.underlying3 f0
      obtain ⟨q, e1, _, k1⟩ := DataW.trod_int Try.underlying3 f1
      simp only [List.cons.injEq, and_true] at e0 e1
      subst e0 e1
      have b0 := wf_i64L k0
      have b1 := wf_i64L k1
      exact ⟨(k, q), rfl, b0.1, b0.2, b1.1, b1.2⟩

set_option maxRecDepth 100000 in
theorem open_branches {n : Nat} {A : Option Addr} {len cap : Nat} {y : DataW H × List MemPlace} (h : DataW.trod enc Try.prog w 0 (fun _ => true) true n 22 [.slice A len cap] = some y) :
    ∃ ms : List Br, ms.length = len ∧ BrsAt w w.heap.size A ms ∧ BrsFit ms := by
  rcases Deep.open_slice Try.underlying22 h with ⟨hcs, _⟩ | ⟨a, l, c, m, n', D, Pl, hcs, _, hl, hm, hmm, _, hi⟩
  · simp only [List.cons.injEq, Value.slice.injEq, and_true] at hcs
    obtain ⟨rfl, rfl, rfl⟩ := hcs
    exact ⟨[], rfl, .inl rfl, ⟨by simp, by simp⟩⟩
  · simp only [List.cons.injEq, Value.slice.injEq, and_true] at hcs
    obtain ⟨rfl, rfl, rfl⟩ := hcs
    simp only [if_true] at hmm
    subst hmm
    rw [Try.cellsBranch] at hi
    have hone : ∀ i, i < len → ∃ x : Br, (-9223372036854775808 ≤ x.1 ∧ x.1 ≤ 9223372036854775807 ∧ -9223372036854775808 ≤ x.2 ∧ x.2 ≤ 9223372036854775807) ∧ w.cell? ((a.add (i * 2)).add 0) = some (.int .i64 x.1) ∧ w.cell? ((a.add (i * 2)).add 1) = some (.int .i64 x.2) := fun i hlt => by
      obtain ⟨cs, hc, ht⟩ := hi i (by omega)
      obtain ⟨x, rfl, hb⟩ := open_branch ht
      obtain ⟨_, _, hat⟩ := World.cells?_some hc
      exact ⟨x, hb, hat 0 (by omega), hat 1 (by omega)⟩
    obtain ⟨L, hL, hp⟩ := list_ofL len hone
    refine ⟨L, hL, ?_, ⟨by unfold maxLen at hm; omega, fun x hx => ?_⟩⟩
    · by_cases h0 : len = 0
      · exact .inl (List.eq_nil_of_length_eq_zero (by omega))
      · have h1 := (hp 0 (by omega)).2.1
        have ha : (a.add (0 * 2)).add 0 = a := by cases a; simp [Addr.add]
        rw [ha] at h1
        have e := plain_addrL h1
        refine .inr ⟨a.block, a.off, by rw [← e], World.block_lt_of_cell? w _ h1, fun i hi => ?_⟩
        obtain ⟨_, g0, g1⟩ := hp i hi
        rw [e, WideShapes.add_plain, WideShapes.add_plain] at g0 g1
        exact ⟨g0, g1⟩
    · obtain ⟨i, hi, rfl⟩ := List.getElem_of_mem hx
      exact (hp i hi).1

set_option maxRecDepth 100000 in
theorem open_slice_cell {n : Nat} {v : Value} {y : DataW H × List MemPlace} (h : DataW.trod enc Try.prog w 0 (fun _ => true) true n 22 [v] = some y) : ∃ A len cap, v = .slice A len cap := by
  rcases Deep.open_slice Try.underlying22 h with ⟨hcs, _⟩ | ⟨a, l, c, m, n', D, Pl, hcs, _⟩
  · simp only [List.cons.injEq, and_true] at hcs; exact ⟨_, _, _, hcs⟩
  · simp only [List.cons.injEq, and_true] at hcs; exact ⟨_, _, _, hcs⟩

set_option maxRecDepth 100000 in
theorem Try.cellsPos : Try.prog.cellsOf 46 = 2 := by kernel_rfl
set_option maxRecDepth 100000 in
/-- A place as an argument. -/
theorem open_pos {v : Value} {d : DataW H} {p : List MemPlace} {g : Nat} (hv : Value.okWide Try.prog w .any g 46 v) (h : DataW.Trod enc Try.prog w 0 (fun _ => true) true 46 v d p) :
    ∃ (A : Option Addr) (c : Nat) (ms : List Br) (q : Int), v = .agg #[.slice A ms.length c, .int .i64 q] ∧ BrsAt w w.heap.size A ms ∧ BrsFit ms ∧ -9223372036854775808 ≤ q ∧ q ≤ 9223372036854775807 := by
  obtain ⟨cs, rfl, hsz⟩ := okWide_struct Try.underlying46 hv
  rw [Try.cellsPos] at hsz
  obtain ⟨fuel, hf⟩ := h
  obtain ⟨ys, m, _, _, hlen, hyl, hf⟩ := DataW.trod_struct Try.underlying46 hf
  obtain ⟨⟨c0, c1, rfl⟩⟩ : Nonempty (∃ c0 c1, cs = #[c0, c1]) := by
    obtain ⟨l⟩ := cs
    match l, hsz with
    | [c0, c1], _ => exact ⟨c0, c1, rfl⟩
  match ys, hyl with
  | [y0, y1], _ =>
    have f0 := hf 0 _ rfl
    have f1 := hf 1 _ rfl
    clear hf
    simp [Value.cells, Try.cellsBranches] at f0
    simp [Value.cells, Try.cellsIntL17] at f1
    obtain ⟨A, len, cap, rfl⟩ := open_slice_cell f0
    obtain ⟨ms, rfl, h1, h2⟩ := open_branches f0
    obtain ⟨k, e0, _, k0⟩ := DataW.trod_int Try.underlying3 f1
    simp only [List.cons.injEq, and_true] at e0
    subst e0
    have b0 := wf_i64L k0
    exact ⟨A, cap, ms, k, rfl, h1, h2, b0.1, b0.2⟩
end

set_option maxRecDepth 100000 in
theorem Try.cellsU64 : Try.prog.cellsOf 122 = 1 := by kernel_rfl

set_option maxRecDepth 100000 in
theorem Try.cellsBits : Try.prog.cellsOf 124 = 2 := by kernel_rfl

section
variable {H : Type} {enc : TypeId × Value → H} {w : World}

set_option maxRecDepth 100000 in
theorem open_bit {n : Nat} {cs : List Value} {y : DataW H × List MemPlace} (h : DataW.trod enc Try.prog w 0 (fun _ => true) true n 124 cs = some y) :
    ∃ x : Bt, cs = [.int .i64 x.vol, .int .u64 x.mask] ∧ 0 ≤ x.mask ∧ x.mask < 18446744073709551616 := by
  obtain ⟨ys, m, _, _, hlen, hyl, hf⟩ := DataW.trod_struct Try.underlying124 h
  rw [Try.cellsBits] at hlen
  match cs, hlen with
  | [c0, c1], _ =>
    match ys, hyl with
    | [y0, y1], _ =>
      have f0 := hf 0 _ rfl
      have f1 := hf 1 _ rfl
      clear hf h
      simp [Try.cellsInt] at f0
      simp [Try.cellsU64] at f1
      obtain ⟨k, e0, _, _⟩ := DataW.trod_int Try.underlying3 f0
      obtain ⟨q, e1, _, hx⟩ := DataW.trod_int Try.underlying122 f1
      simp only [List.cons.injEq, and_true] at e0 e1
      subst e0 e1
      have e1 : IntKind.u64.min = 0 := by decide
      have e2 : IntKind.u64.max = 18446744073709551615 := by decide
      simp [Lit.wf, e1, e2] at hx
      exact ⟨⟨k, q⟩, rfl, by show 0 ≤ q; omega, by show q < _; omega⟩

set_option maxRecDepth 100000 in
theorem open_bits {n : Nat} {A : Option Addr} {len cap : Nat} {y : DataW H × List MemPlace} (h : DataW.trod enc Try.prog w 0 (fun _ => true) true n 47 [.slice A len cap] = some y) :
    ∃ ms : List Bt, ms.length = len ∧ BtsAt w w.heap.size A ms ∧ BtsFit ms := by
  rcases Deep.open_slice Try.underlying47 h with ⟨hcs, _⟩ | ⟨a, l, c, m, n', D, Pl, hcs, _, hl, hm, hmm, _, hi⟩
  · simp only [List.cons.injEq, Value.slice.injEq, and_true] at hcs
    obtain ⟨rfl, rfl, rfl⟩ := hcs
    exact ⟨[], rfl, .inl rfl, by simp, by simp⟩
  · simp only [List.cons.injEq, Value.slice.injEq, and_true] at hcs
    obtain ⟨rfl, rfl, rfl⟩ := hcs
    simp only [if_true] at hmm
    subst hmm
    rw [Try.cellsBits] at hi
    have hone : ∀ i, i < len → ∃ x : Bt, (w.cell? ((a.add (i * 2)).add 0) = some (.int .i64 x.vol) ∧ w.cell? ((a.add (i * 2)).add 1) = some (.int .u64 x.mask)) ∧ 0 ≤ x.mask ∧ x.mask < 18446744073709551616 := fun i hlt => by
      obtain ⟨cs, hc, ht⟩ := hi i (by omega)
      obtain ⟨x, rfl, hx⟩ := open_bit ht
      obtain ⟨_, _, hat⟩ := World.cells?_some hc
      exact ⟨x, ⟨hat 0 (by omega), hat 1 (by omega)⟩, hx⟩
    obtain ⟨L, hL, hp⟩ := list_of len hone
    refine ⟨L, hL, ?_, by unfold maxLen at hm; omega, fun b hb => ?_⟩
    · by_cases h0 : len = 0
      · exact .inl (List.eq_nil_of_length_eq_zero (by omega))
      · obtain ⟨⟨h1, _⟩, _⟩ := hp 0 (by omega)
        have ha : (a.add (0 * 2)).add 0 = a := by cases a; simp [Addr.add]
        rw [ha] at h1
        have e := plain_addr h1
        refine .inr ⟨a.block, a.off, by rw [← e], World.block_lt_of_cell? w _ h1, fun i hi => ?_⟩
        obtain ⟨⟨g0, g1⟩, _⟩ := hp i hi
        rw [e, WideShapes.add_plain, WideShapes.add_plain] at g0 g1
        exact ⟨g0, g1⟩
    · obtain ⟨i, hi, rfl⟩ := List.getElem_of_mem hb
      exact (hp i hi).2
end

end Go.Proofs.Ytkpoeigoocbgeaa
