/- Arguments of the laws on volumes in memory: how lists of volumes and of writes are opened. -/
import Derived.Test.YthajgoigmkkbgaaVolM
import Derived.Deep.Grids
import Derived.Deep.Fields
import Derived.ChangeArms
import Derived.ProofKit
import Derived.OpenShut
import Derived.SliceStrings
import Derived.ShutString
namespace Go.Proofs.Ythajgoigmkkbgaa
open Go.RowKit
open Go.ChangeShapes Go.WideShapes Go.ChangeAt

theorem list_of {α : Type} {p : Nat → α → Prop} : ∀ n : Nat, (∀ i, i < n → ∃ x, p i x) → ∃ l : List α, l.length = n ∧ ∀ i, (h : i < l.length) → p i l[i]
  | 0, _ => ⟨[], rfl, fun i h => by simp at h⟩
  | n + 1, h => by
    obtain ⟨l, hl, hp⟩ := list_of n (fun i hi => h i (by omega))
    obtain ⟨x, hx⟩ := h n (by omega)
    refine ⟨l ++ [x], by simp [hl], fun i hi => ?_⟩
    by_cases e : i < l.length
    · rw [List.getElem_append_left e]; exact hp i e
    · have e2 : i = l.length := by simp at hi; omega
      subst e2
      rw [List.getElem_append_right (Nat.le_refl _)]
      simp only [Nat.sub_self, List.getElem_singleton]
      rw [hl]; exact hx

theorem plain_addr {w : World} {a : Addr} {v : Value} (h : w.cell? a = some v) : a = ⟨a.block, a.off, none⟩ := by
  obtain ⟨b, o, s⟩ := a
  cases s with
  | none => rfl
  | some s =>
    simp only [World.cell?] at h
    split at h <;> simp at h

theorem Try.cellsInt : Try.prog.cellsOf 3 = 1 := by kernel_rfl
theorem Try.cellsStr : Try.prog.cellsOf 9 = 1 := by kernel_rfl
theorem Try.cellsStrs : Try.prog.cellsOf 81 = 1 := by kernel_rfl
theorem Try.cellsVol : Try.prog.cellsOf 83 = 2 := by kernel_rfl
theorem Try.cellsWrite : Try.prog.cellsOf 74 = 3 := by kernel_rfl

section
variable {H : Type} {enc : TypeId × Value → H} {w : World}

theorem open_texts {n : Nat} {A : Option Addr} {len cap : Nat} {y : DataW H × List MemPlace} (h : DataW.trod enc Try.prog w 0 (fun _ => true) true n 81 [.slice A len cap] = some y) :
    len ≤ 9223372036854775807 ∧ ∃ bs : List ByteArray, bs.length = len ∧ Lies w w.heap.size A (bs.map Value.string) := by
  rcases open_strings Try.underlying81 Try.underlying9 (by kernel_rfl) h with ⟨hcs, _⟩ | ⟨x, l, c, ss, hcs, _, hl, hm, hz, hx, hcell, hws⟩
  · simp only [List.cons.injEq, Value.slice.injEq, and_true] at hcs
    obtain ⟨rfl, rfl, rfl⟩ := hcs
    exact ⟨by omega, [], rfl, .inl rfl⟩
  · simp only [List.cons.injEq, Value.slice.injEq, and_true] at hcs
    obtain ⟨rfl, rfl, rfl⟩ := hcs
    have hz' : ss.length = cap := by simpa using hz
    refine ⟨by unfold maxLen at hm; omega, ss.take len, by rw [List.length_take]; omega, ?_⟩
    by_cases h0 : len = 0
    · subst h0; exact .inl (by simp)
    · have h1 := hcell 0 (by omega)
      have ha : x.add 0 = x := by cases x; simp [Addr.add]
      rw [ha] at h1
      have e := plain_addr h1
      refine .inr ⟨x.block, x.off, by rw [← e], World.block_lt_of_cell? w _ h1, fun i hi => ?_⟩
      have hi' : i < len ∧ i < ss.length := by rw [List.length_map, List.length_take] at hi; omega
      have h2 := hcell i hi'.2
      rw [e, WideShapes.add_plain] at h2
      rw [h2]
      simp [List.getD, List.getElem?_eq_getElem hi'.2]

set_option maxRecDepth 100000 in
theorem open_vol {n : Nat} {cs : List Value} {y : DataW H × List MemPlace} (h : DataW.trod enc Try.prog w 0 (fun _ => true) true n 83 cs = some y) :
    ∃ (v : Vl) (a : Option Addr) (c : Nat), cs = [.int .i64 v.1, .slice a v.2.length c] ∧ v.2.length ≤ 9223372036854775807 ∧ Lies w w.heap.size a (v.2.map Value.string) := by
  obtain ⟨ys, m, _, _, hlen, hyl, hf⟩ := DataW.trod_struct Try.underlying83 h
  rw [Try.cellsVol] at hlen
  match cs, hlen with
  | [c0, c1], _ =>
    match ys, hyl with
    | [y0, y1], _ =>
      have f0 := hf 0 _ rfl
      have f1 := hf 1 _ rfl
      clear hf h
      simp [Try.cellsInt] at f0
      simp [Try.cellsStrs] at f1
      obtain ⟨k, e0, _, k0⟩ := DataW.trod_int Try.underlying3 f0
      simp only [List.cons.injEq, and_true] at e0
      subst e0
      obtain ⟨A, len, cap, rfl⟩ : ∃ A len cap, c1 = .slice A len cap := by
        rcases open_strings Try.underlying81 Try.underlying9 (by kernel_rfl) f1 with ⟨hcs, _⟩ | ⟨x, l, c, ss, hcs, _⟩
        · simp only [List.cons.injEq, and_true] at hcs; exact ⟨_, _, _, hcs⟩
        · simp only [List.cons.injEq, and_true] at hcs; exact ⟨_, _, _, hcs⟩
      obtain ⟨hl, bs, hb1, hb2⟩ := open_texts f1
      subst hb1
      exact ⟨(k, bs), A, cap, rfl, hl, hb2⟩

set_option maxRecDepth 100000 in
theorem open_vols {n : Nat} {A : Option Addr} {len cap : Nat} {y : DataW H × List MemPlace} (h : DataW.trod enc Try.prog w 0 (fun _ => true) true n 47 [.slice A len cap] = some y) :
    ∃ vs, vs.length = len ∧ VolsAt w w.heap.size A vs ∧ VolsFit vs := by
  rcases Deep.open_slice Try.underlying47 h with ⟨hcs, _⟩ | ⟨a, l, c, m, n', D, Pl, hcs, _, hl, hm, hmm, _, hi⟩
  · simp only [List.cons.injEq, Value.slice.injEq, and_true] at hcs
    obtain ⟨rfl, rfl, rfl⟩ := hcs
    exact ⟨[], rfl, .inl rfl, ⟨by simp, by simp⟩⟩
  · simp only [List.cons.injEq, Value.slice.injEq, and_true] at hcs
    obtain ⟨rfl, rfl, rfl⟩ := hcs
    simp only [if_true] at hmm
    subst hmm
    rw [Try.cellsVol] at hi
    have hone : ∀ i, i < len → ∃ v : Vl, v.2.length ≤ 9223372036854775807 ∧ ∃ (a' : Option Addr) (c' : Nat), w.cell? ((a.add (i * 2)).add 0) = some (.int .i64 v.1) ∧ w.cell? ((a.add (i * 2)).add 1) = some (.slice a' v.2.length c') ∧ Lies w w.heap.size a' (v.2.map Value.string) := fun i hlt => by
      obtain ⟨cs, hc, ht⟩ := hi i (by omega)
      obtain ⟨v, a', c', rfl, h1, h2⟩ := open_vol ht
      obtain ⟨_, _, hat⟩ := World.cells?_some hc
      exact ⟨v, h1, a', c', hat 0 (by omega), hat 1 (by omega), h2⟩
    obtain ⟨L, hL, hp⟩ := list_of len hone
    refine ⟨L, hL, ?_, ⟨by unfold maxLen at hm; omega, fun v hv => ?_⟩⟩
    · by_cases h0 : len = 0
      · exact .inl (List.eq_nil_of_length_eq_zero (by omega))
      · obtain ⟨_, a', c', h1, _⟩ := hp 0 (by omega)
        have ha : (a.add (0 * 2)).add 0 = a := by cases a; simp [Addr.add]
        rw [ha] at h1
        have e := plain_addr h1
        refine .inr ⟨a.block, a.off, by rw [← e], World.block_lt_of_cell? w _ h1, fun i hi => ?_⟩
        obtain ⟨_, a'', c'', g0, g1, g2⟩ := hp i hi
        rw [e, WideShapes.add_plain, WideShapes.add_plain] at g0 g1
        exact ⟨a'', c'', g0, g1, g2⟩
    · obtain ⟨i, hi, rfl⟩ := List.getElem_of_mem hv
      exact (hp i hi).1

set_option maxRecDepth 100000 in
theorem open_write {n : Nat} {cs : List Value} {y : DataW H × List MemPlace} (h : DataW.trod enc Try.prog w 0 (fun _ => true) true n 74 cs = some y) :
    ∃ x : Wr, cs = [.int .i64 x.vol, .int .i64 x.block, .string x.data] := by
  obtain ⟨ys, m, _, _, hlen, hyl, hf⟩ := DataW.trod_struct Try.underlying74 h
  rw [Try.cellsWrite] at hlen
  match cs, hlen with
  | [c0, c1, c2], _ =>
    match ys, hyl with
    | [y0, y1, y2], _ =>
      have f0 := hf 0 _ rfl
      have f1 := hf 1 _ rfl
      have f2 := hf 2 _ rfl
      clear hf h
      simp [Try.cellsInt] at f0
      simp [Try.cellsInt] at f1
      simp [Try.cellsStr] at f2
      obtain ⟨k, e0, _, _⟩ := DataW.trod_int Try.underlying3 f0
      obtain ⟨q, e1, _, _⟩ := DataW.trod_int Try.underlying3 f1
      obtain ⟨t, e2, _, _⟩ := DataW.trod_string Try.underlying9 f2
      simp only [List.cons.injEq, and_true] at e0 e1 e2
      subst e0 e1 e2
      exact ⟨⟨k, q, t⟩, rfl⟩

set_option maxRecDepth 100000 in
theorem open_writes {n : Nat} {A : Option Addr} {len cap : Nat} {y : DataW H × List MemPlace} (h : DataW.trod enc Try.prog w 0 (fun _ => true) true n 25 [.slice A len cap] = some y) :
    ∃ ws, ws.length = len ∧ WrsAt w w.heap.size A ws ∧ len ≤ 9223372036854775807 ∧ (A = none → cap = 0) := by
  rcases Deep.open_slice Try.underlying25 h with ⟨hcs, _⟩ | ⟨a, l, c, m, n', D, Pl, hcs, _, hl, hm, hmm, _, hi⟩
  · simp only [List.cons.injEq, Value.slice.injEq, and_true] at hcs
    obtain ⟨rfl, rfl, rfl⟩ := hcs
    exact ⟨[], rfl, .inl rfl, by omega, fun _ => rfl⟩
  · simp only [List.cons.injEq, Value.slice.injEq, and_true] at hcs
    obtain ⟨rfl, rfl, rfl⟩ := hcs
    simp only [if_true] at hmm
    subst hmm
    rw [Try.cellsWrite] at hi
    have hone : ∀ i, i < len → ∃ x : Wr, w.cell? ((a.add (i * 3)).add 0) = some (.int .i64 x.vol) ∧ w.cell? ((a.add (i * 3)).add 1) = some (.int .i64 x.block) ∧ w.cell? ((a.add (i * 3)).add 2) = some (.string x.data) := fun i hlt => by
      obtain ⟨cs, hc, ht⟩ := hi i (by omega)
      obtain ⟨x, rfl⟩ := open_write ht
      obtain ⟨_, _, hat⟩ := World.cells?_some hc
      exact ⟨x, hat 0 (by omega), hat 1 (by omega), hat 2 (by omega)⟩
    obtain ⟨L, hL, hp⟩ := list_of len hone
    refine ⟨L, hL, ?_, by unfold maxLen at hm; omega, fun e => by cases e⟩
    by_cases h0 : len = 0
    · exact .inl (List.eq_nil_of_length_eq_zero (by omega))
    · obtain ⟨h1, _⟩ := hp 0 (by omega)
      have ha : (a.add (0 * 3)).add 0 = a := by cases a; simp [Addr.add]
      rw [ha] at h1
      have e := plain_addr h1
      refine .inr ⟨a.block, a.off, by rw [← e], World.block_lt_of_cell? w _ h1, fun i hi => ?_⟩
      obtain ⟨g0, g1, g2⟩ := hp i hi
      rw [e, WideShapes.add_plain, WideShapes.add_plain] at g0 g1 g2
      exact ⟨g0, g1, g2⟩

theorem Try.cellsIntI : Try.prog.cellsOf 3 = 1 := by kernel_rfl
end
end Go.Proofs.Ythajgoigmkkbgaa
