/- Arguments of the laws on lineages: how branches and places are opened. -/
import Derived.Test.YtokdicaoonjimaaLineM
import Derived.Deep.Grids
import Derived.Deep.Fields
import Derived.ChangeArms
import Derived.ProofKit
import Derived.OpenShut
import Derived.SliceStrings
import Derived.ShutString
namespace Go.Proofs.Ytokdicaoonjimaa
open Go.RowKit
open Go.ChangeShapes Go.WideShapes Go.ChangeAt

theorem list_of {α : Type} {p : Nat → α → Prop} : ∀ n : Nat, (∀ i, i < n → ∃ x, p i x) → ∃ l : List α, l.length = n ∧ ∀ i, (h : i < l.length) → p i l[i]
  | 0, _ => ⟨[], rfl, fun i h => by simp at h⟩
  | n + 1, h => by
    obtain ⟨l, hl, hp⟩ := list_of n (fun i hi => h i (by omega))
    obtain ⟨x, hx⟩ := h n (by omega)
    refine ⟨l ++ [x], by simp [hl], fun i hi => ?_⟩
    by_cases e : i < l.length
    · rw [List.getElem_append_left e]; exact hp i e
    · have e2 : i = l.length := by simp at hi; omega
      subst e2
      rw [List.getElem_append_right (Nat.le_refl _)]
      simp only [Nat.sub_self, List.getElem_singleton]
      rw [hl]; exact hx

theorem plain_addr {w : World} {a : Addr} {v : Value} (h : w.cell? a = some v) : a = ⟨a.block, a.off, none⟩ := by
  obtain ⟨b, o, s⟩ := a
  cases s with
  | none => rfl
  | some s =>
    simp only [World.cell?] at h
    split at h <;> simp at h
theorem wf_i64 {n : Int} (h : (Lit.int .i64 n).wf = true) : -9223372036854775808 ≤ n ∧ n ≤ 9223372036854775807 := by
  have e1 : IntKind.i64.min = -9223372036854775808 := by decide
  have e2 : IntKind.i64.max = 9223372036854775807 := by decide
  simp [Lit.wf, e1, e2] at h
  omega

theorem Try.cellsInt : Try.prog.cellsOf 3 = 1 := by kernel_rfl
theorem Try.cellsBranches : Try.prog.cellsOf 22 = 1 := by kernel_rfl
theorem Try.cellsBranch : Try.prog.cellsOf 31 = 2 := by kernel_rfl

/-- All numbers of a line fit a word. -/
def BrsFit (ms : List Br) : Prop := ms.length ≤ 9223372036854775807 ∧ ∀ x ∈ ms, -9223372036854775808 ≤ x.1 ∧ x.1 ≤ 9223372036854775807 ∧ -9223372036854775808 ≤ x.2 ∧ x.2 ≤ 9223372036854775807

section
variable {H : Type} {enc : TypeId × Value → H} {w : World}

theorem open_branch {n : Nat} {cs : List Value} {y : DataW H × List MemPlace} (h : DataW.trod enc Try.prog w 0 (fun _ => true) true n 31 cs = some y) :
    ∃ x : Br, cs = [.int .i64 x.1, .int .i64 x.2] ∧ -9223372036854775808 ≤ x.1 ∧ x.1 ≤ 9223372036854775807 ∧ -9223372036854775808 ≤ x.2 ∧ x.2 ≤ 9223372036854775807 := by
  obtain ⟨ys, m, _, _, hlen, hyl, hf⟩ := DataW.trod_struct Try.underlying31 h
  rw [Try.cellsBranch] at hlen
  match cs, hlen with
  | [c0, c1], _ =>
    match ys, hyl with
    | [y0, y1], _ =>
      have f0 := hf 0 _ rfl
      have f1 := hf 1 _ rfl
      clear hf h
      simp [Try.cellsInt] at f0
      simp [Try.cellsInt] at f1
      obtain ⟨k, e0, _, k0⟩ := DataW.trod_int Try.underlying3 f0
      obtain ⟨q, e1, _, k1⟩ := DataW.trod_int Try.underlying3 f1
      simp only [List.cons.injEq, and_true] at e0 e1
      subst e0 e1
      have b0 := wf_i64 k0
      have b1 := wf_i64 k1
      exact ⟨(k, q), rfl, b0.1, b0.2, b1.1, b1.2⟩

theorem open_branches {n : Nat} {A : Option Addr} {len cap : Nat} {y : DataW H × List MemPlace} (h : DataW.trod enc Try.prog w 0 (fun _ => true) true n 22 [.slice A len cap] = some y) :
    ∃ ms : List Br, ms.length = len ∧ BrsAt w w.heap.size A ms ∧ BrsFit ms := by
  rcases Deep.open_slice Try.underlying22 h with ⟨hcs, _⟩ | ⟨a, l, c, m, n', D, Pl, hcs, _, hl, hm, hmm, _, hi⟩
  · simp only [List.cons.injEq, Value.slice.injEq, and_true] at hcs
    obtain ⟨rfl, rfl, rfl⟩ := hcs
    exact ⟨[], rfl, .inl rfl, ⟨by simp, by simp⟩⟩
  · simp only [List.cons.injEq, Value.slice.injEq, and_true] at hcs
    obtain ⟨rfl, rfl, rfl⟩ := hcs
    simp only [if_true] at hmm
    subst hmm
    rw [Try.cellsBranch] at hi
    have hone : ∀ i, i < len → ∃ x : Br, (-9223372036854775808 ≤ x.1 ∧ x.1 ≤ 9223372036854775807 ∧ -9223372036854775808 ≤ x.2 ∧ x.2 ≤ 9223372036854775807) ∧ w.cell? ((a.add (i * 2)).add 0) = some (.int .i64 x.1) ∧ w.cell? ((a.add (i * 2)).add 1) = some (.int .i64 x.2) := fun i hlt => by
      obtain ⟨cs, hc, ht⟩ := hi i (by omega)
      obtain ⟨x, rfl, hb⟩ := open_branch ht
      obtain ⟨_, _, hat⟩ := World.cells?_some hc
      exact ⟨x, hb, hat 0 (by omega), hat 1 (by omega)⟩
    obtain ⟨L, hL, hp⟩ := list_of len hone
    refine ⟨L, hL, ?_, ⟨by unfold maxLen at hm; omega, fun x hx => ?_⟩⟩
    · by_cases h0 : len = 0
      · exact .inl (List.eq_nil_of_length_eq_zero (by omega))
      · have h1 := (hp 0 (by omega)).2.1
        have ha : (a.add (0 * 2)).add 0 = a := by cases a; simp [Addr.add]
        rw [ha] at h1
        have e := plain_addr h1
        refine .inr ⟨a.block, a.off, by rw [← e], World.block_lt_of_cell? w _ h1, fun i hi => ?_⟩
        obtain ⟨_, g0, g1⟩ := hp i hi
        rw [e, WideShapes.add_plain, WideShapes.add_plain] at g0 g1
        exact ⟨g0, g1⟩
    · obtain ⟨i, hi, rfl⟩ := List.getElem_of_mem hx
      exact (hp i hi).1

theorem open_slice_cell {n : Nat} {v : Value} {y : DataW H × List MemPlace} (h : DataW.trod enc Try.prog w 0 (fun _ => true) true n 22 [v] = some y) : ∃ A len cap, v = .slice A len cap := by
  rcases Deep.open_slice Try.underlying22 h with ⟨hcs, _⟩ | ⟨a, l, c, m, n', D, Pl, hcs, _⟩
  · simp only [List.cons.injEq, and_true] at hcs; exact ⟨_, _, _, hcs⟩
  · simp only [List.cons.injEq, and_true] at hcs; exact ⟨_, _, _, hcs⟩

theorem Try.cellsPos : Try.prog.cellsOf 36 = 2 := by kernel_rfl
/-- A place as an argument. -/
theorem open_pos {v : Value} {d : DataW H} {p : List MemPlace} {g : Nat} (hv : Value.okWide Try.prog w .any g 36 v) (h : DataW.Trod enc Try.prog w 0 (fun _ => true) true 36 v d p) :
    ∃ (A : Option Addr) (c : Nat) (ms : List Br) (q : Int), v = .agg #[.slice A ms.length c, .int .i64 q] ∧ BrsAt w w.heap.size A ms ∧ BrsFit ms ∧ -9223372036854775808 ≤ q ∧ q ≤ 9223372036854775807 := by
  obtain ⟨cs, rfl, hsz⟩ := okWide_struct Try.underlying36 hv
  rw [Try.cellsPos] at hsz
  obtain ⟨fuel, hf⟩ := h
  obtain ⟨ys, m, _, _, hlen, hyl, hf⟩ := DataW.trod_struct Try.underlying36 hf
  obtain ⟨⟨c0, c1, rfl⟩⟩ : Nonempty (∃ c0 c1, cs = #[c0, c1]) := by
    obtain ⟨l⟩ := cs
    match l, hsz with
    | [c0, c1], _ => exact ⟨c0, c1, rfl⟩
  match ys, hyl with
  | [y0, y1], _ =>
    have f0 := hf 0 _ rfl
    have f1 := hf 1 _ rfl
    clear hf
    simp [Value.cells, Try.cellsBranches] at f0
    simp [Value.cells, Try.cellsInt] at f1
    obtain ⟨A, len, cap, rfl⟩ := open_slice_cell f0
    obtain ⟨ms, rfl, h1, h2⟩ := open_branches f0
    obtain ⟨k, e0, _, k0⟩ := DataW.trod_int Try.underlying3 f1
    simp only [List.cons.injEq, and_true] at e0
    subst e0
    have b0 := wf_i64 k0
    exact ⟨A, cap, ms, k, rfl, h1, h2, b0.1, b0.2⟩
end
end Go.Proofs.Ytokdicaoonjimaa
