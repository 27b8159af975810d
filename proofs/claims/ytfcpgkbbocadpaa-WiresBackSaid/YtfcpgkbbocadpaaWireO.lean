/- Arguments of the laws on packets in transit: how a packet and a list of packets are opened. -/
import Derived.Test.YtfcpgkbbocadpaaWireA
import Derived.Deep.Grids
import Derived.Deep.Fields
import Derived.ChangeArms
import Derived.ProofKit
import Derived.OpenShut
import Derived.SliceStrings
import Derived.ShutString
namespace Go.Proofs.Ytfcpgkbbocadpaa
open Go.RowKit
open Go.ChangeShapes Go.WideShapes Go.ChangeAt

theorem list_of {α : Type} {p : Nat → α → Prop} : ∀ n : Nat, (∀ i, i < n → ∃ x, p i x) → ∃ l : List α, l.length = n ∧ ∀ i, (h : i < l.length) → p i l[i]
  | 0, _ => ⟨[], rfl, fun i h => by simp at h⟩
  | n + 1, h => by
    obtain ⟨l, hl, hp⟩ := list_of n (fun i hi => h i (by omega))
    obtain ⟨x, hx⟩ := h n (by omega)
    refine ⟨l ++ [x], by simp [hl], fun i hi => ?_⟩
    by_cases e : i < l.length
    · rw [List.getElem_append_left e]; exact hp i e
    · have e2 : i = l.length := by simp at hi; omega
      subst e2
      rw [List.getElem_append_right (Nat.le_refl _)]
      simp only [Nat.sub_self, List.getElem_singleton]
      rw [hl]; exact hx
theorem plain_addr {w : World} {a : Addr} {v : Value} (h : w.cell? a = some v) : a = ⟨a.block, a.off, none⟩ := by
  obtain ⟨b, o, s⟩ := a
  cases s with
  | none => rfl
  | some s =>
    simp only [World.cell?] at h
    split at h <;> simp at h
theorem wf_i64 {n : Int} (h : (Lit.int .i64 n).wf = true) : -9223372036854775808 ≤ n ∧ n ≤ 9223372036854775807 := by
  have e1 : IntKind.i64.min = -9223372036854775808 := by decide
  have e2 : IntKind.i64.max = 9223372036854775807 := by decide
  simp [Lit.wf, e1, e2] at h
  omega

theorem Try.cellsIntW : Try.prog.cellsOf 3 = 1 := by kernel_rfl
theorem Try.cellsStrW : Try.prog.cellsOf 9 = 1 := by kernel_rfl
theorem Try.cellsWpk : Try.prog.cellsOf 24 = 2 := by kernel_rfl
def WPk.val (p : WPk) : Value := .agg #[.int .i64 p.to_, .string (str p.s)]

section
variable {H : Type} {enc : TypeId × Value → H} {w : World}

set_option maxRecDepth 100000 in
theorem open_wpk_cells {n : Nat} {cs : List Value} {y : DataW H × List MemPlace} (h : DataW.trod enc Try.prog w 0 (fun _ => true) true n 24 cs = some y) :
    ∃ x : WPk, cs = [.int .i64 x.to_, .string (str x.s)] ∧ x.s.length ≤ maxLen ∧ -9223372036854775808 ≤ x.to_ ∧ x.to_ ≤ 9223372036854775807 := by
  obtain ⟨ys, m, _, _, hlen, hyl, hf⟩ := DataW.trod_struct Try.underlying24 h
  rw [Try.cellsWpk] at hlen
  match cs, hlen with
  | [c0, c1], _ =>
    match ys, hyl with
    | [y0, y1], _ =>
      have f0 := hf 0 _ rfl
      have f1 := hf 1 _ rfl
      clear hf h
      simp [Try.cellsIntW] at f0
      simp [Try.cellsStrW] at f1
      obtain ⟨k, e0, _, k0⟩ := DataW.trod_int Try.underlying3 f0
      obtain ⟨t, e1, _, k1⟩ := DataW.trod_string Try.underlying9 f1
      simp only [List.cons.injEq, and_true] at e0 e1
      subst e0 e1
      have b0 := wf_i64 k0
      exact ⟨⟨k, t.data.toList⟩, rfl, by rw [list_length]; exact k1, b0.1, b0.2⟩

set_option maxRecDepth 100000 in
/-- A packet as an argument. -/
theorem open_wpk {v : Value} {d : DataW H} {p : List MemPlace} {g : Nat} (hv : Value.okWide Try.prog w .any g 24 v) (h : DataW.Trod enc Try.prog w 0 (fun _ => true) true 24 v d p) :
    ∃ x : WPk, v = x.val ∧ x.s.length ≤ maxLen ∧ -9223372036854775808 ≤ x.to_ ∧ x.to_ ≤ 9223372036854775807 := by
  obtain ⟨cs, rfl, hsz⟩ := okWide_struct Try.underlying24 hv
  rw [Try.cellsWpk] at hsz
  obtain ⟨fuel, hf⟩ := h
  obtain ⟨⟨c0, c1, rfl⟩⟩ : Nonempty (∃ c0 c1, cs = #[c0, c1]) := by
    obtain ⟨l⟩ := cs
    match l, hsz with
    | [c0, c1], _ => exact ⟨c0, c1, rfl⟩
  obtain ⟨x, hc, hx⟩ := open_wpk_cells hf
  simp only [Value.cells, List.cons.injEq, and_true] at hc
  obtain ⟨rfl, rfl⟩ := hc
  exact ⟨x, rfl, hx⟩

set_option maxRecDepth 100000 in
theorem open_wpks {n : Nat} {A : Option Addr} {len cap : Nat} {y : DataW H × List MemPlace} (h : DataW.trod enc Try.prog w 0 (fun _ => true) true n 22 [.slice A len cap] = some y) :
    ∃ l : List WPk, l.length = len ∧ WpAt w w.heap.size A l ∧ l.length ≤ maxLen ∧ (A = none → cap = 0) ∧ len ≤ cap := by
  rcases Deep.open_slice Try.underlying22 h with ⟨hcs, _⟩ | ⟨a, l, c, m, n', D, Pl, hcs, _, hl, hm, hmm, _, hi⟩
  · simp only [List.cons.injEq, Value.slice.injEq, and_true] at hcs
    obtain ⟨rfl, rfl, rfl⟩ := hcs
    exact ⟨[], rfl, .inl rfl, by simp, fun _ => rfl, Nat.le_refl _⟩
  · simp only [List.cons.injEq, Value.slice.injEq, and_true] at hcs
    obtain ⟨rfl, rfl, rfl⟩ := hcs
    simp only [if_true] at hmm
    subst hmm
    rw [Try.cellsWpk] at hi
    have hone : ∀ i, i < len → ∃ x : WPk, w.cell? ((a.add (i * 2)).add 0) = some (.int .i64 x.to_) ∧ w.cell? ((a.add (i * 2)).add 1) = some (.string (str x.s)) := fun i hi' => by
      obtain ⟨cs, hc, ht⟩ := hi i (by omega)
      obtain ⟨x, rfl, _⟩ := open_wpk_cells ht
      obtain ⟨_, _, hat⟩ := World.cells?_some hc
      exact ⟨x, hat 0 (by omega), hat 1 (by omega)⟩
    obtain ⟨L, hL, hp⟩ := list_of len hone
    refine ⟨L, hL, ?_, by omega, fun e => (by cases e), hl⟩
    by_cases h0 : len = 0
    · exact .inl (List.eq_nil_of_length_eq_zero (by omega))
    · have h1 := (hp 0 (by omega)).1
      have ha : (a.add (0 * 2)).add 0 = a := by cases a; simp [Addr.add]
      rw [ha] at h1
      have e := plain_addr h1
      refine .inr ⟨a.block, a.off, by rw [← e], World.block_lt_of_cell? w _ h1, fun i hi => ?_⟩
      obtain ⟨g0, g1⟩ := hp i hi
      rw [e, WideShapes.add_plain, WideShapes.add_plain] at g0 g1
      exact ⟨g0, g1⟩
end
end Go.Proofs.Ytfcpgkbbocadpaa
