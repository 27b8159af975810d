/- Arguments of the laws on bitmaps: how lists of bits are opened. -/
import Derived.Test.YtpefhocjnkbklaaVolO
import Derived.Test.YtpefhocjnkbklaaDirM
namespace Go.Proofs.Ytpefhocjnkbklaa
open Go.RowKit
open Go.ChangeShapes Go.WideShapes Go.ChangeAt

theorem Try.cellsU64 : Try.prog.cellsOf 64 = 1 := by kernel_rfl
theorem Try.cellsBits : Try.prog.cellsOf 66 = 2 := by kernel_rfl
section
variable {H : Type} {enc : TypeId × Value → H} {w : World}

theorem open_bit {n : Nat} {cs : List Value} {y : DataW H × List MemPlace} (h : DataW.trod enc Try.prog w 0 (fun _ => true) true n 66 cs = some y) :
    ∃ x : Bt, cs = [.int .i64 x.vol, .int .u64 x.mask] ∧ 0 ≤ x.mask ∧ x.mask < 18446744073709551616 := by
  obtain ⟨ys, m, _, _, hlen, hyl, hf⟩ := DataW.trod_struct Try.underlying66 h
  rw [Try.cellsBits] at hlen
  match cs, hlen with
  | [c0, c1], _ =>
    match ys, hyl with
    | [y0, y1], _ =>
      have f0 := hf 0 _ rfl
      have f1 := hf 1 _ rfl
      clear hf h
      simp [Try.cellsInt] at f0
      simp [Try.cellsU64] at f1
      obtain ⟨k, e0, _, _⟩ := DataW.trod_int Try.underlying3 f0
      obtain ⟨q, e1, _, hx⟩ := DataW.trod_int Try.underlying64 f1
      simp only [List.cons.injEq, and_true] at e0 e1
      subst e0 e1
      have e1 : IntKind.u64.min = 0 := by decide
      have e2 : IntKind.u64.max = 18446744073709551615 := by decide
      simp [Lit.wf, e1, e2] at hx
      exact ⟨⟨k, q⟩, rfl, by show 0 ≤ q; omega, by show q < _; omega⟩

theorem open_bits {n : Nat} {A : Option Addr} {len cap : Nat} {y : DataW H × List MemPlace} (h : DataW.trod enc Try.prog w 0 (fun _ => true) true n 22 [.slice A len cap] = some y) :
    ∃ ms : List Bt, ms.length = len ∧ BtsAt w w.heap.size A ms ∧ BtsFit ms := by
  rcases Deep.open_slice Try.underlying22 h with ⟨hcs, _⟩ | ⟨a, l, c, m, n', D, Pl, hcs, _, hl, hm, hmm, _, hi⟩
  · simp only [List.cons.injEq, Value.slice.injEq, and_true] at hcs
    obtain ⟨rfl, rfl, rfl⟩ := hcs
    exact ⟨[], rfl, .inl rfl, by simp, by simp⟩
  · simp only [List.cons.injEq, Value.slice.injEq, and_true] at hcs
    obtain ⟨rfl, rfl, rfl⟩ := hcs
    simp only [if_true] at hmm
    subst hmm
    rw [Try.cellsBits] at hi
    have hone : ∀ i, i < len → ∃ x : Bt, (w.cell? ((a.add (i * 2)).add 0) = some (.int .i64 x.vol) ∧ w.cell? ((a.add (i * 2)).add 1) = some (.int .u64 x.mask)) ∧ 0 ≤ x.mask ∧ x.mask < 18446744073709551616 := fun i hlt => by
      obtain ⟨cs, hc, ht⟩ := hi i (by omega)
      obtain ⟨x, rfl, hx⟩ := open_bit ht
      obtain ⟨_, _, hat⟩ := World.cells?_some hc
      exact ⟨x, ⟨hat 0 (by omega), hat 1 (by omega)⟩, hx⟩
    obtain ⟨L, hL, hp⟩ := list_of len hone
    refine ⟨L, hL, ?_, by unfold maxLen at hm; omega, fun b hb => ?_⟩
    · by_cases h0 : len = 0
      · exact .inl (List.eq_nil_of_length_eq_zero (by omega))
      · obtain ⟨⟨h1, _⟩, _⟩ := hp 0 (by omega)
        have ha : (a.add (0 * 2)).add 0 = a := by cases a; simp [Addr.add]
        rw [ha] at h1
        have e := plain_addr h1
        refine .inr ⟨a.block, a.off, by rw [← e], World.block_lt_of_cell? w _ h1, fun i hi => ?_⟩
        obtain ⟨⟨g0, g1⟩, _⟩ := hp i hi
        rw [e, WideShapes.add_plain, WideShapes.add_plain] at g0 g1
        exact ⟨g0, g1⟩
    · obtain ⟨i, hi, rfl⟩ := List.getElem_of_mem hb
      exact (hp i hi).2
end
end Go.Proofs.Ytpefhocjnkbklaa
