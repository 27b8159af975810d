/- The acts of the log's laws, opened out of an argument. -/
import Derived.Test.YtgnijpjdkipaaaaGreatDoorDiskG
import Derived.Test.YtgnijpjdkipaaaaGreatDoorWalH
namespace Go.Proofs.YtgnijpjdkipaaaaGreatDoor
open Go.RowKit
open Go.ChangeShapes Go.WideShapes Go.ChangeAt

theorem Tryz.cellsAct6 : Tryz.prog.cellsOf 44 = 4 := by kernel_rfl
/-- What else is known of an act. -/
structure Act6Ok (W : World) (x : Act6) : Prop where
  n1 : -9223372036854775808 ≤ x.n
  n2 : x.n ≤ 9223372036854775807
  len : x.bs.length ≤ 9223372036854775807
  keep : KeepB W x.A x.bs

theorem list4 {α : Type} : ∀ {l : List α}, l.length = 4 → ∃ a b c d, l = [a, b, c, d]
  | [a, b, c, d], _ => ⟨a, b, c, d, rfl⟩
section
variable {H : Type} {enc : TypeId × Value → H} {w : World}
theorem open_act6 {n : Nat} {cs : List Value} {y : DataW H × List MemPlace} (h : DataW.trod enc Tryz.prog w 0 (fun _ => true) true n 44 cs = some y) :
    ∃ x : Act6, cs = [.int .i64 x.k, .int .i64 x.n, .string x.s, .slice x.A x.bs.length x.cap] ∧ Act6Ok w x := by
  obtain ⟨ys, m, _, _, hlen, hyl, hf⟩ := DataW.trod_struct Tryz.underlying44 h
  rw [Tryz.cellsAct6] at hlen
  obtain ⟨c0, c1, c2, c3, rfl⟩ := list4 hlen
  obtain ⟨y0, y1, y2, y3, rfl⟩ := list4 hyl
  have f0 := hf 0 _ rfl
  have f1 := hf 1 _ rfl
  have f2 := hf 2 _ rfl
  have f3 := hf 3 _ rfl
  clear hf h
  simp [Tryz.cellsInt] at f0
  simp [Tryz.cellsInt] at f1
  simp [Tryz.cellsStr] at f2
  simp [Tryz.cellsBools] at f3
  obtain ⟨k, e0, _, _⟩ := DataW.trod_int Tryz.underlying3 f0
  obtain ⟨q, e1, _, k1⟩ := DataW.trod_int Tryz.underlying3 f1
  obtain ⟨t, e2, _, _⟩ := DataW.trod_string Tryz.underlying9 f2
  simp only [List.cons.injEq, and_true] at e0 e1 e2
  subst e0 e1 e2
  obtain ⟨A, len, cap, rfl⟩ : ∃ A len cap, c3 = .slice A len cap := by
    rcases Deep.open_bools Tryz.underlying42 Tryz.underlying4 Tryz.cellsBool f3 with ⟨hcs, _⟩ | ⟨a, l, c, B, hcs, _⟩
    · simp only [List.cons.injEq, and_true] at hcs; exact ⟨_, _, _, hcs⟩
    · simp only [List.cons.injEq, and_true] at hcs; exact ⟨_, _, _, hcs⟩
  obtain ⟨hl, bs, hb1, hb2⟩ := open_keep f3
  subst hb1
  have b1 := wf_i64 k1
  exact ⟨⟨k, q, t, A, cap, bs⟩, rfl, ⟨b1.1, b1.2, hl, hb2⟩⟩

theorem open_acts6 {n : Nat} {A : Option Addr} {len cap : Nat} {y : DataW H × List MemPlace} (h : DataW.trod enc Tryz.prog w 0 (fun _ => true) true n 22 [.slice A len cap] = some y) :
    ∃ l, l.length = len ∧ ActsAt w w.heap.size A l ∧ len ≤ 9223372036854775807 ∧ ∀ x ∈ l, Act6Ok w x := by
  rcases Deep.open_slice Tryz.underlying22 h with ⟨hcs, _⟩ | ⟨a, l, c, m, n', D, Pl, hcs, _, hl, hm, hmm, _, hi⟩
  · simp only [List.cons.injEq, Value.slice.injEq, and_true] at hcs
    obtain ⟨rfl, rfl, rfl⟩ := hcs
    exact ⟨[], rfl, .inl rfl, by omega, fun x hx => by cases hx⟩
  · simp only [List.cons.injEq, Value.slice.injEq, and_true] at hcs
    obtain ⟨rfl, rfl, rfl⟩ := hcs
    simp only [if_true] at hmm
    subst hmm
    rw [Tryz.cellsAct6] at hi
    have hone : ∀ i, i < len → ∃ x : Act6, Act6Ok w x ∧ w.cell? ((a.add (i * 4)).add 0) = some (.int .i64 x.k) ∧ w.cell? ((a.add (i * 4)).add 1) = some (.int .i64 x.n) ∧ w.cell? ((a.add (i * 4)).add 2) = some (.string x.s) ∧ w.cell? ((a.add (i * 4)).add 3) = some (.slice x.A x.bs.length x.cap) := fun i hlt => by
      obtain ⟨cs, hc, ht⟩ := hi i (by omega)
      obtain ⟨x, rfl, hx⟩ := open_act6 ht
      obtain ⟨_, _, hat⟩ := World.cells?_some hc
      exact ⟨x, hx, hat 0 (by omega), hat 1 (by omega), hat 2 (by omega), hat 3 (by omega)⟩
    obtain ⟨L, hL, hp⟩ := list_of len hone
    refine ⟨L, hL, ?_, by unfold maxLen at hm; omega, fun x hx => ?_⟩
    · by_cases h0 : len = 0
      · exact .inl (List.eq_nil_of_length_eq_zero (by omega))
      · have h1 := (hp 0 (by omega)).2.1
        have ha : (a.add (0 * 4)).add 0 = a := by cases a; simp [Addr.add]
        rw [ha] at h1
        have e := plain_addr h1
        refine .inr ⟨a.block, a.off, by rw [← e], World.block_lt_of_cell? w _ h1, fun i hi => ?_⟩
        obtain ⟨_, g0, g1, g2, g3⟩ := hp i hi
        rw [e, WideShapes.add_plain, WideShapes.add_plain] at g0 g1 g2 g3
        exact ⟨g0, g1, g2, g3⟩
    · obtain ⟨i, hi, rfl⟩ := List.getElem_of_mem hx
      exact (hp i hi).1
end
end Go.Proofs.YtgnijpjdkipaaaaGreatDoor
