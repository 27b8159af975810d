/- Arguments of the laws on messages: how a message is opened. -/
import Derived.Test.YtkpoeigoocbgeaaMsArg
namespace Go.Proofs.Ytkpoeigoocbgeaa
open Go.RowKit
open Go.ChangeShapes Go.WideShapes Go.ChangeAt

theorem Try.cellsI17 : Try.prog.cellsOf 3 = 1 := by kernel_rfl
theorem Try.cellsB17 : Try.prog.cellsOf 4 = 1 := by kernel_rfl
theorem Try.cellsLn17 : Try.prog.cellsOf 22 = 1 := by kernel_rfl
theorem Try.cellsBt17 : Try.prog.cellsOf 47 = 1 := by kernel_rfl
theorem Try.cellsNs17 : Try.prog.cellsOf 48 = 1 := by kernel_rfl
theorem Try.cellsWs17 : Try.prog.cellsOf 35 = 1 := by kernel_rfl
theorem Try.cellsPos17 : Try.prog.cellsOf 46 = 2 := by kernel_rfl
theorem Try.cellsSet17 : Try.prog.cellsOf 50 = 3 := by kernel_rfl
theorem Try.cellsMsg17 : Try.prog.cellsOf 52 = 14 := by kernel_rfl

section
variable {H : Type} {enc : TypeId × Value → H} {w : World}

theorem open_bits_cell {n : Nat} {v : Value} {y : DataW H × List MemPlace} (h : DataW.trod enc Try.prog w 0 (fun _ => true) true n 47 [v] = some y) : ∃ A len cap, v = .slice A len cap := by
  rcases Deep.open_slice Try.underlying47 h with ⟨hcs, _⟩ | ⟨a, l, c, m, n', D, Pl, hcs, _⟩
  · simp only [List.cons.injEq, and_true] at hcs; exact ⟨_, _, _, hcs⟩
  · simp only [List.cons.injEq, and_true] at hcs; exact ⟨_, _, _, hcs⟩
theorem open_nums_cell {n : Nat} {v : Value} {y : DataW H × List MemPlace} (h : DataW.trod enc Try.prog w 0 (fun _ => true) true n 48 [v] = some y) : ∃ A len cap, v = .slice A len cap := by
  rcases Deep.open_slice Try.underlying48 h with ⟨hcs, _⟩ | ⟨a, l, c, m, n', D, Pl, hcs, _⟩
  · simp only [List.cons.injEq, and_true] at hcs; exact ⟨_, _, _, hcs⟩
  · simp only [List.cons.injEq, and_true] at hcs; exact ⟨_, _, _, hcs⟩
theorem open_writes_cell {n : Nat} {v : Value} {y : DataW H × List MemPlace} (h : DataW.trod enc Try.prog w 0 (fun _ => true) true n 35 [v] = some y) : ∃ A len cap, v = .slice A len cap := by
  rcases Deep.open_slice Try.underlying35 h with ⟨hcs, _⟩ | ⟨a, l, c, m, n', D, Pl, hcs, _⟩
  · simp only [List.cons.injEq, and_true] at hcs; exact ⟨_, _, _, hcs⟩
  · simp only [List.cons.injEq, and_true] at hcs; exact ⟨_, _, _, hcs⟩

set_option maxRecDepth 100000 in
theorem open_pos_cells {n : Nat} {cs : List Value} {y : DataW H × List MemPlace} (h : DataW.trod enc Try.prog w 0 (fun _ => true) true n 46 cs = some y) :
    ∃ (A : Option Addr) (c : Nat) (ms : List Br) (q : Int), cs = [.slice A ms.length c, .int .i64 q] ∧ BrsAt w w.heap.size A ms ∧ ms.length ≤ 9223372036854775807 := by
  obtain ⟨ys, m, _, _, hlen, hyl, hf⟩ := DataW.trod_struct Try.underlying46 h
  rw [Try.cellsPos17] at hlen
  match cs, hlen with
  | [c0, c1], _ =>
    match ys, hyl with
    | [y0, y1], _ =>
      have f0 := hf 0 _ rfl
      have f1 := hf 1 _ rfl
      clear hf h
      simp [Try.cellsLn17] at f0
      simp [Try.cellsI17] at f1
      obtain ⟨A, len, cap, rfl⟩ := open_slice_cell f0
      obtain ⟨ms, rfl, h1, h2⟩ := open_branches f0
      obtain ⟨k, e1, _, _⟩ := DataW.trod_int Try.underlying3 f1
      simp only [List.cons.injEq, and_true] at e1
      subst e1
      exact ⟨A, cap, ms, k, rfl, h1, h2.1⟩

set_option maxRecDepth 100000 in
theorem open_set_cells {n : Nat} {cs : List Value} {y : DataW H × List MemPlace} (h : DataW.trod enc Try.prog w 0 (fun _ => true) true n 50 cs = some y) :
    ∃ (A : Option Addr) (c : Nat) (ws : List Wr) (a b : Int), cs = [.int .i64 a, .int .i64 b, .slice A ws.length c] ∧ WrsAt w w.heap.size A ws ∧ ws.length ≤ 9223372036854775807 := by
  obtain ⟨ys, m, _, _, hlen, hyl, hf⟩ := DataW.trod_struct Try.underlying50 h
  rw [Try.cellsSet17] at hlen
  match cs, hlen with
  | [c0, c1, c2], _ =>
    match ys, hyl with
    | [y0, y1, y2], _ =>
      have f0 := hf 0 _ rfl
      have f1 := hf 1 _ rfl
      have f2 := hf 2 _ rfl
      clear hf h
      simp [Try.cellsI17] at f0
      simp [Try.cellsI17] at f1
      simp [Try.cellsWs17] at f2
      obtain ⟨A, len, cap, rfl⟩ := open_writes_cell f2
      obtain ⟨ws, rfl, h1, h2⟩ := open_writes f2
      obtain ⟨a, e0, _, _⟩ := DataW.trod_int Try.underlying3 f0
      obtain ⟨b, e1, _, _⟩ := DataW.trod_int Try.underlying3 f1
      simp only [List.cons.injEq, and_true] at e0 e1
      subst e0 e1
      exact ⟨A, cap, ws, a, b, rfl, h1, h2.1⟩

set_option maxRecDepth 100000 in
/-- A message as an argument. -/
theorem open_msg {v : Value} {d : DataW H} {p : List MemPlace} {g : Nat} (hv : Value.okWide Try.prog w .any g 52 v) (h : DataW.Trod enc Try.prog w 0 (fun _ => true) true 52 v d p) :
    ∃ (m : Mg) (x : MgM), v = m.val x ∧ MgAt w m x ∧ MgFit m := by
  obtain ⟨cs, rfl, hsz⟩ := okWide_struct Try.underlying52 hv
  rw [Try.cellsMsg17] at hsz
  obtain ⟨fuel, hf⟩ := h
  obtain ⟨ys, m, _, hy, hlen, hyl, hf⟩ := DataW.trod_struct Try.underlying52 hf
  obtain ⟨⟨c0, c1, c2, c3, c4, c5, c6, c7, c8, c9, c10, c11, c12, c13, rfl⟩⟩ : Nonempty (∃ c0 c1 c2 c3 c4 c5 c6 c7 c8 c9 c10 c11 c12 c13, cs = #[c0, c1, c2, c3, c4, c5, c6, c7, c8, c9, c10, c11, c12, c13]) := by
    obtain ⟨l⟩ := cs
    match l, hsz with
    | [c0, c1, c2, c3, c4, c5, c6, c7, c8, c9, c10, c11, c12, c13], _ => exact ⟨c0, c1, c2, c3, c4, c5, c6, c7, c8, c9, c10, c11, c12, c13, rfl⟩
  match ys, hyl with
  | [y0, y1, y2, y3, y4, y5, y6, y7, y8, y9, y10], _ =>
    have f0 := hf 0 _ rfl
    have f1 := hf 1 _ rfl
    have f2 := hf 2 _ rfl
    have f3 := hf 3 _ rfl
    have f4 := hf 4 _ rfl
    have f5 := hf 5 _ rfl
    have f6 := hf 6 _ rfl
    have f7 := hf 7 _ rfl
    have f8 := hf 8 _ rfl
    have f9 := hf 9 _ rfl
    have f10 := hf 10 _ rfl
    clear hf
    simp [Value.cells, Try.cellsI17] at f0
    simp [Value.cells, Try.cellsI17] at f1
    simp [Value.cells, Try.cellsLn17] at f2
    simp [Value.cells, Try.cellsI17] at f3
    simp [Value.cells, Try.cellsI17] at f4
    simp [Value.cells, Try.cellsI17] at f5
    simp [Value.cells, Try.cellsB17] at f6
    simp [Value.cells, Try.cellsPos17] at f7
    simp [Value.cells, Try.cellsBt17] at f8
    simp [Value.cells, Try.cellsNs17] at f9
    simp [Value.cells, Try.cellsSet17] at f10
    obtain ⟨k0, e0, _, _⟩ := DataW.trod_int Try.underlying3 f0
    obtain ⟨k1, e1, _, _⟩ := DataW.trod_int Try.underlying3 f1
    obtain ⟨k3, e3, _, _⟩ := DataW.trod_int Try.underlying3 f3
    obtain ⟨k4, e4, _, _⟩ := DataW.trod_int Try.underlying3 f4
    obtain ⟨k5, e5, _, _⟩ := DataW.trod_int Try.underlying3 f5
    obtain ⟨k6, e6, _⟩ := DataW.trod_bool Try.underlying4 f6
    simp only [List.cons.injEq, and_true] at e0 e1 e3 e4 e5 e6
    subst e0 e1 e3 e4 e5 e6
    obtain ⟨lA, ln, lC, rfl⟩ := open_slice_cell f2
    obtain ⟨line, rfl, l1, l2⟩ := open_branches f2
    obtain ⟨aA, aC, anc, ancS, ea, a1, a2⟩ := open_pos_cells f7
    simp only [List.cons.injEq, and_true] at ea
    obtain ⟨rfl, rfl⟩ := ea
    obtain ⟨bA, bn, bC, rfl⟩ := open_bits_cell f8
    obtain ⟨bits, rfl, b1, b2⟩ := open_bits f8
    obtain ⟨sA, sn, sC, rfl⟩ := open_nums_cell f9
    obtain ⟨sizes, rfl, s1, s2⟩ := open_nums f9
    obtain ⟨wA, wC, ws, k11, k12, ew, w1, w2⟩ := open_set_cells f10
    simp only [List.cons.injEq, and_true] at ew
    obtain ⟨rfl, rfl, rfl⟩ := ew
    exact ⟨⟨k0, k1, line, k3, k4, k5, k6, anc, ancS, bits, sizes, k11, k12, ws⟩, ⟨lA, lC, aA, aC, bA, bC, sA, sC, wA, wC⟩, rfl, ⟨l1, a1, b1, s1, w1⟩, ⟨l2.1, a2, b2, s2.1, w2⟩⟩
end
end Go.Proofs.Ytkpoeigoocbgeaa
