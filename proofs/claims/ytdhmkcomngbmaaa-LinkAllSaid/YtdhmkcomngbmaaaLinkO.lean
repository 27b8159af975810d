/- Arguments of the laws of link: an end, acts. -/
import Derived.Test.YtdhmkcomngbmaaaLinkA
import Derived.Deep.Grids
import Derived.Deep.Fields
import Derived.ChangeArms
import Derived.ProofKit
import Derived.OpenShut
import Derived.SliceStrings
import Derived.ShutString
namespace Go.Proofs.Ytdhmkcomngbmaaa
open Go.RowKit
open Go.ChangeShapes Go.WideShapes Go.ChangeAt

theorem list_of {α : Type} {p : Nat → α → Prop} : ∀ n : Nat, (∀ i, i < n → ∃ x, p i x) → ∃ l : List α, l.length = n ∧ ∀ i, (h : i < l.length) → p i l[i]
  | 0, _ => ⟨[], rfl, fun i h => by simp at h⟩
  | n + 1, h => by
    obtain ⟨l, hl, hp⟩ := list_of n (fun i hi => h i (by omega))
    obtain ⟨x, hx⟩ := h n (by omega)
    refine ⟨l ++ [x], by simp [hl], fun i hi => ?_⟩
    by_cases e : i < l.length
    · rw [List.getElem_append_left e]; exact hp i e
    · have e2 : i = l.length := by simp at hi; omega
      subst e2
      rw [List.getElem_append_right (Nat.le_refl _)]
      simp only [Nat.sub_self, List.getElem_singleton]
      rw [hl]; exact hx
theorem plain_addr {w : World} {a : Addr} {v : Value} (h : w.cell? a = some v) : a = ⟨a.block, a.off, none⟩ := by
  obtain ⟨b, o, s⟩ := a
  cases s with
  | none => rfl
  | some s =>
    simp only [World.cell?] at h
    split at h <;> simp at h
theorem wf_i64 {n : Int} (h : (Lit.int .i64 n).wf = true) : -9223372036854775808 ≤ n ∧ n ≤ 9223372036854775807 := by
  have e1 : IntKind.i64.min = -9223372036854775808 := by decide
  have e2 : IntKind.i64.max = 9223372036854775807 := by decide
  simp [Lit.wf, e1, e2] at h
  omega

theorem Try.cellsIntL : Try.prog.cellsOf 3 = 1 := by kernel_rfl
theorem Try.cellsStrL : Try.prog.cellsOf 9 = 1 := by kernel_rfl
theorem Try.cellsStrsL : Try.prog.cellsOf 22 = 1 := by kernel_rfl
theorem Try.cellsLEnd : Try.prog.cellsOf 24 = 5 := by kernel_rfl
theorem Try.cellsLAct : Try.prog.cellsOf 55 = 3 := by kernel_rfl

/-- An end that came in. -/
structure LendIs (w : World) (x : LEnd) (A : Option Addr) (c : Nat) : Prop where
  strs : Strs w w.heap.size A x.out
  nil : A = none → c = 0
  cap : x.out.length ≤ c
  len : x.out.length ≤ maxLen
  each : ∀ p ∈ x.out, p.length ≤ maxLen

section
variable {H : Type} {enc : TypeId × Value → H} {w : World}

theorem open_strs15 {n : Nat} {v : Value} {y : DataW H × List MemPlace} (h : DataW.trod enc Try.prog w 0 (fun _ => true) true n 22 [v] = some y) :
    ∃ (A : Option Addr) (len cap : Nat) (ss : List ByteArray), v = .slice A len cap ∧ IsStrs w A len cap ss ∧ (A = none → cap = 0) ∧ len ≤ cap := by
  rcases open_strings Try.underlying22 Try.underlying9 (by kernel_rfl) h with ⟨hcs, _⟩ | ⟨x, l, c, ss, hcs, _, hl, hm, hz, hx, hcell, hws⟩
  · simp only [List.cons.injEq, and_true] at hcs
    subst hcs
    exact ⟨none, 0, 0, [], rfl, .inl ⟨rfl, rfl, rfl, rfl⟩, fun _ => rfl, Nat.le_refl _⟩
  · simp only [List.cons.injEq, and_true] at hcs
    subst hcs
    refine ⟨some x, l, c, ss, rfl, .inr ⟨x, rfl, hl, hm, by simpa using hz, ?_, hcell, hws⟩, fun e => (by cases e), hl⟩
    intro hpos
    have hz' : ss.length = c := by simpa using hz
    exact World.block_lt_of_cell? w _ (hcell 0 (by omega))

set_option maxRecDepth 100000 in
/-- An end as an argument. -/
theorem open_lend {v : Value} {d : DataW H} {p : List MemPlace} {g : Nat} (hv : Value.okWide Try.prog w .any g 24 v) (h : DataW.Trod enc Try.prog w 0 (fun _ => true) true 24 v d p) :
    ∃ (x : LEnd) (A : Option Addr) (c : Nat), v = x.val A c ∧ LendIs w x A c := by
  obtain ⟨cs, rfl, hsz⟩ := okWide_struct Try.underlying24 hv
  rw [Try.cellsLEnd] at hsz
  obtain ⟨fuel, hf⟩ := h
  obtain ⟨ys, m, _, hy, hlen, hyl, hf⟩ := DataW.trod_struct Try.underlying24 hf
  obtain ⟨⟨c0, c1, c2, c3, c4, rfl⟩⟩ : Nonempty (∃ c0 c1 c2 c3 c4, cs = #[c0, c1, c2, c3, c4]) := by
    obtain ⟨l⟩ := cs
    match l, hsz with
    | [c0, c1, c2, c3, c4], _ => exact ⟨c0, c1, c2, c3, c4, rfl⟩
  match ys, hyl with
  | [y0, y1, y2, y3, y4], _ =>
    have f0 := hf 0 _ rfl
    have f1 := hf 1 _ rfl
    have f2 := hf 2 _ rfl
    have f3 := hf 3 _ rfl
    have f4 := hf 4 _ rfl
    clear hf
    simp [Value.cells, Try.cellsIntL] at f0
    simp [Value.cells, Try.cellsIntL] at f1
    simp [Value.cells, Try.cellsIntL] at f2
    simp [Value.cells, Try.cellsStrsL] at f3
    simp [Value.cells, Try.cellsIntL] at f4
    obtain ⟨A, len, cap, ss, rfl, hss, hnil, hcap⟩ := open_strs15 f3
    obtain ⟨k0, e0, _, _⟩ := DataW.trod_int Try.underlying3 f0
    obtain ⟨k1, e1, _, _⟩ := DataW.trod_int Try.underlying3 f1
    obtain ⟨k2, e2, _, _⟩ := DataW.trod_int Try.underlying3 f2
    obtain ⟨k4, e4, _, _⟩ := DataW.trod_int Try.underlying3 f4
    simp only [List.cons.injEq, and_true] at e0 e1 e2 e4
    subst e0 e1 e2 e4
    obtain ⟨xs, hl, hm, hst, hx⟩ := hss.open_
    refine ⟨⟨k0, k1, k2, k4, xs⟩, A, cap, ?_, ⟨hst, hnil, by show xs.length ≤ cap; omega, by show xs.length ≤ maxLen; omega, hx⟩⟩
    unfold LEnd.val
    rw [hl]

/-- An act of a line. -/
structure LActV where
  k : Int
  n : Int
  s : ByteArray
structure LActOk (x : LActV) : Prop where
  k1 : -9223372036854775808 ≤ x.k
  k2 : x.k ≤ 9223372036854775807
  n1 : -9223372036854775808 ≤ x.n
  n2 : x.n ≤ 9223372036854775807
  s1 : x.s.size ≤ maxLen
def LActCells (w : World) (b o : Nat) (x : LActV) : Prop := w.cell? ⟨b, o, none⟩ = some (.int .i64 x.k) ∧ w.cell? ⟨b, o + 1, none⟩ = some (.int .i64 x.n) ∧ w.cell? ⟨b, o + 2, none⟩ = some (.string x.s)
/-- Acts that came in. -/
def IsLActs (W : World) (A : Option Addr) (len : Nat) (l : List LActV) : Prop :=
  l.length = len ∧ len ≤ 9223372036854775807 ∧ (∀ x ∈ l, LActOk x) ∧
  (l = [] ∨ ∃ b off, A = some ⟨b, off, none⟩ ∧ b < W.heap.size ∧ ∀ i, (h : i < l.length) → LActCells W b (off + i * 3) l[i])
theorem LActCells.below {W w : World} {b o : Nat} {x : LActV} (h : LActCells W b o x) (hb : Below W.heap.size W w) (hlt : b < W.heap.size) : LActCells w b o x := by
  obtain ⟨h0, h1, h2⟩ := h
  exact ⟨(hb.cell (p := ⟨b, o, none⟩) hlt).trans h0, (hb.cell (p := ⟨b, o + 1, none⟩) hlt).trans h1, (hb.cell (p := ⟨b, o + 2, none⟩) hlt).trans h2⟩
theorem IsLActs.at_ {W w : World} {A : Option Addr} {len : Nat} {l : List LActV} (h : IsLActs W A len l) (hb : Below W.heap.size W w) {i : Nat} (hi : i < l.length) :
    ∃ b off, A = some ⟨b, off, none⟩ ∧ b < W.heap.size ∧ LActCells w b (off + i * 3) l[i] ∧ LActOk l[i] := by
  obtain ⟨_, _, ho, h⟩ := h
  rcases h with rfl | ⟨b, off, hA, hlt, hc⟩
  · simp at hi
  · exact ⟨b, off, hA, hlt, (hc i hi).below hb hlt, ho _ (List.getElem_mem hi)⟩

set_option maxRecDepth 100000 in
theorem open_lact {n : Nat} {cs : List Value} {y : DataW H × List MemPlace} (h : DataW.trod enc Try.prog w 0 (fun _ => true) true n 55 cs = some y) :
    ∃ x : LActV, cs = [.int .i64 x.k, .int .i64 x.n, .string x.s] ∧ LActOk x := by
  obtain ⟨ys, m, _, _, hlen, hyl, hf⟩ := DataW.trod_struct Try.underlying55 h
  rw [Try.cellsLAct] at hlen
  match cs, hlen with
  | [c0, c1, c2], _ =>
    match ys, hyl with
    | [y0, y1, y2], _ =>
      have f0 := hf 0 _ rfl
      have f1 := hf 1 _ rfl
      have f2 := hf 2 _ rfl
      clear hf h
      simp [Try.cellsIntL] at f0
      simp [Try.cellsIntL] at f1
      simp [Try.cellsStrL] at f2
      obtain ⟨k, e0, _, k0⟩ := DataW.trod_int Try.underlying3 f0
      obtain ⟨x, e1, _, k1⟩ := DataW.trod_int Try.underlying3 f1
      obtain ⟨t, e2, _, k2⟩ := DataW.trod_string Try.underlying9 f2
      simp only [List.cons.injEq, and_true] at e0 e1 e2
      subst e0 e1 e2
      have b0 := wf_i64 k0
      have b1 := wf_i64 k1
      exact ⟨⟨k, x, t⟩, rfl, ⟨b0.1, b0.2, b1.1, b1.2, k2⟩⟩

set_option maxRecDepth 100000 in
theorem open_lacts {n : Nat} {A : Option Addr} {len cap : Nat} {y : DataW H × List MemPlace} (h : DataW.trod enc Try.prog w 0 (fun _ => true) true n 50 [.slice A len cap] = some y) :
    ∃ l, IsLActs w A len l := by
  rcases Deep.open_slice Try.underlying50 h with ⟨hcs, _⟩ | ⟨a, l, c, m, n', D, Pl, hcs, _, hl, hm, hmm, _, hi⟩
  · simp only [List.cons.injEq, Value.slice.injEq, and_true] at hcs
    obtain ⟨rfl, rfl, rfl⟩ := hcs
    exact ⟨[], rfl, by omega, (fun x hx => by cases hx), .inl rfl⟩
  · simp only [List.cons.injEq, Value.slice.injEq, and_true] at hcs
    obtain ⟨rfl, rfl, rfl⟩ := hcs
    simp only [if_true] at hmm
    subst hmm
    rw [Try.cellsLAct] at hi
    have hone : ∀ i, i < len → ∃ x : LActV, LActOk x ∧ w.cell? ((a.add (i * 3)).add 0) = some (.int .i64 x.k) ∧ w.cell? ((a.add (i * 3)).add 1) = some (.int .i64 x.n) ∧ w.cell? ((a.add (i * 3)).add 2) = some (.string x.s) := fun i hi' => by
      obtain ⟨cs, hc, ht⟩ := hi i (by omega)
      obtain ⟨x, rfl, hx⟩ := open_lact ht
      obtain ⟨_, _, hat⟩ := World.cells?_some hc
      exact ⟨x, hx, hat 0 (by omega), hat 1 (by omega), hat 2 (by omega)⟩
    obtain ⟨L, hL, hp⟩ := list_of len hone
    refine ⟨L, hL, by unfold maxLen at hm; omega, fun x hx => ?_, ?_⟩
    · obtain ⟨i, hi, rfl⟩ := List.getElem_of_mem hx
      exact (hp i hi).1
    · by_cases h0 : len = 0
      · exact .inl (List.eq_nil_of_length_eq_zero (by omega))
      · have h1 := (hp 0 (by omega)).2.1
        have ha : (a.add (0 * 3)).add 0 = a := by cases a; simp [Addr.add]
        rw [ha] at h1
        have e := plain_addr h1
        refine .inr ⟨a.block, a.off, by rw [← e], World.block_lt_of_cell? w _ h1, fun i hi => ?_⟩
        obtain ⟨_, g0, g1, g2⟩ := hp i hi
        rw [e, WideShapes.add_plain, WideShapes.add_plain] at g0 g1 g2
        exact ⟨g0, g1, g2⟩
end
end Go.Proofs.Ytdhmkcomngbmaaa
