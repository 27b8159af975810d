/- Arguments of the disk's laws in memory: lists of acts, lists of bools; how they are opened. -/
import Derived.Test.YtjeabnlmanfplaaGreatDoorDiskL
import Derived.Deep.Grids
import Derived.Deep.Fields
import Derived.ChangeArms
import Derived.ProofKit
import Derived.OpenShut
namespace Go.Proofs.YtjeabnlmanfplaaGreatDoor
open Go.RowKit

/-- An act, with the slice that holds its answers to what is kept. -/
structure ActV where
  k : Int
  at_ : Int
  n : Int
  s : ByteArray
  A : Option Addr
  len : Nat
  cap : Nat
  bs : List Bool

/-- The bools bs lie where a slice says. -/
def KeepB (W : World) (A : Option Addr) (bs : List Bool) : Prop :=
  bs = [] ∨ ∃ b off, A = some ⟨b, off, none⟩ ∧ b < W.heap.size ∧ ∀ i, (h : i < bs.length) → W.cell? ⟨b, off + i, none⟩ = some (.bool bs[i])

theorem KeepB.is {W w : World} {F : Nat → Prop} {A : Option Addr} {bs : List Bool} (h : KeepB W A bs) (hb : Below W.heap.size W w) (hF : ∀ k, F k → W.heap.size ≤ k) : KeepIs w F A bs := by
  rcases h with h | ⟨b, off, hA, hlt, hc⟩
  · exact .inl h
  · refine .inr ⟨b, off, hA, fun hf => by have := hF b hf; omega, Nat.lt_of_lt_of_le hlt hb.size, fun i hi => ?_⟩
    rw [hb.cell (p := ⟨b, off + i, none⟩) hlt]
    exact hc i hi

structure ActOk (W : World) (x : ActV) : Prop where
  k1 : -9223372036854775808 ≤ x.k
  k2 : x.k ≤ 9223372036854775807
  a1 : -9223372036854775808 ≤ x.at_
  a2 : x.at_ ≤ 9223372036854775807
  n1 : -9223372036854775808 ≤ x.n
  n2 : x.n ≤ 9223372036854775807
  s1 : x.s.size ≤ 9223372036854775807
  len : x.bs.length = x.len
  len2 : x.len ≤ 9223372036854775807
  keep : KeepB W x.A x.bs

def ActCells (W : World) (b o : Nat) (x : ActV) : Prop :=
  W.cell? ⟨b, o, none⟩ = some (.int .i64 x.k) ∧ W.cell? ⟨b, o + 1, none⟩ = some (.int .i64 x.at_) ∧ W.cell? ⟨b, o + 2, none⟩ = some (.int .i64 x.n) ∧
  W.cell? ⟨b, o + 3, none⟩ = some (.string x.s) ∧ W.cell? ⟨b, o + 4, none⟩ = some (.slice x.A x.len x.cap)

/-- The acts l lie where a slice says. -/
def IsActs (W : World) (A : Option Addr) (len : Nat) (l : List ActV) : Prop :=
  l.length = len ∧ len ≤ 9223372036854775807 ∧ (∀ x ∈ l, ActOk W x) ∧
  (l = [] ∨ ∃ b off, A = some ⟨b, off, none⟩ ∧ b < W.heap.size ∧ ∀ i, (h : i < l.length) → ActCells W b (off + i * 5) l[i])

theorem ActCells.below {W w : World} {b o : Nat} {x : ActV} (h : ActCells W b o x) (hb : Below W.heap.size W w) (hlt : b < W.heap.size) : ActCells w b o x := by
  obtain ⟨h0, h1, h2, h3, h4⟩ := h
  exact ⟨(hb.cell (p := ⟨b, o, none⟩) hlt).trans h0, (hb.cell (p := ⟨b, o + 1, none⟩) hlt).trans h1, (hb.cell (p := ⟨b, o + 2, none⟩) hlt).trans h2, (hb.cell (p := ⟨b, o + 3, none⟩) hlt).trans h3, (hb.cell (p := ⟨b, o + 4, none⟩) hlt).trans h4⟩

/-- One act, in a later world. -/
theorem IsActs.at_ {W w : World} {A : Option Addr} {len : Nat} {l : List ActV} (h : IsActs W A len l) (hb : Below W.heap.size W w) {i : Nat} (hi : i < l.length) :
    ∃ b off, A = some ⟨b, off, none⟩ ∧ b < W.heap.size ∧ ActCells w b (off + i * 5) l[i] ∧ ActOk W l[i] := by
  obtain ⟨h1, h2, h3, h4⟩ := h
  rcases h4 with rfl | ⟨b, off, hA, hlt, hc⟩
  · simp at hi
  · exact ⟨b, off, hA, hlt, (hc i hi).below hb hlt, h3 _ (List.getElem_mem hi)⟩

theorem list_of {α : Type} {p : Nat → α → Prop} : ∀ n : Nat, (∀ i, i < n → ∃ x, p i x) → ∃ l : List α, l.length = n ∧ ∀ i, (h : i < l.length) → p i l[i]
  | 0, _ => ⟨[], rfl, fun i h => by simp at h⟩
  | n + 1, h => by
    obtain ⟨l, hl, hp⟩ := list_of n (fun i hi => h i (by omega))
    obtain ⟨x, hx⟩ := h n (by omega)
    refine ⟨l ++ [x], by simp [hl], fun i hi => ?_⟩
    by_cases e : i < l.length
    · rw [List.getElem_append_left e]; exact hp i e
    · have e2 : i = l.length := by simp at hi; omega
      subst e2
      rw [List.getElem_append_right (Nat.le_refl _)]
      simp only [Nat.sub_self, List.getElem_singleton]
      rw [hl]; exact hx

theorem plain_addr {w : World} {a : Addr} {v : Value} (h : w.cell? a = some v) : a = ⟨a.block, a.off, none⟩ := by
  obtain ⟨b, o, s⟩ := a
  cases s with
  | none => rfl
  | some s =>
    simp only [World.cell?] at h
    split at h <;> simp at h

theorem Tryz.cellsInt : Tryz.prog.cellsOf 3 = 1 := by kernel_rfl
theorem Tryz.cellsStr : Tryz.prog.cellsOf 9 = 1 := by kernel_rfl
theorem Tryz.cellsBools : Tryz.prog.cellsOf 42 = 1 := by kernel_rfl
theorem wf_i64 {n : Int} (h : (Lit.int .i64 n).wf = true) : -9223372036854775808 ≤ n ∧ n ≤ 9223372036854775807 := by
  have e1 : IntKind.i64.min = -9223372036854775808 := by decide
  have e2 : IntKind.i64.max = 9223372036854775807 := by decide
  simp [Lit.wf, e1, e2] at h
  omega
theorem Tryz.cellsBool : Tryz.prog.cellsOf 4 = 1 := by kernel_rfl
section
variable {H : Type} {enc : TypeId × Value → H} {w : World}

theorem open_keep {n : Nat} {A : Option Addr} {len cap : Nat} {y : DataW H × List MemPlace} (h : DataW.trod enc Tryz.prog w 0 (fun _ => true) true n 42 [.slice A len cap] = some y) :
    len ≤ 9223372036854775807 ∧ ∃ bs : List Bool, bs.length = len ∧ KeepB w A bs := by
  rcases Deep.open_bools Tryz.underlying42 Tryz.underlying4 Tryz.cellsBool h with ⟨hcs, _⟩ | ⟨a, l, c, B, hcs, _, hl, hm, _, hc⟩
  · simp only [List.cons.injEq, Value.slice.injEq, and_true] at hcs
    obtain ⟨rfl, rfl, rfl⟩ := hcs
    exact ⟨by omega, [], rfl, .inl rfl⟩
  · simp only [List.cons.injEq, Value.slice.injEq, and_true] at hcs
    obtain ⟨rfl, rfl, rfl⟩ := hcs
    refine ⟨by unfold maxLen at hm; omega, (List.range len).map B, by simp, ?_⟩
    by_cases h0 : len = 0
    · subst h0; exact .inl rfl
    · have h1 := hc 0 (by omega)
      have ha : a.add 0 = a := by cases a; simp [Addr.add]
      rw [ha] at h1
      have e := plain_addr h1
      refine .inr ⟨a.block, a.off, by rw [← e], World.block_lt_of_cell? w _ h1, fun i hi => ?_⟩
      have hi' : i < len := by simpa using hi
      have h2 := hc i (by omega)
      rw [e, WideShapes.add_plain] at h2
      rw [h2]
      simp

end
end Go.Proofs.YtjeabnlmanfplaaGreatDoor
