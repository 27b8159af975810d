/- Arguments of QueueCarries: lists of lists of writes, lists of bools. -/
import Derived.Test.YtpmllckfijfehaaQueO
namespace Go.Proofs.Ytpmllckfijfehaa
open Go.RowKit
open Go.ChangeShapes Go.WideShapes Go.ChangeAt

theorem Try.cellsBolQ : Try.prog.cellsOf 4 = 1 := by kernel_rfl
/-- The bools bs lie where a slice says. -/
def BolsAt (W : World) (A : Option Addr) (bs : List Bool) : Prop :=
  bs = [] ∨ ∃ b off, A = some ⟨b, off, none⟩ ∧ b < W.heap.size ∧ ∀ i, (h : i < bs.length) → W.cell? ⟨b, off + i, none⟩ = some (.bool bs[i])

theorem BolsAt.far {W : World} {A : Option Addr} {bs : List Bool} (h : BolsAt W A bs) {i : Nat} (hi : i < bs.length) : ∃ b off, A = some ⟨b, off, none⟩ ∧ ∀ w, Below W.heap.size W w → w.cell? ⟨b, off + i, none⟩ = some (.bool bs[i]) := by
  rcases h with rfl | ⟨b, off, hA, hlt, hc⟩
  · simp at hi
  · exact ⟨b, off, hA, fun w hb => (hb.cell (p := ⟨b, off + i, none⟩) hlt).trans (hc i hi)⟩
theorem BolsAt.at_ {W w : World} {A : Option Addr} {bs : List Bool} (h : BolsAt W A bs) (hb : Below W.heap.size W w) {i : Nat} (hi : i < bs.length) : ∃ b off, A = some ⟨b, off, none⟩ ∧ w.cell? ⟨b, off + i, none⟩ = some (.bool bs[i]) := by
  rcases h with rfl | ⟨b, off, hA, hlt, hc⟩
  · simp at hi
  · exact ⟨b, off, hA, (hb.cell (p := ⟨b, off + i, none⟩) hlt).trans (hc i hi)⟩

/-- Lists of writes lie where a slice's address says. -/
def WlsAt (w : World) (B : Nat) (A : Option Addr) (wss : List (List Wr)) : Prop :=
  wss = [] ∨ ∃ b off, A = some ⟨b, off, none⟩ ∧ b < B ∧ ∀ i, (h : i < wss.length) → ∃ a c, w.cell? ⟨b, off + i, none⟩ = some (.slice a wss[i].length c) ∧ WrsAt w B a wss[i] ∧ wss[i].length ≤ 9223372036854775807 ∧ (a = none → c = 0)
theorem WlsAt.far {w : World} {B : Nat} {A : Option Addr} {wss : List (List Wr)} (h : WlsAt w B A wss) {i : Nat} (hi : i < wss.length) :
    ∃ b off a c, A = some ⟨b, off, none⟩ ∧ b < B ∧ (a = none → c = 0) ∧ (∀ w', Below B w w' → w'.cell? ⟨b, off + i, none⟩ = some (.slice a wss[i].length c) ∧ WrsAt w' B a wss[i]) := by
  rcases h with rfl | ⟨b, off, hA, hlt, hc⟩
  · simp at hi
  · obtain ⟨a, c, h1, h2, h3, h4⟩ := hc i hi
    exact ⟨b, off, a, c, hA, hlt, h4, fun w' hb => ⟨(hb.cell (p := ⟨b, off + i, none⟩) hlt).trans h1, h2.below hb⟩⟩

section
variable {H : Type} {enc : TypeId × Value → H} {w : World}
theorem open_wls {n : Nat} {A : Option Addr} {len cap : Nat} {y : DataW H × List MemPlace} (h : DataW.trod enc Try.prog w 0 (fun _ => true) true n 49 [.slice A len cap] = some y) :
    ∃ wss, wss.length = len ∧ WlsAt w w.heap.size A wss ∧ len ≤ 9223372036854775807 := by
  rcases Deep.open_slice Try.underlying49 h with ⟨hcs, _⟩ | ⟨a, l, c, m, n', D, Pl, hcs, _, hl, hm, hmm, _, hi⟩
  · simp only [List.cons.injEq, Value.slice.injEq, and_true] at hcs
    obtain ⟨rfl, rfl, rfl⟩ := hcs
    exact ⟨[], rfl, .inl rfl, by omega⟩
  · simp only [List.cons.injEq, Value.slice.injEq, and_true] at hcs
    obtain ⟨rfl, rfl, rfl⟩ := hcs
    simp only [if_true] at hmm
    subst hmm
    rw [Try.cellsWrsQ] at hi
    have hone : ∀ i, i < len → ∃ x : List Wr, ∃ a' c', w.cell? (a.add i) = some (.slice a' x.length c') ∧ WrsAt w w.heap.size a' x ∧ x.length ≤ 9223372036854775807 ∧ (a' = none → c' = 0) := fun i hlt => by
      obtain ⟨cs, hc, ht⟩ := hi i (by omega)
      obtain ⟨hcl, _, hat⟩ := World.cells?_some hc
      match cs, hcl with
      | [v], _ =>
        obtain ⟨a', l', c', rfl⟩ : ∃ a' l' c', v = .slice a' l' c' := by
          rcases Deep.open_slice Try.underlying23 ht with ⟨hcs, _⟩ | ⟨_, _, _, _, _, _, _, hcs, _⟩
          · simp only [List.cons.injEq, and_true] at hcs; exact ⟨_, _, _, hcs⟩
          · simp only [List.cons.injEq, and_true] at hcs; exact ⟨_, _, _, hcs⟩
        obtain ⟨x, hxl, hx, hx2, hx3⟩ := open_writes ht
        subst hxl
        have := hat 0 (by simp)
        rw [Nat.mul_one] at this
        have e : (a.add i).add 0 = a.add i := by cases a; simp [Addr.add]
        rw [e] at this
        exact ⟨x, a', c', this, hx, hx2, hx3⟩
    obtain ⟨L, hL, hp⟩ := list_of len hone
    refine ⟨L, hL, ?_, by unfold maxLen at hm; omega⟩
    by_cases h0 : len = 0
    · exact .inl (List.eq_nil_of_length_eq_zero (by omega))
    · obtain ⟨a0, c0, h1, _⟩ := hp 0 (by omega)
      have ha : a.add 0 = a := by cases a; simp [Addr.add]
      rw [ha] at h1
      have e := plain_addr h1
      refine .inr ⟨a.block, a.off, by rw [← e], World.block_lt_of_cell? w _ h1, fun i hi => ?_⟩
      obtain ⟨a1, c1, g1, g2, g3⟩ := hp i hi
      rw [e, WideShapes.add_plain] at g1
      exact ⟨a1, c1, g1, g2, g3⟩

theorem open_bols {n : Nat} {A : Option Addr} {len cap : Nat} {y : DataW H × List MemPlace} (h : DataW.trod enc Try.prog w 0 (fun _ => true) true n 50 [.slice A len cap] = some y) :
    len ≤ 9223372036854775807 ∧ ∃ bs : List Bool, bs.length = len ∧ BolsAt w A bs := by
  rcases Deep.open_bools Try.underlying50 Try.underlying4 Try.cellsBolQ h with ⟨hcs, _⟩ | ⟨a, l, c, B, hcs, _, hl, hm, _, hc⟩
  · simp only [List.cons.injEq, Value.slice.injEq, and_true] at hcs
    obtain ⟨rfl, rfl, rfl⟩ := hcs
    exact ⟨by omega, [], rfl, .inl rfl⟩
  · simp only [List.cons.injEq, Value.slice.injEq, and_true] at hcs
    obtain ⟨rfl, rfl, rfl⟩ := hcs
    refine ⟨by unfold maxLen at hm; omega, (List.range len).map B, by simp, ?_⟩
    by_cases h0 : len = 0
    · subst h0; exact .inl rfl
    · have h1 := hc 0 (by omega)
      have ha : a.add 0 = a := by cases a; simp [Addr.add]
      rw [ha] at h1
      have e := plain_addr h1
      refine .inr ⟨a.block, a.off, by rw [← e], World.block_lt_of_cell? w _ h1, fun i hi => ?_⟩
      have hi' : i < len := by simpa using hi
      have h2 := hc i (by omega)
      rw [e, WideShapes.add_plain] at h2
      rw [h2]
      simp

end
end Go.Proofs.Ytpmllckfijfehaa
