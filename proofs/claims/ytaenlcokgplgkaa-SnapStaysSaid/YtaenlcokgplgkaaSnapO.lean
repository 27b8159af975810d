/- Arguments of the laws on snapshots: lists of lists of writes. -/
import Derived.Test.YtaenlcokgplgkaaVolO
import Derived.Test.YtaenlcokgplgkaaSnapR
namespace Go.Proofs.Ytaenlcokgplgkaa
open Go.RowKit
open Go.ChangeShapes Go.WideShapes Go.ChangeAt

/-- Lists of writes lie where a slice's address says. -/
def WssAt (w : World) (B : Nat) (A : Option Addr) (wss : List (List Wr)) : Prop :=
  wss = [] ∨ ∃ b off, A = some ⟨b, off, none⟩ ∧ b < B ∧ ∀ i, (h : i < wss.length) → ∃ a c, w.cell? ⟨b, off + i, none⟩ = some (.slice a wss[i].length c) ∧ WrsAt w B a wss[i] ∧ wss[i].length ≤ 9223372036854775807
theorem WssAt.at_ {w w' : World} {B : Nat} {A : Option Addr} {wss : List (List Wr)} (h : WssAt w B A wss) (hb : Below B w w') {i : Nat} (hi : i < wss.length) :
    ∃ b off a c, A = some ⟨b, off, none⟩ ∧ b < B ∧ w'.cell? ⟨b, off + i, none⟩ = some (.slice a wss[i].length c) ∧ WrsAt w' B a wss[i] ∧ wss[i].length ≤ 9223372036854775807 := by
  rcases h with rfl | ⟨b, off, hA, hlt, hc⟩
  · simp at hi
  · obtain ⟨a, c, h1, h2, h3⟩ := hc i hi
    exact ⟨b, off, a, c, hA, hlt, (hb.cell (p := ⟨b, off + i, none⟩) hlt).trans h1, h2.below hb, h3⟩

section
variable {H : Type} {enc : TypeId × Value → H} {w : World}
theorem Try.cellsWrs : Try.prog.cellsOf 22 = 1 := by kernel_rfl
theorem open_wss {n : Nat} {A : Option Addr} {len cap : Nat} {y : DataW H × List MemPlace} (h : DataW.trod enc Try.prog w 0 (fun _ => true) true n 44 [.slice A len cap] = some y) :
    ∃ wss, wss.length = len ∧ WssAt w w.heap.size A wss ∧ len ≤ 9223372036854775807 := by
  rcases Deep.open_slice Try.underlying44 h with ⟨hcs, _⟩ | ⟨a, l, c, m, n', D, Pl, hcs, _, hl, hm, hmm, _, hi⟩
  · simp only [List.cons.injEq, Value.slice.injEq, and_true] at hcs
    obtain ⟨rfl, rfl, rfl⟩ := hcs
    exact ⟨[], rfl, .inl rfl, by omega⟩
  · simp only [List.cons.injEq, Value.slice.injEq, and_true] at hcs
    obtain ⟨rfl, rfl, rfl⟩ := hcs
    simp only [if_true] at hmm
    subst hmm
    rw [Try.cellsWrs] at hi
    have hone : ∀ i, i < len → ∃ x : List Wr, ∃ a' c', w.cell? (a.add i) = some (.slice a' x.length c') ∧ WrsAt w w.heap.size a' x ∧ x.length ≤ 9223372036854775807 := fun i hlt => by
      obtain ⟨cs, hc, ht⟩ := hi i (by omega)
      obtain ⟨hcl, _, hat⟩ := World.cells?_some hc
      match cs, hcl with
      | [v], _ =>
        obtain ⟨a', l', c', rfl⟩ : ∃ a' l' c', v = .slice a' l' c' := by
          rcases Deep.open_slice Try.underlying22 ht with ⟨hcs, _⟩ | ⟨_, _, _, _, _, _, _, hcs, _⟩
          · simp only [List.cons.injEq, and_true] at hcs; exact ⟨_, _, _, hcs⟩
          · simp only [List.cons.injEq, and_true] at hcs; exact ⟨_, _, _, hcs⟩
        obtain ⟨x, hxl, hx, hx2, _⟩ := open_writes ht
        subst hxl
        have := hat 0 (by simp)
        rw [Nat.mul_one] at this
        have e : (a.add i).add 0 = a.add i := by cases a; simp [Addr.add]
        rw [e] at this
        exact ⟨x, a', c', this, hx, hx2⟩
    obtain ⟨L, hL, hp⟩ := list_of len hone
    refine ⟨L, hL, ?_, by unfold maxLen at hm; omega⟩
    by_cases h0 : len = 0
    · exact .inl (List.eq_nil_of_length_eq_zero (by omega))
    · obtain ⟨a0, c0, h1, _⟩ := hp 0 (by omega)
      have ha : a.add 0 = a := by cases a; simp [Addr.add]
      rw [ha] at h1
      have e := plain_addr h1
      refine .inr ⟨a.block, a.off, by rw [← e], World.block_lt_of_cell? w _ h1, fun i hi => ?_⟩
      obtain ⟨a1, c1, g1, g2, g3⟩ := hp i hi
      rw [e, WideShapes.add_plain] at g1
      exact ⟨a1, c1, g1, g2, g3⟩
end
end Go.Proofs.Ytaenlcokgplgkaa
