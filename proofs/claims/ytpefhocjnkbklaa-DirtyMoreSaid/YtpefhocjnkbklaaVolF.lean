/- Volumes that a call owns ('OwnV'); the contract of clone. -/
import Derived.Test.YtpefhocjnkbklaaVolE
namespace Go.Proofs.Ytpefhocjnkbklaa
open Go.RowKit

/-- The volumes vs lie in rows of the call's own, from block base on: the row of the volumes is v, the rows of their blocks are us. -/
structure OwnV (w : World) (base : Nat) (v : Value) (vs : List Vl) (us : List Value) : Prop where
  len : us.length = vs.length
  row : w.ownsRow base 77 2 v vs.length (volCells vs us)
  each : ∀ i (h1 : i < vs.length) (h2 : i < us.length), w.ownsRow base 9 1 us[i] vs[i].2.length (vs[i].2.map Value.string)
  gap : ∀ i (h2 : i < us.length) k, us[i].ownBlock = some k → v.ownBlock ≠ some k
  apart : ∀ i j (hi : i < us.length) (hj : j < us.length) k, i ≠ j → us[i].ownBlock = some k → us[j].ownBlock ≠ some k

theorem own_texts {w : World} {base : Nat} {u : Value} {bs : List ByteArray} (h : w.ownsRow base 9 1 u bs.length (bs.map Value.string)) : IsTexts w w.heap.size u bs := by
  obtain ⟨A, c, rfl, _, hl⟩ := own_lies h
  exact ⟨A, c, rfl, hl⟩
theorem own_base {w : World} {base base' : Nat} {t : TypeId} {size : Nat} {v : Value} {n : Nat} {xs : List Value} (h : w.ownsRow base t size v n xs) (hb : base' ≤ base) : w.ownsRow base' t size v n xs := by
  refine ⟨h.1, h.2.imp id ?_⟩
  rintro ⟨g, cap, cur, h1, h2, h3⟩
  exact ⟨g, cap, cur, h1, by omega, h3⟩
theorem OwnV.vols {w : World} {base : Nat} {v : Value} {vs : List Vl} {us : List Value} (h : OwnV w base v vs us) : ∃ A c, v = .slice A vs.length c ∧ VolsAt w w.heap.size A vs := by
  obtain ⟨A, c, rfl, _, hl⟩ := own_lies h.row
  exact ⟨A, c, rfl, VolsAt.of_rows h.len hl (fun i h1 h2 => own_texts (h.each i h1 h2))⟩

/-- What the loop of clone keeps. -/
structure CloneSt (w wr : World) (v : Value) (vs : List Vl) (us : List Value) (k : Nat) : Prop where
  len : us.length = vs.length
  row : wr.ownsRow w.heap.size 77 2 v vs.length (volCells vs us)
  done : ∀ i (h1 : i < vs.length) (h2 : i < us.length), i < k → wr.ownsRow w.heap.size 9 1 us[i] vs[i].2.length (vs[i].2.map Value.string)
  todo : ∀ i (h1 : i < vs.length) (h2 : i < us.length), k ≤ i → IsTexts wr w.heap.size us[i] vs[i].2
  gap : ∀ i (h2 : i < us.length) b, i < k → us[i].ownBlock = some b → v.ownBlock ≠ some b
  apart : ∀ i j (hi : i < us.length) (hj : j < us.length) b, i < k → j < k → i ≠ j → us[i].ownBlock = some b → us[j].ownBlock ≠ some b
  bel : Below w.heap.size w wr

theorem CloneSt.own {w wr : World} {v : Value} {vs : List Vl} {us : List Value} {k : Nat} (h : CloneSt w wr v vs us k) (hk : k = vs.length) : OwnV wr w.heap.size v vs us :=
  ⟨h.len, h.row, fun i h1 h2 => h.done i h1 h2 (by omega), fun i h2 b => h.gap i h2 b (by have := h.len; omega), fun i j hi hj b => h.apart i j hi hj b (by have := h.len; omega) (by have := h.len; omega)⟩

/-- One volume's blocks are copied, and the copy laid down. -/
theorem CloneSt.step {w wr w2 : World} {g cap : Nat} {vs : List Vl} {us : List Value} {k : Nat} {u : Value} (h : CloneSt w wr (.slice (some ⟨g, 0, none⟩) vs.length cap) vs us k) (hk : k < vs.length)
    (ho : w2.ownsRow wr.heap.size 9 1 u vs[k].2.length (vs[k].2.map Value.string)) (hb : Below wr.heap.size wr w2) :
    CloneSt w (w2.setCell ⟨g, k * 2 + 1, none⟩ u) (.slice (some ⟨g, 0, none⟩) vs.length cap) vs (us.set k u) (k + 1) := by
  have hg := h.row.lt g rfl
  have hz := h.bel.size
  have hro : w2.ownsRow w.heap.size 77 2 (.slice (some ⟨g, 0, none⟩) vs.length cap) vs.length (volCells vs us) := own_kept h.row hb
  have hub : ∀ b, u.ownBlock = some b → wr.heap.size ≤ b := fun b hb' => (ho.lt b hb').1
  have hst := hro.stored (k * 2 + 1) u
  rw [volCells_set h.len] at hst
  have hgr := hst.2
  have hbel : Below w.heap.size w (w2.setCell ⟨g, k * 2 + 1, none⟩ u) := (h.bel.trans (hb.mono hz)).setCell (by exact hg.1) _
  have hbel2 : Below w.heap.size wr (w2.setCell ⟨g, k * 2 + 1, none⟩ u) := (hb.mono hz).setCell (by exact hg.1) _
  have hold : ∀ i (h2 : i < us.length) b, i < k → us[i].ownBlock = some b → b < wr.heap.size := fun i h2 b hi hb' => ((h.done i (by have := h.len; omega) h2 hi).lt b hb').2
  refine ⟨by simp [h.len], hst.1, fun i h1 h2 hi => ?_, fun i h1 h2 hi => ?_, fun i h2 b hi => ?_, fun i j hi hj b hik hjk hij => ?_, hbel⟩
  · by_cases e : k = i
    · subst e
      rw [List.getElem_set_self]
      exact (own_base ho hz).kept hgr (Or.inr (fun e => by have := hub g e; omega))
    · rw [List.getElem_set_ne e]
      have h2' : i < us.length := by simpa using h2
      have h3 := own_kept (h.done i h1 h2' (by omega)) hb
      refine h3.kept hgr (Or.inr (fun e => ?_))
      exact h.gap i h2' g (by omega) e rfl
  · have h2' : i < us.length := by simpa using h2
    rw [List.getElem_set_ne (by omega)]
    exact (h.todo i h1 h2' (by omega)).below hbel2
  · by_cases e : k = i
    · subst e
      rw [List.getElem_set_self]
      intro h3 h4
      simp only [Value.ownBlock, Option.some.injEq] at h4
      have := hub b h3; omega
    · rw [List.getElem_set_ne e]
      exact h.gap i (by simpa using h2) b (by omega)
  · have hi' : i < us.length := by simpa using hi
    have hj' : j < us.length := by simpa using hj
    by_cases e : k = i
    · subst e
      rw [List.getElem_set_self, List.getElem_set_ne hij]
      intro h3 h4
      have := hub b h3
      have := hold j hj' b (by omega) h4
      omega
    · rw [List.getElem_set_ne e]
      by_cases e2 : k = j
      · subst e2
        rw [List.getElem_set_self]
        intro h3 h4
        have := hub b h4
        have := hold i hi' b (by omega) h3
        omega
      · rw [List.getElem_set_ne e2]
        exact h.apart i j hi' hj' b (by omega) (by omega) hij

def CloneEnd (vs : List Vl) (w : World) (e : Ending) (w' : World) : Prop := ∃ v us, e = .returned v ∧ OwnV w' w.heap.size v vs us ∧ Below w.heap.size w w'

end Go.Proofs.Ytpefhocjnkbklaa
