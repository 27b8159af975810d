/- Contracts of Check and Apply of the package vols. -/
import Derived.Test.YtpefhocjnkbklaaVolT
import Derived.Test.YtpefhocjnkbklaaVolV
import Derived.StillTailTactics
namespace Go.Proofs.Ytpefhocjnkbklaa
open Go.RowKit

/-! ### Apply -/

/-- What the loop of Apply keeps. -/
structure ApplySt (w wr : World) (base : Nat) (v : Value) (vs : List Vl) : Prop where
  own : ∃ us, OwnV wr base v vs us
  bel : Below w.heap.size w wr
  low : w.heap.size ≤ base

theorem put1_at {vs : List Vl} {x : Wr} {k : Nat} (hk : findAt vs x.vol = k) (hlt : k < vs.length) : put1 vs x = vs.set k (vs[k].1, vs[k].2.set x.block.toNat x.data) := by
  unfold put1
  rw [hk]
  apply List.ext_getElem
  · simp
  · intro i h1 h2
    rw [List.getElem_modify, List.getElem_set]
    split
    · rename_i e; subst e; rfl
    · rfl

/-- One block of one volume is stored. -/
theorem OwnV.store {w : World} {base : Nat} {v : Value} {vs : List Vl} {us : List Value} (h : OwnV w base v vs us) {k j gu cu : Nat} (hk : k < vs.length) (hku : k < us.length) (hu : us[k] = .slice (some ⟨gu, 0, none⟩) vs[k].2.length cu) (s : ByteArray) :
    OwnV (w.setCell ⟨gu, j, none⟩ (.string s)) base v (vs.set k (vs[k].1, vs[k].2.set j s)) us := by
  have hown := h.each k hk hku
  rw [hu] at hown
  have hst := hown.stored j (.string s)
  have hgr := hst.2
  have hvg : v.ownBlock ≠ some gu := h.gap k hku gu (by rw [hu]; rfl)
  refine ⟨by simp [h.len], ?_, fun i h1 h2 => ?_, h.gap, h.apart⟩
  · have h1 := h.row.kept hgr (Or.inr hvg)
    have h2 := volCells_id h.len k (vs[k].1, vs[k].2.set j s)
    have h3 : (volCells vs us).set (k * 2) (.int .i64 vs[k].1) = volCells vs us := by
      apply List.ext_getElem?
      intro i
      by_cases e : k * 2 = i
      · subst e
        rw [volCells_fst h.len hk, List.getElem?_set_self (by rw [volCells_length h.len]; omega)]
      · rw [List.getElem?_set_ne e]
    simp only at h2
    rw [h3] at h2
    rw [← h2, List.length_set]
    exact h1
  · have h1' : i < vs.length := by simpa using h1
    by_cases e : k = i
    · subst e
      rw [List.getElem_set_self]
      simp only
      rw [hu, List.length_set, List.map_set]
      exact hst.1
    · rw [List.getElem_set_ne e]
      refine (h.each i h1' h2).kept hgr ?_
      cases hq : us[i].ownBlock with
      | none => exact Or.inl rfl
      | some b => exact Or.inr (fun e2 => by cases e2; exact h.apart k i hku h2 gu e (by rw [hu]; rfl) hq)

theorem ApplySt.step {w wr w2 : World} {base : Nat} {v : Value} {vs : List Vl} {us : List Value} (h : OwnV wr base v vs us) (hb : Below wr.heap.size wr w2) (hbel : Below w.heap.size w wr) (hlow : w.heap.size ≤ base) {k j gu cu : Nat} (hk : k < vs.length) (hku : k < us.length) (hu : us[k] = .slice (some ⟨gu, 0, none⟩) vs[k].2.length cu) (s : ByteArray) :
    ApplySt w (w2.setCell ⟨gu, j, none⟩ (.string s)) base v (vs.set k (vs[k].1, vs[k].2.set j s)) := by
  have h2 : OwnV w2 base v vs us := ⟨h.len, own_kept h.row hb, fun i h1 h2 => own_kept (h.each i h1 h2) hb, h.gap, h.apart⟩
  refine ⟨⟨us, h2.store hk hku hu s⟩, ?_, hlow⟩
  have hg := (h.each k hk hku).lt gu (by rw [hu]; rfl)
  exact (hbel.trans (hb.mono hbel.size)).setCell (by show w.heap.size ≤ gu; omega) _

end Go.Proofs.Ytpefhocjnkbklaa
