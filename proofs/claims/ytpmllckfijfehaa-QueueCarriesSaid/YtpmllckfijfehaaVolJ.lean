/- Contract of Add of the package vols. -/
import Derived.Test.YtpmllckfijfehaaVolI
namespace Go.Proofs.Ytpmllckfijfehaa
open Go.RowKit

theorem mem_zip_take {α β : Type} {l : List α} {m : List β} {k : Nat} {p : α × β} (h : p ∈ (l.take k).zip (m.take k)) : p ∈ l.zip m := by
  induction l generalizing m k with
  | nil => simp at h
  | cons a l ih =>
    cases m with
    | nil => simp at h
    | cons b m =>
      cases k with
      | zero => simp at h
      | succ k =>
        simp only [List.take_succ_cons, List.zip_cons_cons, List.mem_cons] at h ⊢
        exact h.imp id ih
theorem mem_zip_drop {α β : Type} {l : List α} {m : List β} {k : Nat} {p : α × β} (h : p ∈ (l.drop k).zip (m.drop k)) : p ∈ l.zip m := by
  induction l generalizing m k with
  | nil => simp at h
  | cons a l ih =>
    cases m with
    | nil => simp at h
    | cons b m =>
      cases k with
      | zero => simpa using h
      | succ k =>
        simp only [List.drop_succ_cons] at h
        simp only [List.zip_cons_cons, List.mem_cons]
        exact Or.inr (ih h)
theorem mem_zip_at {α β : Type} {l : List α} {m : List β} {p : α × β} (h : p ∈ l.zip m) : ∃ i, ∃ (h1 : i < l.length) (h2 : i < m.length), p = (l[i], m[i]) := by
  obtain ⟨i, hi, rfl⟩ := List.getElem_of_mem h
  simp only [List.length_zip] at hi
  exact ⟨i, by omega, by omega, by simp⟩
theorem zip_mem_at {α β : Type} {l : List α} {m : List β} {i : Nat} (h1 : i < l.length) (h2 : i < m.length) : (l[i], m[i]) ∈ l.zip m := by
  have h : i < (l.zip m).length := by rw [List.length_zip]; omega
  have := List.getElem_mem h
  rwa [List.getElem_zip] at this
theorem VolsAt.of_zip {w : World} {B : Nat} {A : Option Addr} {vs : List Vl} {us : List Value} (hl : us.length = vs.length) (h : Lies w B A (volCells vs us)) (hu : ∀ p ∈ vs.zip us, IsTexts w B p.2 p.1.2) : VolsAt w B A vs :=
  VolsAt.of_rows hl h (fun _ h1 h2 => hu _ (zip_mem_at h1 h2))

theorem right_small {vs : List Vl} (h : rightB vs = true) : vs.length ≤ 4 ∧ ∀ v ∈ vs, v.2.length ≤ 32 := by
  refine ⟨((rightB_iff vs).1 h).1, fun v hv => ?_⟩
  have := (volOk_iff v).1 (goodFrom_ok (rightB_good h) v hv)
  omega
theorem right_fit {vs : List Vl} (h : rightB vs = true) : VolsFit vs := by
  obtain ⟨h1, h2⟩ := right_small h
  exact ⟨by omega, fun v hv => by have := h2 v hv; omega⟩

/-- What is left behind Insert. -/
theorem add_end {w w3 w4 w5 : World} {base at_ g0 n cap : Nat} {id : Int} {v : Value} {vs : List Vl} {us : List Value} {A : Option Addr} (hO : OwnV w3 base v vs us)
    (ho : w4.ownsRow w3.heap.size 9 1 (.slice (some ⟨g0, 0, none⟩) n n) n ((blankB n).map Value.string)) (hb : Below w3.heap.size w3 w4)
    (hl : Lies w5 w5.heap.size A ((volCells vs us).take (at_ * 2) ++ [.int .i64 id, .slice (some ⟨g0, 0, none⟩) n n] ++ (volCells vs us).drop (at_ * 2)))
    (hg : (w4.alloc (.cells #[.int .i64 id, .slice (some ⟨g0, 0, none⟩) n n] 70)).grownBy w5 v.ownBlock) (hat : at_ ≤ vs.length)
    (hbw : Below w.heap.size w w3) (hbase : w.heap.size ≤ base) :
    VolsEnd (vs.take at_ ++ (id, blankB n) :: vs.drop at_) 0 w (.returned (.tuple #[.slice A (vs.length + 1) cap, .int .i64 0])) w5 := by
  have hlen : (vs.take at_ ++ (id, blankB n) :: vs.drop at_).length = vs.length + 1 := by simp; omega
  refine ⟨A, cap, by rw [hlen], ?_, ?_⟩
  · have htk : (us.take at_).length = (vs.take at_).length := by rw [List.length_take, List.length_take, hO.len]
    refine VolsAt.of_zip (us := us.take at_ ++ (.slice (some ⟨g0, 0, none⟩) n n) :: us.drop at_) (by simp [hO.len]) ?_ (fun p hp => ?_)
    · rw [volCells_append htk, volCells, ← volCells_take hO.len, ← volCells_drop hO.len]
      simpa using hl
    · have hkeep : ∀ p ∈ vs.zip us, IsTexts w5 w5.heap.size p.2 p.1.2 := fun p hp => by
        obtain ⟨i, h1, h2, rfl⟩ := mem_zip_at hp
        have h3 := (own_kept (hO.each i h1 h2) hb).alloc (.cells #[.int .i64 id, .slice (some ⟨g0, 0, none⟩) n n] 70)
        refine own_texts (h3.kept hg ?_)
        cases hq : us[i].ownBlock with
        | none => exact Or.inl rfl
        | some k => exact Or.inr (fun e => hO.gap i h2 k hq e.symm)
      rw [List.zip_append (by rw [List.length_take, List.length_take, hO.len]), List.zip_cons_cons] at hp
      rcases List.mem_append.1 hp with hp | hp
      · exact hkeep p (mem_zip_take hp)
      · rcases List.mem_cons.1 hp with rfl | hp
        · have h3 := ho.alloc (.cells #[.int .i64 id, .slice (some ⟨g0, 0, none⟩) n n] 70)
          have h4 := h3.kept hg (Or.inr (fun e => by
            have h5 := (ho.lt g0 rfl).1
            have h6 := (hO.row.lt g0 e.symm).2
            omega))
          have h5 : (blankB n).length = n := blankB_length n
          refine own_texts (base := w3.heap.size) ?_
          show World.ownsRow _ _ _ _ _ (blankB n).length _
          rw [h5]
          exact h4
        · exact hkeep p (mem_zip_drop hp)
  · have h1 : Below w.heap.size w (w4.alloc (.cells #[.int .i64 id, .slice (some ⟨g0, 0, none⟩) n n] 70)) := (hbw.trans (hb.mono hbw.size)).alloc (by have := hbw.size; have := hb.size; omega) _
    exact h1.grown hg h1.size (fun k hk => by have := (hO.row.lt k hk).1; omega)

theorem OwnV.oneCells {w : World} {base : Nat} {v : Value} {vs : List Vl} {us : List Value} (h : OwnV w base v vs us) : ∀ u ∈ volCells vs us, u.oneCell' = true :=
  volCells_one (fun u hu => by
    obtain ⟨i, hi, rfl⟩ := List.getElem_of_mem hu
    exact (own_texts (h.each i (by rw [← h.len]; exact hi) hi)).one)

theorem addE_arg {vs : List Vl} {id n : Int} (h : ¬ (rightB vs = true ∧ shapeB id n = true)) : addE vs id n = 1 ∧ addV vs id n = [] := by
  have e : addE vs id n = 1 := by unfold addE; rw [if_neg h]
  exact ⟨e, by unfold addV; rw [e]; rfl⟩
theorem addE_there {vs : List Vl} {id n : Int} (h : rightB vs = true ∧ shapeB id n = true) (h2 : hasAt vs id = true) : addE vs id n = 9 ∧ addV vs id n = [] := by
  have e : addE vs id n = 9 := by unfold addE; rw [if_pos h, if_pos h2]
  exact ⟨e, by unfold addV; rw [e]; rfl⟩
theorem addE_full {vs : List Vl} {id n : Int} (h : rightB vs = true ∧ shapeB id n = true) (h2 : hasAt vs id = false) (h3 : vs.length = 4) : addE vs id n = 6 ∧ addV vs id n = [] := by
  have e : addE vs id n = 6 := by unfold addE; rw [if_pos h, if_neg (by simp [h2]), if_pos h3]
  exact ⟨e, by unfold addV; rw [e]; rfl⟩
theorem addE_ok {vs : List Vl} {id n : Int} (h : rightB vs = true ∧ shapeB id n = true) (h2 : hasAt vs id = false) (h3 : vs.length ≠ 4) : addE vs id n = 0 ∧ addV vs id n = vs.take (findAt vs id) ++ (id, blankB n.toNat) :: vs.drop (findAt vs id) := by
  have e : addE vs id n = 0 := by unfold addE; rw [if_pos h, if_neg (by simp [h2]), if_neg h3]
  exact ⟨e, by unfold addV; rw [if_pos e]⟩

end Go.Proofs.Ytpmllckfijfehaa
