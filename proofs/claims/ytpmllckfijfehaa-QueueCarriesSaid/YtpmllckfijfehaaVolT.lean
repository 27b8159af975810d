/- Contracts of Drop and Resize of the package vols. -/
import Derived.Test.YtpmllckfijfehaaVolS
namespace Go.Proofs.Ytpmllckfijfehaa
open Go.RowKit

theorem drop_end {w w3 w5 : World} {base at_ cap : Nat} {v : Value} {vs : List Vl} {us : List Value} {A : Option Addr} (hO : OwnV w3 base v vs us)
    (hl : Lies w5 w5.heap.size A ((volCells vs us).take (at_ * 2) ++ (volCells vs us).drop ((at_ + 1) * 2)))
    (hg : w3.grownBy w5 v.ownBlock) (hat : at_ < vs.length) (hbw : Below w.heap.size w w3) (hbase : w.heap.size ≤ base) :
    VolsEnd (vs.take at_ ++ vs.drop (at_ + 1)) 0 w (.returned (.tuple #[.slice A (vs.length - 1) cap, .int .i64 0])) w5 := by
  have hlen : (vs.take at_ ++ vs.drop (at_ + 1)).length = vs.length - 1 := by simp; omega
  refine ⟨A, cap, by rw [hlen], ?_, ?_⟩
  · have htk : (us.take at_).length = (vs.take at_).length := by rw [List.length_take, List.length_take, hO.len]
    refine VolsAt.of_zip (us := us.take at_ ++ us.drop (at_ + 1)) (by simp [hO.len]) ?_ (fun p hp => ?_)
    · rw [volCells_append htk, ← volCells_take hO.len, ← volCells_drop hO.len]
      exact hl
    · have hkeep : ∀ p ∈ vs.zip us, IsTexts w5 w5.heap.size p.2 p.1.2 := fun p hp => by
        obtain ⟨i, h1, h2, rfl⟩ := mem_zip_at hp
        refine own_texts ((hO.each i h1 h2).kept hg ?_)
        cases hq : us[i].ownBlock with
        | none => exact Or.inl rfl
        | some k => exact Or.inr (fun e => hO.gap i h2 k hq e.symm)
      rw [List.zip_append (by rw [List.length_take, List.length_take, hO.len])] at hp
      rcases List.mem_append.1 hp with hp | hp
      · exact hkeep p (mem_zip_take hp)
      · exact hkeep p (mem_zip_drop hp)
  · exact hbw.grown hg hbw.size (fun k hk => by have := (hO.row.lt k hk).1; omega)

theorem dropE_arg {vs : List Vl} {id : Int} (h : rightB vs = false) : dropE vs id = 1 ∧ dropV vs id = [] := by
  have e : dropE vs id = 1 := by unfold dropE; rw [if_neg (by simp [h])]
  exact ⟨e, by unfold dropV; rw [e]; rfl⟩
theorem dropE_none {vs : List Vl} {id : Int} (h : rightB vs = true) (h2 : hasAt vs id = false) : dropE vs id = 8 ∧ dropV vs id = [] := by
  have e : dropE vs id = 8 := by unfold dropE; rw [if_pos h, if_neg (by simp [h2])]
  exact ⟨e, by unfold dropV; rw [e]; rfl⟩
theorem dropE_ok {vs : List Vl} {id : Int} (h : rightB vs = true) (h2 : hasAt vs id = true) : dropE vs id = 0 ∧ dropV vs id = vs.take (findAt vs id) ++ vs.drop (findAt vs id + 1) := by
  have e : dropE vs id = 0 := by unfold dropE; rw [if_pos h, if_pos h2]
  exact ⟨e, by unfold dropV; rw [if_pos e]⟩

theorem resE_arg {vs : List Vl} {id n : Int} (h : ¬ (rightB vs = true ∧ sizeB n = true)) : resE vs id n = 1 ∧ resV vs id n = [] := by
  have e : resE vs id n = 1 := by unfold resE; rw [if_neg h]
  exact ⟨e, by unfold resV; rw [e]; rfl⟩
theorem resE_none {vs : List Vl} {id n : Int} (h : rightB vs = true ∧ sizeB n = true) (h2 : hasAt vs id = false) : resE vs id n = 8 ∧ resV vs id n = [] := by
  have e : resE vs id n = 8 := by unfold resE; rw [if_pos h, if_neg (by simp [h2])]
  exact ⟨e, by unfold resV; rw [e]; rfl⟩
theorem resE_ok {vs : List Vl} {id n : Int} (h : rightB vs = true ∧ sizeB n = true) (h2 : hasAt vs id = true) : resE vs id n = 0 ∧ resV vs id n = vs.set (findAt vs id) (id, resized (vs.getD (findAt vs id) (0, [])).2 n.toNat) := by
  have e : resE vs id n = 0 := by unfold resE; rw [if_pos h, if_pos h2]
  exact ⟨e, by unfold resV; rw [if_pos e]⟩

/-- The world behind 'out[at] = blank(id, n)'. -/
def resW (w4 : World) (g k g0 m : Nat) (id : Int) : World := (w4.setCell ⟨g, k * 2, none⟩ (.int .i64 id)).setCell ⟨g, k * 2 + 1, none⟩ (.slice (some ⟨g0, 0, none⟩) m m)
/-- What is copied. -/
def resC (bs : List ByteArray) (m : Nat) : List Value := (bs.take m).map Value.string
theorem resC_length (bs : List ByteArray) (m : Nat) : (resC bs m).length = min m bs.length := by simp [resC]
theorem resC_one (bs : List ByteArray) (m : Nat) : ∀ u ∈ resC bs m, u.oneCell' = true := by
  intro u hu
  obtain ⟨s, _, rfl⟩ := List.mem_map.1 hu
  rfl

theorem resized_length (bs : List ByteArray) (m : Nat) : (resized bs m).length = m := by
  unfold resized
  rw [List.length_append, List.length_take, blankB_length]
  omega

section
variable {w w2 w3 w4 : World} {g cap k g0 m : Nat} {id : Int} {vs : List Vl} {us : List Value} {A : Option Addr}

theorem resW_row (hO : OwnV w3 w2.heap.size (.slice (some ⟨g, 0, none⟩) vs.length cap) vs us) (hb4 : Below w3.heap.size w3 w4) (X : List ByteArray) :
    (resW w4 g k g0 m id).ownsRow w2.heap.size 70 2 (.slice (some ⟨g, 0, none⟩) vs.length cap) vs.length (volCells (vs.set k (id, X)) (us.set k (.slice (some ⟨g0, 0, none⟩) m m))) ∧ w4.grownBy (resW w4 g k g0 m id) (some g) := by
  have h4 := own_kept hO.row hb4
  have h5 := h4.stored (k * 2) (.int .i64 id)
  rw [volCells_id hO.len k (id, X)] at h5
  have h6 := h5.1.stored (k * 2 + 1) (.slice (some ⟨g0, 0, none⟩) m m)
  rw [volCells_set (by simp [hO.len])] at h6
  exact ⟨h6.1, h5.2.trans h6.2⟩

/-- The run of the copy. -/
theorem res_copy (ho4 : w4.ownsRow w3.heap.size 9 1 (.slice (some ⟨g0, 0, none⟩) m m) m ((blankB m).map Value.string)) (hg0 : g0 ≠ g) {a : Option Addr} {bs : List ByteArray} (hbs : 1 ≤ bs.length)
    (hl : Lies (resW w4 g k g0 m id) w.heap.size a (bs.map Value.string)) :
    ∃ ad, a = some ad ∧ ∀ ty c', (Builtin.copy_ #[68, 68] ty #[.slice (some ⟨g0, 0, none⟩) m m, .slice (some ad) bs.length c']).run Try.prog (resW w4 g k g0 m id).drew = .ok (goInt (Nat.min bs.length m)) ((resW w4 g k g0 m id).drew.setCells g0 0 (resC bs m)) := by
  obtain ⟨b2, off2, rfl, _, hc⟩ := hl.at_ (by intro e; simp at e; subst e; simp at hbs)
  have hblk : (resW w4 g k g0 m id).heap[g0]? = w4.heap[g0]? := by
    unfold resW
    rw [Below.heap_setCell _ _ _ _ hg0, Below.heap_setCell _ _ _ _ hg0]
  refine ⟨_, rfl, fun ty c' => ?_⟩
  refine run_copy_k (resW w4 g k g0 m id).drew 1 _ _ ty 9 g0 0 m m ⟨b2, off2, none⟩ bs.length c' (resC bs m) Try.underlying68 (by kernel_rfl) ?_ ?_ ?_ ?_ (resC_one _ _)
  · rw [resC_length, Nat.mul_one, Nat.min_comm]
  · intro j u hu
    rw [WideShapes.add_plain]
    obtain ⟨hj1, hj2⟩ := List.getElem?_eq_some_iff.1 hu
    rw [resC_length] at hj1
    show (resW w4 g k g0 m id).cell? _ = _
    rw [hc j (by simp; omega)]
    rw [← hj2]
    simp [resC]
  · intro j hj
    rw [resC_length] at hj
    show ((resW w4 g k g0 m id).cell? _).isSome = true
    rw [World.cell?_of_block hblk, Nat.zero_add, ho4.cellAt j (by omega)]
    simp [blankB]
    omega
  · intro j hj
    show (resW w4 g k g0 m id).frozen? _ = false
    rw [World.frozen?_of_block hblk, ho4.frozenAt]

theorem res_end (hO : OwnV w3 w2.heap.size (.slice (some ⟨g, 0, none⟩) vs.length cap) vs us) (hb4 : Below w3.heap.size w3 w4)
    (ho4 : w4.ownsRow w3.heap.size 9 1 (.slice (some ⟨g0, 0, none⟩) m m) m ((blankB m).map Value.string)) (hk : k < vs.length) (hbw : Below w.heap.size w w3) (hbase : w.heap.size ≤ w2.heap.size) :
    VolsEnd (vs.set k (id, resized vs[k].2 m)) 0 w (.returned (.tuple #[.slice (some ⟨g, 0, none⟩) vs.length cap, .int .i64 0])) ((resW w4 g k g0 m id).drew.setCells g0 0 (resC vs[k].2 m)) := by
  obtain ⟨hrow, hgr⟩ := resW_row (k := k) (g0 := g0) (m := m) (id := id) hO hb4 (resized vs[k].2 m)
  have hgw := (hO.row.lt g rfl)
  have hg0w := (ho4.lt g0 rfl)
  have hne : g ≠ g0 := by omega
  have hgr2 : (resW w4 g k g0 m id).grownBy ((resW w4 g k g0 m id).drew.setCells g0 0 (resC vs[k].2 m)) (some g0) := grown_setCells (grown_drew (grown_refl _ _)) _ _
  have hrow2 := hrow.kept hgr2 (Or.inr (by simp only [Value.ownBlock, ne_eq, Option.some.injEq]; exact hne))
  have hblk : (resW w4 g k g0 m id).heap[g0]? = w4.heap[g0]? := by
    unfold resW
    rw [Below.heap_setCell _ _ _ _ (Ne.symm hne), Below.heap_setCell _ _ _ _ (Ne.symm hne)]
  have hz : ((resW w4 g k g0 m id).drew.setCells g0 0 (resC vs[k].2 m)).heap.size = w4.heap.size := by
    rw [size_setCells]; show (resW w4 g k g0 m id).heap.size = _; unfold resW; simp
  have hlen : (vs.set k (id, resized vs[k].2 m)).length = vs.length := by simp
  refine ⟨_, cap, by rw [hlen], ?_, ?_⟩
  · obtain ⟨A', c', hv, _, hl⟩ := own_lies hrow2
    simp only [Value.slice.injEq] at hv
    obtain ⟨rfl, _, _⟩ := hv
    refine VolsAt.of_rows (us := us.set k (.slice (some ⟨g0, 0, none⟩) m m)) (by simp [hO.len]) hl (fun i h1 h2 => ?_)
    have h1' : i < vs.length := by simpa using h1
    have h2' : i < us.length := by simpa using h2
    by_cases e : k = i
    · subst e
      rw [List.getElem_set_self, List.getElem_set_self]
      refine ⟨some ⟨g0, 0, none⟩, m, by rw [resized_length], .inr ⟨g0, 0, rfl, by rw [hz]; omega, fun j hj => ?_⟩⟩
      have hj' : j < m := by rw [List.length_map, resized_length] at hj; exact hj
      have hs : ∀ t, t < (resC vs[k].2 m).length → ((resW w4 g k g0 m id).drew.cell? ⟨g0, 0 + t, none⟩).isSome = true := fun t ht => by
        rw [resC_length] at ht
        show ((resW w4 g k g0 m id).cell? _).isSome = true
        rw [World.cell?_of_block hblk, Nat.zero_add, ho4.cellAt t (by omega)]
        simp [blankB]
        omega
      by_cases c1 : j < vs[k].2.length
      · have hj2 : j < (resC vs[k].2 m).length := by rw [resC_length]; omega
        rw [World.cell?_setCells_in g0 (resC vs[k].2 m) 0 _ hs j hj2]
        simp only [resC, resized, List.getElem_map]
        rw [List.getElem_append_left (by rw [List.length_take]; omega)]
      · rw [World.cell?_setCells_out g0 (resC vs[k].2 m) 0 _ _ (fun _ _ => Or.inr (by show 0 + (resC vs[k].2 m).length ≤ 0 + j; rw [resC_length]; omega))]
        show (resW w4 g k g0 m id).cell? _ = _
        rw [World.cell?_of_block hblk, Nat.zero_add, ho4.cellAt j (by omega)]
        simp only [resized, List.getElem_map]
        rw [List.getElem_append_right (by rw [List.length_take]; omega)]
        simp [blankB, hj']
    · rw [List.getElem_set_ne e, List.getElem_set_ne e]
      have h3 := (own_kept (hO.each i h1' h2') hb4).kept hgr (by
        cases hq : us[i].ownBlock with
        | none => exact Or.inl rfl
        | some b => exact Or.inr (fun e => by cases e; exact hO.gap i h2' g hq rfl))
      have h4 := h3.kept hgr2 (by
        cases hq : us[i].ownBlock with
        | none => exact Or.inl rfl
        | some b => exact Or.inr (fun e => by cases e; have := ((hO.each i h1' h2').lt g0 hq).2; omega))
      exact own_texts h4
  · have h1 : Below w.heap.size w w4 := hbw.trans (hb4.mono hbw.size)
    have h2 : Below w.heap.size w (resW w4 g k g0 m id) := h1.grown hgr h1.size (fun q hq => by cases hq; omega)
    exact h2.grown hgr2 h2.size (fun q hq => by cases hq; have := hbw.size; omega)
end

end Go.Proofs.Ytpmllckfijfehaa
