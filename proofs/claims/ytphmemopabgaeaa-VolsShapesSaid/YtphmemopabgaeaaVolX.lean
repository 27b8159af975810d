/- Shapes of volumes, plain: what is added can be dropped, what grew can shrink back. No program in sight. -/
import Derived.Test.YtphmemopabgaeaaVolV
namespace Go.Proofs.Ytphmemopabgaeaa

theorem goodB {vs : List Vl} (h : rightB vs = true) : goodFrom 0 vs = true := ((rightB_iff vs).1 h).2
theorem blank_len (n : Nat) : (blankB n).length = n := by simp [blankB]
theorem blank_ok (id : Int) (n : Nat) (h : shapeB id n = true) : volOk (id, blankB n) = true := by
  have h1 := (shapeB_iff _ _).1 h
  refine (volOk_iff _).2 ⟨by simp only [blank_len]; omega, fun s hs => ?_⟩
  simp only [blankB] at hs
  rw [List.eq_of_mem_replicate hs]
  decide

/-- A volume laid in where it belongs. -/
theorem good_insert {vs : List Vl} {last : Int} {x : Vl} (h : goodFrom last vs = true) (hx : volOk x = true) (hl : last < x.1) (hn : hasAt vs x.1 = false) :
    goodFrom last (vs.take (findAt vs x.1) ++ x :: vs.drop (findAt vs x.1)) = true ∧ findAt (vs.take (findAt vs x.1) ++ x :: vs.drop (findAt vs x.1)) x.1 = findAt vs x.1 ∧ hasAt (vs.take (findAt vs x.1) ++ x :: vs.drop (findAt vs x.1)) x.1 = true := by
  induction vs generalizing last with
  | nil => exact ⟨(goodFrom_cons _ _ _).2 ⟨hl, hx, rfl⟩, by simp [findAt], by simp [findAt, hasAt]⟩
  | cons v r ih =>
    obtain ⟨h1, h2, h3⟩ := (goodFrom_cons _ _ _).1 h
    by_cases hc : x.1 ≤ v.1
    · have e : findAt (v :: r) x.1 = 0 := by rw [findAt, if_pos hc]
      have hne : v.1 ≠ x.1 := by rw [hasAt, if_pos hc] at hn; simpa using hn
      rw [e]
      simp only [List.take_zero, List.nil_append, List.drop_zero]
      refine ⟨(goodFrom_cons _ _ _).2 ⟨hl, hx, (goodFrom_cons _ _ _).2 ⟨by omega, h2, h3⟩⟩, ?_, ?_⟩
      · rw [findAt, if_pos (Int.le_refl _)]
      · rw [hasAt, if_pos (Int.le_refl _)]; simp
    · have e : findAt (v :: r) x.1 = findAt r x.1 + 1 := by rw [findAt, if_neg hc]
      have hn' : hasAt r x.1 = false := by rw [hasAt, if_neg hc] at hn; exact hn
      obtain ⟨g1, g2, g3⟩ := ih h3 (by omega) hn'
      rw [e, List.take_succ_cons, List.drop_succ_cons, List.cons_append]
      refine ⟨(goodFrom_cons _ _ _).2 ⟨h1, h2, g1⟩, ?_, ?_⟩
      · rw [findAt, if_neg hc, g2]
      · rw [hasAt, if_neg hc, g3]

theorem add_undo {vs : List Vl} {id n : Int} (h : addE vs id n = 0) : rightB vs = true ∧ rightB (addV vs id n) = true ∧ (addV vs id n).length = vs.length + 1 ∧ dropE (addV vs id n) id = 0 ∧ dropV (addV vs id n) id = vs := by
  have hh := h
  unfold addE at hh
  by_cases h1 : rightB vs = true ∧ shapeB id n = true
  · rw [if_pos h1] at hh
    by_cases h2 : hasAt vs id = true
    · rw [if_pos h2] at hh; exact absurd hh (by decide)
    · rw [if_neg h2] at hh
      by_cases h3 : vs.length = 4
      · rw [if_pos h3] at hh; exact absurd hh (by decide)
      · have h2' : hasAt vs id = false := by simpa using h2
        have hs := (shapeB_iff _ _).1 h1.2
        obtain ⟨r1, r2⟩ := (rightB_iff _).1 h1.1
        have hv : addV vs id n = vs.take (findAt vs id) ++ (id, blankB n.toNat) :: vs.drop (findAt vs id) := by unfold addV; rw [if_pos h]
        have hok : volOk (id, blankB n.toNat) = true := blank_ok id n.toNat (by rw [Int.toNat_of_nonneg (by omega)]; exact h1.2)
        obtain ⟨g1, g2, g3⟩ := good_insert (x := (id, blankB n.toNat)) r2 hok (by show 0 < id; omega) h2'
        have hle := findAt_le vs id
        have hlen : (addV vs id n).length = vs.length + 1 := by rw [hv]; simp; omega
        have hr : rightB (addV vs id n) = true := (rightB_iff _).2 ⟨by omega, by rw [hv]; exact g1⟩
        have hd : dropE (addV vs id n) id = 0 := by unfold dropE; rw [if_pos hr, if_pos (by rw [hv]; exact g3)]
        refine ⟨h1.1, hr, hlen, hd, ?_⟩
        unfold dropV
        rw [if_pos hd, hv]
        simp only at g2
        rw [g2, List.take_append_of_le_length (by rw [List.length_take]; omega), List.take_take, Nat.min_self, List.drop_append, List.length_take,
          List.drop_of_length_le (by rw [List.length_take]; omega), show findAt vs id + 1 - min (findAt vs id) vs.length = 1 from by omega]
        simp
  · rw [if_neg h1] at hh; exact absurd hh (by decide)

theorem findAt_ids {a b : List Vl} (h : a.map Prod.fst = b.map Prod.fst) (id : Int) : findAt a id = findAt b id ∧ hasAt a id = hasAt b id := by
  induction a generalizing b with
  | nil => cases b with
    | nil => exact ⟨rfl, rfl⟩
    | cons u r => simp at h
  | cons v a ih =>
    cases b with
    | nil => simp at h
    | cons u r =>
      simp only [List.map_cons, List.cons.injEq] at h
      have := ih h.2
      rw [findAt, findAt, hasAt, hasAt, h.1, this.1, this.2]
      exact ⟨rfl, rfl⟩
theorem findAt_here {vs : List Vl} {last : Int} (h : goodFrom last vs = true) {k : Nat} (hk : k < vs.length) : findAt vs vs[k].1 = k ∧ hasAt vs vs[k].1 = true := by
  induction vs generalizing last k with
  | nil => simp at hk
  | cons v r ih =>
    obtain ⟨h1, h2, h3⟩ := (goodFrom_cons _ _ _).1 h
    cases k with
    | zero =>
      simp only [List.getElem_cons_zero]
      exact ⟨by rw [findAt, if_pos (Int.le_refl _)], by rw [hasAt, if_pos (Int.le_refl _)]; simp⟩
    | succ k =>
      have hk' : k < r.length := by simpa using hk
      have hlt := goodFrom_lt h3 _ (List.getElem_mem hk')
      simp only [List.getElem_cons_succ]
      rw [findAt, if_neg (by omega), hasAt, if_neg (by omega)]
      have := ih h3 hk'
      exact ⟨by rw [this.1], this.2⟩
theorem good_set {vs : List Vl} {last : Int} (h : goodFrom last vs = true) {k : Nat} (hk : k < vs.length) {bs : List ByteArray} (hb : volOk (vs[k].1, bs) = true) : goodFrom last (vs.set k (vs[k].1, bs)) = true := by
  induction vs generalizing last k with
  | nil => simp at hk
  | cons v r ih =>
    obtain ⟨h1, h2, h3⟩ := (goodFrom_cons _ _ _).1 h
    cases k with
    | zero =>
      simp only [List.getElem_cons_zero] at hb
      simp only [List.getElem_cons_zero, List.set_cons_zero]
      exact (goodFrom_cons _ _ _).2 ⟨h1, hb, h3⟩
    | succ k =>
      have hk' : k < r.length := by simpa using hk
      simp only [List.getElem_cons_succ] at hb
      simp only [List.getElem_cons_succ, List.set_cons_succ]
      exact (goodFrom_cons _ _ _).2 ⟨h1, h2, ih h3 hk' hb⟩

theorem resized_len (bs : List ByteArray) (m : Nat) : (resized bs m).length = m := by
  unfold resized
  rw [List.length_append, List.length_take, blank_len]
  omega
theorem resized_short {bs : List ByteArray} {m : Nat} (h : ∀ s ∈ bs, s.size ≤ 8) : ∀ s ∈ resized bs m, s.size ≤ 8 := by
  intro s hs
  unfold resized at hs
  rcases List.mem_append.1 hs with hs | hs
  · exact h s (List.mem_of_mem_take hs)
  · rw [blankB] at hs; rw [List.eq_of_mem_replicate hs]; decide
theorem resized_back {bs : List ByteArray} {m : Nat} (h : bs.length ≤ m) : resized (resized bs m) bs.length = bs := by
  have e : resized bs m = bs ++ blankB (m - bs.length) := by unfold resized; rw [List.take_of_length_le h]
  unfold resized at *
  rw [e]
  simp [blankB]

theorem resV_at {vs : List Vl} {id n : Int} (h : resE vs id n = 0) : resV vs id n = vs.set (findAt vs id) (id, resized (vs.getD (findAt vs id) (0, [])).2 n.toNat) := by unfold resV; rw [if_pos h]

/-- What Resize tells where it is done. -/
theorem res_ok {vs : List Vl} {id n : Int} (h : resE vs id n = 0) : rightB vs = true ∧ 1 ≤ n ∧ n ≤ 32 ∧ ∃ hk : findAt vs id < vs.length, (vs[findAt vs id]'hk).1 = id ∧ resV vs id n = vs.set (findAt vs id) (id, resized (vs[findAt vs id]'hk).2 n.toNat) ∧ rightB (resV vs id n) = true := by
  have hh := h
  unfold resE at hh
  by_cases h1 : rightB vs = true ∧ sizeB n = true
  · rw [if_pos h1] at hh
    by_cases h2 : hasAt vs id = true
    · have hk := hasAt_lt h2
      have hid := hasAt_id h2
      have hn : 1 ≤ n ∧ n ≤ 32 := by simpa [sizeB] using h1.2
      obtain ⟨r1, r2⟩ := (rightB_iff _).1 h1.1
      have hv : resV vs id n = vs.set (findAt vs id) (id, resized vs[findAt vs id].2 n.toNat) := by
        unfold resV; rw [if_pos h, List.getD_eq_getElem?_getD, List.getElem?_eq_getElem hk]; rfl
      have hok := (volOk_iff _).1 (goodFrom_ok r2 _ (List.getElem_mem hk))
      refine ⟨h1.1, hn.1, hn.2, hk, hid, hv, (rightB_iff _).2 ⟨by rw [hv]; simpa using r1, ?_⟩⟩
      rw [hv]
      have := good_set r2 hk (bs := resized vs[findAt vs id].2 n.toNat) ((volOk_iff _).2 ⟨by simp only [resized_len]; omega, resized_short hok.2⟩)
      rwa [hid] at this
    · rw [if_neg h2] at hh; exact absurd hh (by decide)
  · rw [if_neg h1] at hh; exact absurd hh (by decide)

theorem res_undo {vs : List Vl} {id n : Int} (h : resE vs id n = 0) {k : Nat} (hk : k < vs.length) (hid : vs[k].1 = id) (hn : (vs[k].2.length : Int) ≤ n) :
    resE (resV vs id n) id vs[k].2.length = 0 ∧ resV (resV vs id n) id vs[k].2.length = vs := by
  obtain ⟨hr, n1, n2, hf, _, hv, hr2⟩ := res_ok h
  have hgood := goodB hr
  have hfk : findAt vs id = k := by rw [← hid]; exact (findAt_here hgood hk).1
  have hok := (volOk_iff _).1 (goodFrom_ok hgood _ (List.getElem_mem hk))
  have hv' : resV vs id n = vs.set k (id, resized vs[k].2 n.toNat) := by rw [hv]; simp only [hfk]
  have hids : (resV vs id n).map Prod.fst = vs.map Prod.fst := by
    rw [hv']
    apply List.ext_getElem
    · simp
    · intro i h1 h2
      simp only [List.getElem_map, List.getElem_set]
      split
      · rename_i e; subst e; exact hid.symm
      · rfl
  have hf2 := findAt_ids hids id
  have hfk2 : findAt (resV vs id n) id = k := by rw [hf2.1, hfk]
  have hhas : hasAt (resV vs id n) id = true := by rw [hf2.2, ← hid]; exact (findAt_here hgood hk).2
  have he : resE (resV vs id n) id vs[k].2.length = 0 := by
    unfold resE
    rw [if_pos ⟨hr2, by simp [sizeB]; omega⟩, if_pos hhas]
  refine ⟨he, ?_⟩
  have hkl : k < (resV vs id n).length := by rw [hv']; simpa using hk
  have hat : (resV vs id n)[k]'hkl = (id, resized vs[k].2 n.toNat) := by simp only [hv', List.getElem_set_self]
  have hgd : (resV vs id n).getD k (0, []) = (id, resized vs[k].2 n.toNat) := by rw [List.getD_eq_getElem?_getD, List.getElem?_eq_getElem hkl, hat]; rfl
  have e1 : resV (resV vs id n) id vs[k].2.length = (resV vs id n).set k (id, vs[k].2) := by
    rw [resV_at he, hfk2, hgd, Int.toNat_natCast, resized_back (by omega)]
  rw [e1, hv', List.set_set]
  apply List.ext_getElem
  · simp
  · intro i h1 h2
    rw [List.getElem_set]
    split
    · rename_i e; subst e; rw [← hid]
    · rfl
end Go.Proofs.Ytphmemopabgaeaa
