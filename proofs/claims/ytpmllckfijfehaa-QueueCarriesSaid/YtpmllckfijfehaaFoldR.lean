/- The document's Fold, plain: the least block that is still greater than the last one, again and again; whether a list is folded. -/
import Derived.Test.YtpmllckfijfehaaFoldP
namespace Go.Proofs.Ytpmllckfijfehaa

/-- Still to come: greater than the last one. -/
def candB (out : List Wr) (y : Wr) : Bool := match out.getLast? with
  | none => true
  | some l => ltW l y
theorem candB_nil (y : Wr) : candB [] y = true := rfl
theorem candB_last {out : List Wr} {l : Wr} (h : out.getLast? = some l) (y : Wr) : candB out y = ltW l y := by unfold candB; rw [h]
theorem candB_snoc (out : List Wr) (z y : Wr) : candB (out ++ [z]) y = ltW z y := by unfold candB; rw [List.getLast?_append]; rfl

/-- The best of the first i: -1 where none is still to come. -/
structure BestAt (ws out : List Wr) (i : Nat) (best : Int) : Prop where
  none_ : best < 0 → ∀ t, (h : t < ws.length) → t < i → candB out ws[t] = false
  some_ : 0 ≤ best → ∃ (b : Nat) (hb : b < ws.length), best = (b : Int) ∧ b < i ∧ candB out ws[b] = true ∧ ∀ t, (h : t < ws.length) → t < i → candB out ws[t] = true → ltW ws[t] ws[b] = false ∧ (b < t → ltW ws[b] ws[t] = true)
theorem best_start (ws out : List Wr) : BestAt ws out 0 (-1) := ⟨fun _ t _ h => by omega, fun h => by omega⟩
theorem best_skip {ws out : List Wr} {i : Nat} {best : Int} (h : BestAt ws out i best) (hi : i < ws.length) (hc : candB out ws[i] = false) : BestAt ws out (i + 1) best := by
  refine ⟨fun hb t ht h1 => ?_, fun hb => ?_⟩
  · by_cases e : t = i
    · subst e; exact hc
    · exact h.none_ hb t ht (by omega)
  · obtain ⟨b, hb1, e1, e2, e3, e4⟩ := h.some_ hb
    refine ⟨b, hb1, e1, by omega, e3, fun t ht h1 h2 => ?_⟩
    by_cases e : t = i
    · subst e; rw [hc] at h2; cases h2
    · exact e4 t ht (by omega) h2
theorem best_take {ws out : List Wr} {i : Nat} {best : Int} (h : BestAt ws out i best) (hi : i < ws.length) (hc : candB out ws[i] = true) (hl : ∀ (b : Nat) (hb : b < ws.length), best = (b : Int) → ltW ws[b] ws[i] = false) : BestAt ws out (i + 1) (i : Int) := by
  refine ⟨fun hb => by omega, fun _ => ⟨i, hi, rfl, by omega, hc, fun t ht h1 h2 => ?_⟩⟩
  by_cases e : t = i
  · subst e; exact ⟨ltW_irr _, fun h => by omega⟩
  · refine ⟨?_, fun h => by omega⟩
    by_cases hb : best < 0
    · have := h.none_ hb t ht (by omega); rw [this] at h2; cases h2
    · obtain ⟨b, hb1, e1, e2, e3, e4⟩ := h.some_ (by omega)
      have g1 := (e4 t ht (by omega) h2).1
      have g2 := hl b hb1 e1
      rw [ltW_not] at *; omega
theorem best_keep {ws out : List Wr} {i b : Nat} (h : BestAt ws out i (b : Int)) (hi : i < ws.length) (hb : b < ws.length) (hl : ltW ws[b] ws[i] = true) : BestAt ws out (i + 1) (b : Int) := by
  refine ⟨fun h => by omega, fun _ => ?_⟩
  obtain ⟨b', hb1, e1, e2, e3, e4⟩ := h.some_ (by omega)
  obtain rfl : b' = b := by omega
  refine ⟨b', hb1, e1, by omega, e3, fun t ht h1 h2 => ?_⟩
  by_cases e : t = i
  · subst e
    refine ⟨?_, fun _ => hl⟩
    rw [ltW_iff] at hl
    rw [ltW_not]; omega
  · exact e4 t ht (by omega) h2

/-- What has been put out so far. -/
structure OutAt (ws out : List Wr) : Prop where
  sorted : sortedW out
  last : ∀ x ∈ out, lastF ws x.vol x.block = some x.data
  rest : ∀ y ∈ ws, candB out y = true ∨ ∃ x ∈ out, x.vol = y.vol ∧ x.block = y.block
theorem out_start (ws : List Wr) : OutAt ws [] := ⟨trivial, by simp, fun _ _ => Or.inl rfl⟩
theorem out_end {ws out : List Wr} (h : OutAt ws out) (hn : ∀ t, (ht : t < ws.length) → candB out ws[t] = false) : out = foldW ws := by
  refine foldW_of h.sorted (fun v b => ?_)
  by_cases hx : ∃ x ∈ out, x.vol = v ∧ x.block = b
  · obtain ⟨x, hx1, rfl, rfl⟩ := hx
    rw [lastF_sorted h.sorted hx1, h.last x hx1]
  · rw [lastF_none (fun x hx1 hk => hx ⟨x, hx1, hk.1, hk.2⟩), lastF_none (fun y hy hk => ?_)]
    rcases h.rest y hy with e | ⟨x, hx1, e1, e2⟩
    · obtain ⟨t, ht, rfl⟩ := List.getElem_of_mem hy
      rw [hn t ht] at e; cases e
    · exact hx ⟨x, hx1, by omega, by omega⟩
theorem sortedW_snoc {l : List Wr} {z : Wr} (h : sortedW l) (hz : ∀ x ∈ l, ltW x z = true) : sortedW (l ++ [z]) := by
  induction l with
  | nil => exact ⟨by simp, trivial⟩
  | cons x r ih =>
    refine ⟨fun y hy => ?_, ih h.2 (fun y hy => hz y (List.mem_cons_of_mem _ hy))⟩
    rcases List.mem_append.1 hy with hy | hy
    · exact h.1 y hy
    · simp only [List.mem_singleton] at hy
      subst hy; exact hz x List.mem_cons_self
theorem sortedW_last {l : List Wr} (h : sortedW l) {z x : Wr} (hz : l.getLast? = some z) (hx : x ∈ l) : x = z ∨ ltW x z = true := by
  induction l with
  | nil => cases hx
  | cons a r ih =>
    cases r with
    | nil =>
      simp at hz hx
      exact Or.inl (by rw [hx, hz])
    | cons b r' =>
      rw [List.getLast?_cons_cons] at hz
      rcases List.mem_cons.1 hx with e | e
      · subst e
        exact Or.inr (h.1 z (List.mem_of_getLast? hz))
      · exact ih h.2 hz e
theorem lastF_at {l : List Wr} {b : Nat} (hb : b < l.length) (h : ∀ t, (ht : t < l.length) → b < t → ¬ (l[t].vol = l[b].vol ∧ l[t].block = l[b].block)) : lastF l l[b].vol l[b].block = some l[b].data := by
  induction l generalizing b with
  | nil => simp at hb
  | cons x r ih =>
    rw [lastF]
    cases b with
    | zero =>
      simp only [List.getElem_cons_zero] at h ⊢
      rw [lastF_none (fun y hy hk => by
        obtain ⟨t, ht, rfl⟩ := List.getElem_of_mem hy
        exact h (t + 1) (by simpa using ht) (by omega) (by simpa using hk))]
      simp
    | succ b =>
      simp only [List.getElem_cons_succ] at h ⊢
      rw [ih (b := b) (by simpa using hb) (fun t ht hlt => by
        have := h (t + 1) (by simpa using ht) (by omega)
        simpa using this)]
theorem out_step {ws out : List Wr} {b : Nat} (h : OutAt ws out) (hB : BestAt ws out ws.length (b : Int)) (hb : b < ws.length) : OutAt ws (out ++ [ws[b]]) := by
  obtain ⟨b', hb1, e1, e2, e3, e4⟩ := hB.some_ (by omega)
  obtain rfl : b' = b := by omega
  refine ⟨sortedW_snoc h.sorted (fun x hx => ?_), fun x hx => ?_, fun y hy => ?_⟩
  · cases hl : out.getLast? with
    | none => rw [List.getLast?_eq_none_iff] at hl; rw [hl] at hx; cases hx
    | some l =>
      rw [candB_last hl] at e3
      rcases sortedW_last h.sorted hl hx with e | e
      · rw [e]; exact e3
      · exact ltW_trans e e3
  · rcases List.mem_append.1 hx with hx | hx
    · exact h.last x hx
    · simp only [List.mem_singleton] at hx
      subst hx
      refine lastF_at hb (fun t ht hlt hk => ?_)
      have hc : candB out ws[t] = true := by
        cases hl : out.getLast? with
        | none => unfold candB; rw [hl]
        | some l =>
          rw [candB_last hl] at e3 ⊢
          rw [ltW_iff] at e3 ⊢; omega
      have := (e4 t ht ht hc).2 hlt
      rw [ltW_iff] at this; omega
  · rw [candB_snoc]
    rcases h.rest y hy with e | ⟨x, hx1, g1, g2⟩
    · obtain ⟨t, ht, rfl⟩ := List.getElem_of_mem hy
      have g := (e4 t ht ht e).1
      by_cases c : ltW ws[b'] ws[t] = true
      · exact Or.inl c
      · refine Or.inr ⟨ws[b'], by simp, ?_⟩
        exact ltW_total (by simpa using c) g
    · exact Or.inr ⟨x, List.mem_append_left _ hx1, g1, g2⟩
/-- How many are still to come. -/
def leftB (ws out : List Wr) : Nat := (ws.filter (candB out)).length
theorem left_less {ws out : List Wr} {b : Nat} (hb : b < ws.length) (hc : candB out ws[b] = true) : leftB ws (out ++ [ws[b]]) < leftB ws out := by
  unfold leftB
  have e : ws.filter (candB (out ++ [ws[b]])) = (ws.filter (candB out)).filter (candB (out ++ [ws[b]])) := by
    rw [List.filter_filter]
    congr 1
    funext y
    cases hy : candB (out ++ [ws[b]]) y with
    | false => rfl
    | true =>
      rw [candB_snoc] at hy
      rw [Bool.true_and]
      cases hl : out.getLast? with
      | none => unfold candB; rw [hl]
      | some l => rw [candB_last hl] at hc ⊢; exact (ltW_trans hc hy).symm
  rw [e]
  rw [List.length_filter_lt_length_iff_exists]
  exact ⟨ws[b], List.mem_filter.2 ⟨List.getElem_mem hb, hc⟩, by rw [candB_snoc, ltW_irr]; simp⟩
theorem left_len (ws out : List Wr) : leftB ws out ≤ ws.length := List.length_filter_le _ _

/-! ### Folded -/

theorem sorted_at {l : List Wr} (h : sortedW l) {i : Nat} (hi : i + 1 < l.length) : ltW l[i] l[i + 1] = true := by
  induction l generalizing i with
  | nil => simp at hi
  | cons x r ih =>
    cases i with
    | zero => exact h.1 _ (List.getElem_mem (by simpa using hi))
    | succ i => simpa using ih h.2 (i := i) (by simpa using hi)
theorem sorted_of {l : List Wr} (h : ∀ i, (hi : i + 1 < l.length) → ltW l[i] l[i + 1] = true) : sortedW l := by
  induction l with
  | nil => trivial
  | cons x r ih =>
    have hr : sortedW r := ih (fun i hi => h (i + 1) (by simpa using hi))
    refine ⟨fun y hy => ?_, hr⟩
    cases r with
    | nil => cases hy
    | cons z r' =>
      have h0 : ltW x z = true := by simpa using h 0 (by simp)
      rcases List.mem_cons.1 hy with e | e
      · rw [e]; exact h0
      · exact ltW_trans h0 (hr.1 y e)
theorem not_fold {l : List Wr} {i : Nat} (hi : i + 1 < l.length) (h : ltW l[i] l[i + 1] = false) : l ≠ foldW l := fun e => by
  have hs : sortedW l := by rw [e]; exact foldW_sorted l
  rw [sorted_at hs hi] at h; cases h
end Go.Proofs.Ytpmllckfijfehaa
