/- Writes in order, plain: the last one of each block out of a list in which equals keep their order ('lasts'). -/
import Derived.Test.YtpmllckfijfehaaFoldC
namespace Go.Proofs.Ytpmllckfijfehaa
open Go.Shelf Go.RowKit Go.Lib Go.Sort

/-- Of writes next to one another to one block the last. -/
def lastHere (x : Wr) : List Wr → Bool
  | [] => true
  | y :: _ => decide (cmpW x y ≠ 0)
def lasts : List Wr → List Wr
  | [] => []
  | x :: r => if lastHere x r = true then x :: lasts r else lasts r
theorem lasts_mem {l : List Wr} {y : Wr} (h : y ∈ lasts l) : y ∈ l := by
  induction l with
  | nil => exact h
  | cons x r ih =>
    rw [lasts] at h
    split at h
    · rcases List.mem_cons.1 h with h | h
      · rw [h]; exact List.mem_cons_self
      · exact List.mem_cons_of_mem _ (ih h)
    · exact List.mem_cons_of_mem _ (ih h)
theorem lasts_sorted {l : List Wr} (h : l.Pairwise (fun x y => ltW y x = false)) : sortedW (lasts l) := by
  induction l with
  | nil => trivial
  | cons x r ih =>
    rw [List.pairwise_cons] at h
    rw [lasts]
    split
    · rename_i hk
      refine ⟨fun y hy => ?_, ih h.2⟩
      have hy2 := lasts_mem hy
      cases r with
      | nil => cases hy2
      | cons z r' =>
        simp only [lastHere, decide_eq_true_eq] at hk
        have h1 := h.1 z List.mem_cons_self
        rw [Ne, cmpW_zero] at hk
        rw [ltW_not] at h1
        rcases List.mem_cons.1 hy2 with e | e
        · rw [e, ltW_iff]; omega
        · have h2 := (List.pairwise_cons.1 h.2).1 y e
          rw [ltW_not] at h2
          rw [ltW_iff]; omega
    · exact ih h.2
theorem lasts_last (l : List Wr) (v b : Int) : lastF (lasts l) v b = lastF l v b := by
  induction l with
  | nil => rfl
  | cons x r ih =>
    rw [lasts]
    split
    · rw [lastF, lastF, ih]
    · rename_i hk
      rw [ih, lastF]
      cases r with
      | nil => simp [lastHere] at hk
      | cons z r' =>
        simp only [lastHere, decide_eq_true_eq, ne_eq, Decidable.not_not] at hk
        obtain ⟨e1, e2⟩ := (cmpW_zero x z).1 hk
        by_cases c : x.vol = v ∧ x.block = b
        · have := lastF_isSome (List.mem_cons_self (a := z) (l := r'))
          rw [← e1, ← e2, c.1, c.2] at this
          cases hq : lastF (z :: r') v b with
          | some d => rfl
          | none => rw [hq] at this; cases this
        · cases hq : lastF (z :: r') v b with
          | some d => rfl
          | none => simp only; rw [if_neg c]
theorem lasts_fold {l ws : List Wr} (h : l.Pairwise (fun x y => ltW y x = false)) (hl : ∀ v b, lastF l v b = lastF ws v b) : lasts l = foldW ws :=
  foldW_of (lasts_sorted h) (fun v b => by rw [lasts_last]; exact hl v b)
theorem lasts_drop {l : List Wr} {k : Nat} (hk : k < l.length) : lasts (l.drop k) = if lastHere l[k] (l.drop (k + 1)) = true then l[k] :: lasts (l.drop (k + 1)) else lasts (l.drop (k + 1)) := by
  rw [List.drop_eq_getElem_cons hk, lasts]

/-- The last write to a block is told by the writes to that block alone. -/
theorem lastF_filter {p : Wr → Bool} {v b : Int} (hp : ∀ y, p y = true ↔ y.vol = v ∧ y.block = b) (l : List Wr) : lastF (l.filter p) v b = lastF l v b := by
  induction l with
  | nil => rfl
  | cons x r ih =>
    rw [List.filter_cons]
    split
    · rw [lastF, lastF, ih]
    · rename_i hx
      rw [ih, lastF]
      have : ¬ (x.vol = v ∧ x.block = b) := fun h => hx ((hp x).2 h)
      cases lastF r v b with
      | some d => rfl
      | none => simp only; rw [if_neg this]
theorem cutF_list {d : Array Wr} : cutF (getF d) 0 d.size = d.toList := by
  apply List.ext_getElem
  · simp [cutF]
  · intro i h1 h2
    have h3 : i < d.size := by simpa [cutF] using h1
    simp only [cutF, List.getElem_map, List.getElem_range', getF, Nat.one_mul, Nat.zero_add]
    rw [getElem!_pos d i h3]; simp
theorem stb_last {d d' : Array Wr} (hs : d'.size = d.size) (h : Stb (ltOf cmpW) d.size (getF d) (getF d')) (v b : Int) : lastF d'.toList v b = lastF d.toList v b := by
  have h1 := h ⟨v, b, ByteArray.empty⟩
  rw [cutF_list, ← hs, cutF_list] at h1
  have hp : ∀ y : Wr, (!ltOf cmpW ⟨v, b, ByteArray.empty⟩ y && !ltOf cmpW y ⟨v, b, ByteArray.empty⟩) = true ↔ y.vol = v ∧ y.block = b := fun y => by
    rw [ltOf_cmpW, ltOf_cmpW, Bool.and_eq_true, Bool.not_eq_true', Bool.not_eq_true', ltW_not, ltW_not]
    simp only
    omega
  rw [← lastF_filter hp d'.toList, h1, lastF_filter hp]
theorem pairwise_of {d : Array Wr} (h : sortF (ltOf cmpW) (getF d) 0 d.size) : d.toList.Pairwise (fun x y => ltW y x = false) := by
  rw [List.pairwise_iff_getElem]
  intro i j hi hj hij
  have h1 := h i j (Nat.zero_le _) hij (by simpa using hj)
  rw [ltOf_cmpW] at h1
  simp only [getF] at h1
  rw [getElem!_pos d i (by simpa using hi), getElem!_pos d j (by simpa using hj)] at h1
  simpa using h1

/-! ### Rows of writes in memory -/

theorem holds_of_own {w : World} {base g n c : Nat} {t : TypeId} {ws : List Wr} (h : w.ownsRow base t 3 (.slice (some ⟨g, 0, none⟩) n c) n (wrCells ws)) : HoldsK encW 3 w g 0 ws.toArray := by
  have hn : ws.length = n := by have := h.1; rw [wrCells_length] at this; omega
  intro j hj
  rw [size_flatK] at hj
  simp only [List.size_toArray] at hj
  refine ⟨?_, by rw [Nat.zero_add]; exact h.frozenAt j⟩
  rw [Nat.zero_add, h.cellAt j (by omega), get_flatK _ _ _ _ (by simpa using hj)]
  have hk : j / 3 < ws.length := by omega
  obtain ⟨a1, a2, a3⟩ := wrCells_at hk
  have e : ws.toArray[j / 3]! = ws[j / 3] := by rw [getElem!_pos _ _ (by simpa using hk)]; simp
  rw [e]
  rcases (by omega : j % 3 = 0 ∨ j % 3 = 1 ∨ j % 3 = 2) with e3 | e3 | e3
  · rw [e3]; have : j = j / 3 * 3 := by omega
    conv => lhs; rw [this]
    rw [a1]; rfl
  · rw [e3]; have : j = j / 3 * 3 + 1 := by omega
    conv => lhs; rw [this]
    rw [a2]; rfl
  · rw [e3]; have : j = j / 3 * 3 + 2 := by omega
    conv => lhs; rw [this]
    rw [a3]; rfl
theorem wrs_of_holds {w : World} {g : Nat} {d : Array Wr} (h : HoldsK encW 3 w g 0 d) (hg : g < w.heap.size) : WrsAt w w.heap.size (some ⟨g, 0, none⟩) d.toList := by
  refine .inr ⟨g, 0, rfl, hg, fun i hi => ?_⟩
  have hi2 : i < d.size := by simpa using hi
  have e : d[i]! = d.toList[i] := by rw [getElem!_pos d i hi2]; simp
  have h0 := (h.cell hi2 (c := 0) (by omega)).1
  have h1 := (h.cell hi2 (c := 1) (by omega)).1
  have h2 := (h.cell hi2 (c := 2) (by omega)).1
  rw [e] at h0 h1 h2
  exact ⟨h0, h1, h2⟩
theorem swk_below {α : Type} [Inhabited α] {enc : α → List Value} {k : Nat} {w w' : World} {g off B : Nat} {d : Array α} (h : SWK enc k w g off d w') (hB : B ≤ g) (hB2 : B ≤ w.heap.size) : Below B w w' := by
  obtain ⟨n, os, rfl⟩ := h
  refine ⟨rfl, rfl, rfl, ?_, fun i hi => ?_⟩
  · unfold sortWorldK; rw [size_grow, size_putRowK]; exact Nat.le_add_right _ _
  · show ((putRowK enc k (Go.Sort.ahead w n) g off d).heap ++ os)[i]? = _
    rw [Array.getElem?_append_left (by rw [size_putRowK]; show i < w.heap.size; omega)]
    show (mapBlock (Go.Sort.ahead w n) g _).heap[i]? = _
    unfold mapBlock
    simp only
    rw [Array.getElem?_modify, if_neg (by omega)]
    rfl
end Go.Proofs.Ytpmllckfijfehaa
