/- Writes on volumes, plain: what stays when they are done. No program in sight. -/
import Derived.Test.YtpmllckfijfehaaVolP
namespace Go.Proofs.Ytpmllckfijfehaa

/-- The ID of each volume, and how many blocks it has. -/
def shapes (vs : List Vl) : List (Int × Nat) := vs.map (fun v => (v.1, v.2.length))

theorem shapes_put1 (vs : List Vl) (x : Wr) : shapes (put1 vs x) = shapes vs := by
  unfold shapes put1
  apply List.ext_getElem
  · simp
  · intro i h1 h2
    simp only [List.getElem_map, List.getElem_modify]
    split <;> simp
theorem shapes_foldl (ws : List Wr) (vs : List Vl) : shapes (ws.foldl put1 vs) = shapes vs := by
  induction ws generalizing vs with
  | nil => rfl
  | cons x ws ih => rw [List.foldl_cons, ih, shapes_put1]
theorem shapes_length {a b : List Vl} (h : shapes a = shapes b) : a.length = b.length := by
  have := congrArg List.length h
  simpa [shapes] using this
theorem shapes_cons (v : Vl) (r : List Vl) : shapes (v :: r) = (v.1, v.2.length) :: shapes r := rfl

theorem findAt_shapes {a b : List Vl} (h : shapes a = shapes b) (id : Int) : findAt a id = findAt b id ∧ hasAt a id = hasAt b id := by
  induction a generalizing b with
  | nil => cases b with
    | nil => exact ⟨rfl, rfl⟩
    | cons u r => simp [shapes] at h
  | cons v a ih =>
    cases b with
    | nil => simp [shapes] at h
    | cons u r =>
      rw [shapes_cons, shapes_cons] at h
      simp only [List.cons.injEq, Prod.mk.injEq] at h
      obtain ⟨⟨h1, h2⟩, h3⟩ := h
      have := ih h3
      rw [findAt, findAt, hasAt, hasAt, h1, this.1, this.2]
      exact ⟨rfl, rfl⟩
theorem gotE_shapes {a b : List Vl} (h : shapes a = shapes b) (vol block : Int) : gotE a vol block = gotE b vol block := by
  induction a generalizing b with
  | nil => cases b with
    | nil => rfl
    | cons u r => simp [shapes] at h
  | cons v a ih =>
    cases b with
    | nil => simp [shapes] at h
    | cons u r =>
      rw [shapes_cons, shapes_cons] at h
      simp only [List.cons.injEq, Prod.mk.injEq] at h
      obtain ⟨⟨h1, h2⟩, h3⟩ := h
      rw [gotE, gotE, ih h3, h1]
      unfold inB
      rw [h2]
theorem chk_shapes {a b : List Vl} (h : shapes a = shapes b) (ws : List Wr) : chk a ws = chk b ws := by
  induction ws with
  | nil => rfl
  | cons x ws ih => rw [chk, chk, ih, gotE_shapes h]

theorem chk_append (vs : List Vl) (a b : List Wr) : chk vs (a ++ b) = if chk vs a = 0 then chk vs b else chk vs a := by
  induction a with
  | nil => simp [chk]
  | cons x a ih =>
    rw [List.cons_append, chk, chk, ih]
    by_cases h1 : gotE vs x.vol x.block = 0
    · rw [if_pos h1, if_pos h1]
      by_cases h2 : shortB x.data = true
      · rw [if_pos h2, if_pos h2]
      · rw [if_neg h2, if_neg h2]; simp
    · rw [if_neg h1, if_neg h1, if_neg h1]
theorem chk_take {vs : List Vl} {ws : List Wr} {k : Nat} (h : chk vs ws = 0) (hk : k < ws.length) : gotE vs ws[k].vol ws[k].block = 0 ∧ shortB ws[k].data = true := by
  induction ws generalizing k with
  | nil => simp at hk
  | cons x ws ih =>
    rw [chk] at h
    by_cases h1 : gotE vs x.vol x.block = 0
    · rw [if_pos h1] at h
      by_cases h2 : shortB x.data = true
      · rw [if_pos h2] at h
        cases k with
        | zero => exact ⟨h1, h2⟩
        | succ k => exact ih h (by simpa using hk)
      · rw [if_neg h2] at h; exact absurd h (by decide)
    · rw [if_neg h1] at h; exact absurd h h1

/-- Writes that are done leave right volumes right. -/
theorem good_put1 {vs : List Vl} {last : Int} (h : goodFrom last vs = true) (x : Wr) (hx : shortB x.data = true) : goodFrom last (put1 vs x) = true := by
  have key : ∀ (vs : List Vl) (last : Int) (i : Nat), goodFrom last vs = true → goodFrom last (vs.modify i (fun v => (v.1, v.2.set x.block.toNat x.data))) = true := by
    intro vs
    induction vs with
    | nil => intro last i _; cases i <;> rfl
    | cons v r ih =>
      intro last i h
      obtain ⟨h1, h2, h3⟩ := (goodFrom_cons _ _ _).1 h
      cases i with
      | zero =>
        rw [List.modify_zero_cons]
        refine (goodFrom_cons _ _ _).2 ⟨h1, ?_, h3⟩
        obtain ⟨g1, g2⟩ := (volOk_iff _).1 h2
        refine (volOk_iff _).2 ⟨by simpa using g1, fun s hs => ?_⟩
        rcases List.mem_or_eq_of_mem_set hs with hs | rfl
        · exact g2 s hs
        · simpa [shortB] using hx
      | succ i =>
        rw [List.modify_succ_cons]
        exact (goodFrom_cons _ _ _).2 ⟨h1, h2, ih v.1 i h3⟩
  exact key vs last _ h
theorem good_foldl {ws : List Wr} {vs : List Vl} {last : Int} (h : goodFrom last vs = true) (hx : ∀ x ∈ ws, shortB x.data = true) : goodFrom last (ws.foldl put1 vs) = true := by
  induction ws generalizing vs with
  | nil => exact h
  | cons x ws ih => exact ih (good_put1 h x (hx x List.mem_cons_self)) (fun y hy => hx y (List.mem_cons_of_mem _ hy))
theorem chk_short {vs : List Vl} {ws : List Wr} (h : chk vs ws = 0) : ∀ x ∈ ws, shortB x.data = true := by
  intro x hx
  obtain ⟨i, hi, rfl⟩ := List.getElem_of_mem hx
  exact (chk_take h hi).2
theorem right_apply {vs : List Vl} {ws : List Wr} (h : checkE vs ws = 0) : rightB vs = true ∧ chk vs ws = 0 ∧ rightB (ws.foldl put1 vs) = true := by
  unfold checkE at h
  by_cases hr : rightB vs = true
  · rw [if_pos hr] at h
    obtain ⟨h1, h2⟩ := (rightB_iff vs).1 hr
    exact ⟨hr, h, (rightB_iff _).2 ⟨by rw [shapes_length (shapes_foldl ws vs)]; exact h1, good_foldl h2 (chk_short h)⟩⟩
  · rw [if_neg hr] at h; exact absurd h (by decide)
theorem checkE_right {vs : List Vl} (h : rightB vs = true) (ws : List Wr) : checkE vs ws = chk vs ws := by unfold checkE; rw [if_pos h]
theorem applyV_ok {vs : List Vl} {ws : List Wr} (h : checkE vs ws = 0) : applyV vs ws = ws.foldl put1 vs := by unfold applyV; rw [if_pos h]
theorem applyV_no {vs : List Vl} {ws : List Wr} (h : checkE vs ws ≠ 0) : applyV vs ws = [] := by unfold applyV; rw [if_neg h]
end Go.Proofs.Ytpmllckfijfehaa
