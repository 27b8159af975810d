/- Folded writes, plain: what the document's Fold tells ('foldW'), and what follows from it. No program in sight. -/
import Derived.Test.YtpmllckfijfehaaVolW
namespace Go.Proofs.Ytpmllckfijfehaa

/-- By volume, then block. -/
def ltW (a b : Wr) : Bool := decide (a.vol < b.vol ∨ a.vol = b.vol ∧ a.block < b.block)
theorem ltW_iff (a b : Wr) : ltW a b = true ↔ a.vol < b.vol ∨ a.vol = b.vol ∧ a.block < b.block := by simp [ltW]
theorem ltW_not (a b : Wr) : ltW a b = false ↔ ¬ (a.vol < b.vol ∨ a.vol = b.vol ∧ a.block < b.block) := by simp [ltW]
def keyIs (x : Wr) (vol block : Int) : Prop := x.vol = vol ∧ x.block = block
instance (x : Wr) (vol block : Int) : Decidable (keyIs x vol block) := inferInstanceAs (Decidable (x.vol = vol ∧ x.block = block))
theorem ltW_trans {a b c : Wr} (h1 : ltW a b = true) (h2 : ltW b c = true) : ltW a c = true := by
  rw [ltW_iff] at *; omega
theorem ltW_irr (a : Wr) : ltW a a = false := by rw [ltW_not]; omega
theorem ltW_total {a b : Wr} (h1 : ltW a b = false) (h2 : ltW b a = false) : a.vol = b.vol ∧ a.block = b.block := by
  rw [ltW_not] at *; omega

/-- Strictly in order. -/
def sortedW : List Wr → Prop
  | [] => True
  | x :: r => (∀ y ∈ r, ltW x y = true) ∧ sortedW r

theorem wr_ext {a b : Wr} (h1 : a.vol = b.vol) (h2 : a.block = b.block) (h3 : a.data = b.data) : a = b := by
  cases a; cases b; simp_all

theorem lastF_none {l : List Wr} {vol block : Int} (h : ∀ x ∈ l, ¬ (x.vol = vol ∧ x.block = block)) : lastF l vol block = none := by
  induction l with
  | nil => rfl
  | cons x r ih => rw [lastF, ih (fun y hy => h y (List.mem_cons_of_mem _ hy))]; simp only; rw [if_neg (h x List.mem_cons_self)]
theorem lastF_isSome {l : List Wr} {x : Wr} (h : x ∈ l) : (lastF l x.vol x.block).isSome = true := by
  induction l with
  | nil => cases h
  | cons y r ih =>
    rw [lastF]
    rcases List.mem_cons.1 h with rfl | h
    · cases lastF r x.vol x.block with
      | some d => rfl
      | none => simp
    · have := ih h
      cases hq : lastF r x.vol x.block with
      | some d => rfl
      | none => rw [hq] at this; exact absurd this (by simp)
theorem lastF_mem {l : List Wr} {vol block : Int} {d : ByteArray} (h : lastF l vol block = some d) : ⟨vol, block, d⟩ ∈ l := by
  induction l with
  | nil => simp [lastF] at h
  | cons x r ih =>
    rw [lastF] at h
    cases hq : lastF r vol block with
    | some e =>
      rw [hq] at h
      simp only [Option.some.injEq] at h
      subst h
      exact List.mem_cons_of_mem _ (ih hq)
    | none =>
      rw [hq] at h
      simp only at h
      by_cases hk : x.vol = vol ∧ x.block = block
      · rw [if_pos hk] at h
        simp only [Option.some.injEq] at h
        obtain ⟨rfl, rfl⟩ := hk
        subst h
        exact List.mem_cons_self
      · rw [if_neg hk] at h; exact absurd h (by simp)
theorem lastF_sorted {l : List Wr} (h : sortedW l) {x : Wr} (hx : x ∈ l) : lastF l x.vol x.block = some x.data := by
  induction l with
  | nil => cases hx
  | cons y r ih =>
    obtain ⟨h1, h2⟩ := h
    rw [lastF]
    rcases List.mem_cons.1 hx with rfl | hx
    · rw [lastF_none (fun z hz hk => by have := (ltW_iff _ _).1 (h1 z hz); omega)]
      simp
    · rw [ih h2 hx]

/-- Two lists in order that tell the same are the same. -/
theorem sorted_ext {a b : List Wr} (ha : sortedW a) (hb : sortedW b) (h : ∀ vol block, lastF a vol block = lastF b vol block) : a = b := by
  induction a generalizing b with
  | nil =>
    cases b with
    | nil => rfl
    | cons y r =>
      have := lastF_sorted hb (List.mem_cons_self (a := y) (l := r))
      rw [← h] at this
      simp [lastF] at this
  | cons x r ih =>
    cases b with
    | nil =>
      have := lastF_sorted ha (List.mem_cons_self (a := x) (l := r))
      rw [h] at this
      simp [lastF] at this
    | cons y s =>
      have hx := lastF_sorted ha (List.mem_cons_self (a := x) (l := r))
      have hy := lastF_sorted hb (List.mem_cons_self (a := y) (l := s))
      have hxb : (⟨x.vol, x.block, x.data⟩ : Wr) ∈ y :: s := lastF_mem (by rw [← h]; exact hx)
      have hya : (⟨y.vol, y.block, y.data⟩ : Wr) ∈ x :: r := lastF_mem (by rw [h]; exact hy)
      have hxy : x = y := by
        rcases List.mem_cons.1 hxb with e | e
        · exact e
        · rcases List.mem_cons.1 hya with e2 | e2
          · exact e2.symm
          · have h1 := (ltW_iff _ _).1 (hb.1 _ e)
            have h2 := (ltW_iff _ _).1 (ha.1 _ e2)
            simp only at h1 h2
            omega
      subst hxy
      congr 1
      refine ih ha.2 hb.2 (fun vol block => ?_)
      have := h vol block
      by_cases hk : x.vol = vol ∧ x.block = block
      · obtain ⟨rfl, rfl⟩ := hk
        rw [lastF_none (fun z hz hk => by have := (ltW_iff _ _).1 (ha.1 z hz); omega), lastF_none (fun z hz hk => by have := (ltW_iff _ _).1 (hb.1 z hz); omega)]
      · rw [lastF, lastF] at this
        cases h1 : lastF r vol block with
        | some d1 =>
          rw [h1] at this
          cases h2 : lastF s vol block with
          | some d2 => rw [h2] at this; exact this
          | none => rw [h2] at this; simp only at this; rw [if_neg hk] at this; exact absurd this (by simp)
        | none =>
          rw [h1] at this
          cases h2 : lastF s vol block with
          | some d2 => rw [h2] at this; simp only at this; rw [if_neg hk] at this; exact absurd this (by simp)
          | none => rfl

/-- A write is laid where it belongs. -/
def insW (x : Wr) : List Wr → List Wr
  | [] => [x]
  | y :: r => if ltW x y = true then x :: y :: r else if ltW y x = true then y :: insW x r else x :: r
def foldW (ws : List Wr) : List Wr := ws.foldl (fun acc x => insW x acc) []

theorem insW_mem {x z : Wr} {l : List Wr} (h : z ∈ insW x l) : z = x ∨ z ∈ l := by
  induction l with
  | nil => simp [insW] at h; exact Or.inl h
  | cons y r ih =>
    rw [insW] at h
    by_cases h1 : ltW x y = true
    · rw [if_pos h1] at h
      rcases List.mem_cons.1 h with h | h
      · exact Or.inl h
      · exact Or.inr h
    · rw [if_neg h1] at h
      by_cases h2 : ltW y x = true
      · rw [if_pos h2] at h
        rcases List.mem_cons.1 h with rfl | h
        · exact Or.inr List.mem_cons_self
        · rcases ih h with h | h
          · exact Or.inl h
          · exact Or.inr (List.mem_cons_of_mem _ h)
      · rw [if_neg h2] at h
        rcases List.mem_cons.1 h with h | h
        · exact Or.inl h
        · exact Or.inr (List.mem_cons_of_mem _ h)
theorem insW_sorted {x : Wr} {l : List Wr} (h : sortedW l) : sortedW (insW x l) := by
  induction l with
  | nil => exact ⟨by simp, trivial⟩
  | cons y r ih =>
    rw [insW]
    by_cases h1 : ltW x y = true
    · rw [if_pos h1]
      refine ⟨fun z hz => ?_, h⟩
      rcases List.mem_cons.1 hz with rfl | hz
      · exact h1
      · exact ltW_trans h1 (h.1 z hz)
    · rw [if_neg h1]
      by_cases h2 : ltW y x = true
      · rw [if_pos h2]
        refine ⟨fun z hz => ?_, ih h.2⟩
        rcases insW_mem hz with rfl | hz
        · exact h2
        · exact h.1 z hz
      · rw [if_neg h2]
        refine ⟨fun z hz => ?_, h.2⟩
        have h3 := ltW_total (by simpa using h1) (by simpa using h2)
        have := (ltW_iff _ _).1 (h.1 z hz)
        rw [ltW_iff]; omega
theorem insW_last {x : Wr} {l : List Wr} (h : sortedW l) (vol block : Int) : lastF (insW x l) vol block = if x.vol = vol ∧ x.block = block then some x.data else lastF l vol block := by
  have hs := insW_sorted (x := x) h
  by_cases hk : x.vol = vol ∧ x.block = block
  · rw [if_pos hk]
    obtain ⟨rfl, rfl⟩ := hk
    have : x ∈ insW x l := by
      clear h hs
      induction l with
      | nil => simp [insW]
      | cons y r ih =>
        rw [insW]
        split
        · exact List.mem_cons_self
        · split
          · exact List.mem_cons_of_mem _ ih
          · exact List.mem_cons_self
    exact lastF_sorted hs this
  · rw [if_neg hk]
    clear hs
    induction l with
    | nil => simp only [insW, lastF]; rw [if_neg hk]
    | cons y r ih =>
      rw [insW]
      by_cases h1 : ltW x y = true
      · rw [if_pos h1, lastF]
        cases hq : lastF (y :: r) vol block with
        | some d => rfl
        | none => simp only; rw [if_neg hk]
      · rw [if_neg h1]
        by_cases h2 : ltW y x = true
        · rw [if_pos h2, lastF, lastF, ih h.2]
        · rw [if_neg h2, lastF, lastF]
          have h3 := ltW_total (by simpa using h1) (by simpa using h2)
          cases hq : lastF r vol block with
          | some d => rfl
          | none => simp only; rw [if_neg hk, if_neg (by omega)]

theorem foldW_snoc (ws : List Wr) (x : Wr) : foldW (ws ++ [x]) = insW x (foldW ws) := by unfold foldW; rw [List.foldl_append]; rfl
theorem snoc_ind {P : List Wr → Prop} (h0 : P []) (h1 : ∀ l x, P l → P (l ++ [x])) : ∀ l, P l := by
  intro l
  have : ∀ n (l : List Wr), l.length = n → P l := by
    intro n
    induction n with
    | zero => intro l hl; rw [List.eq_nil_of_length_eq_zero hl]; exact h0
    | succ n ih =>
      intro l hl
      have hne : l ≠ [] := by intro e; subst e; simp at hl
      rw [← List.dropLast_concat_getLast hne]
      exact h1 _ _ (ih _ (by rw [List.length_dropLast]; omega))
  exact this l.length l rfl
theorem foldW_sorted (ws : List Wr) : sortedW (foldW ws) := by
  refine snoc_ind (P := fun ws => sortedW (foldW ws)) trivial (fun l x h => ?_) ws
  show sortedW (foldW (l ++ [x])); rw [foldW_snoc]; exact insW_sorted h
theorem foldW_last (ws : List Wr) (vol block : Int) : lastF (foldW ws) vol block = lastF ws vol block := by
  refine snoc_ind (P := fun ws => lastF (foldW ws) vol block = lastF ws vol block) rfl (fun l x h => ?_) ws
  show lastF (foldW (l ++ [x])) vol block = _
  rw [foldW_snoc, insW_last (foldW_sorted l), lastF_snoc, h]
theorem foldW_of {l ws : List Wr} (h : sortedW l) (hl : ∀ vol block, lastF l vol block = lastF ws vol block) : l = foldW ws := sorted_ext h (foldW_sorted ws) (fun v b => by rw [hl, foldW_last])
theorem foldW_self {l : List Wr} (h : sortedW l) : foldW l = l := (foldW_of h (fun _ _ => rfl)).symm
theorem foldW_twice (ws : List Wr) : foldW (foldW ws) = foldW ws := foldW_self (foldW_sorted ws)
theorem foldW_mem {ws : List Wr} {x : Wr} (h : x ∈ foldW ws) : x ∈ ws := by
  have := lastF_sorted (foldW_sorted ws) h
  rw [foldW_last] at this
  exact lastF_mem this
theorem lastF_append (a b : List Wr) (vol block : Int) : lastF (a ++ b) vol block = match lastF b vol block with | some d => some d | none => lastF a vol block := by
  induction a with
  | nil => rw [List.nil_append]; cases lastF b vol block <;> rfl
  | cons x a ih =>
    rw [List.cons_append, lastF, ih, lastF]
    cases lastF b vol block <;> rfl
theorem foldW_merge (a b : List Wr) : foldW (foldW a ++ foldW b) = foldW (a ++ b) := by
  refine foldW_of (foldW_sorted _) (fun v k => ?_)
  rw [foldW_last, lastF_append, lastF_append, foldW_last, foldW_last]
theorem insW_len (x : Wr) (l : List Wr) : (insW x l).length ≤ l.length + 1 := by
  induction l with
  | nil => simp [insW]
  | cons y r ih =>
    rw [insW]
    split
    · simp
    · split
      · simp; omega
      · simp
theorem foldW_len (ws : List Wr) : (foldW ws).length ≤ ws.length := by
  refine snoc_ind (P := fun ws => (foldW ws).length ≤ ws.length) (Nat.le_refl _) (fun l x h => ?_) ws
  show (foldW (l ++ [x])).length ≤ _
  rw [foldW_snoc, List.length_append]
  have := insW_len x (foldW l)
  simp; omega

/-- What writes take. -/
def bytesW (ws : List Wr) : Nat := (ws.map (fun x => 8 + x.data.size)).sum
theorem bytesW_snoc (ws : List Wr) (x : Wr) : bytesW (ws ++ [x]) = bytesW ws + (8 + x.data.size) := by simp [bytesW]
theorem bytesW_cons (x : Wr) (ws : List Wr) : bytesW (x :: ws) = (8 + x.data.size) + bytesW ws := by simp [bytesW]
theorem insW_bytes (x : Wr) (l : List Wr) : bytesW (insW x l) ≤ bytesW l + (8 + x.data.size) := by
  induction l with
  | nil => simp [insW, bytesW]
  | cons y r ih =>
    rw [insW]
    split
    · rw [bytesW_cons, bytesW_cons]; omega
    · split
      · rw [bytesW_cons, bytesW_cons]; omega
      · rw [bytesW_cons, bytesW_cons]; omega
theorem foldW_bytes (ws : List Wr) : bytesW (foldW ws) ≤ bytesW ws := by
  refine snoc_ind (P := fun ws => bytesW (foldW ws) ≤ bytesW ws) (Nat.le_refl _) (fun l x h => ?_) ws
  show bytesW (foldW (l ++ [x])) ≤ _
  rw [foldW_snoc, bytesW_snoc]
  have := insW_bytes x (foldW l)
  omega

/-! ### Volumes behind folded writes -/

theorem chk_mem {vs : List Vl} {ws : List Wr} (h : chk vs ws = 0) {x : Wr} (hx : x ∈ ws) : gotE vs x.vol x.block = 0 ∧ shortB x.data = true := by
  obtain ⟨i, hi, rfl⟩ := List.getElem_of_mem hx
  exact chk_take h hi
theorem chk_of {vs : List Vl} {ws : List Wr} (h : ∀ x ∈ ws, gotE vs x.vol x.block = 0 ∧ shortB x.data = true) : chk vs ws = 0 := by
  induction ws with
  | nil => rfl
  | cons x r ih => rw [chk, if_pos (h x List.mem_cons_self).1, if_pos (h x List.mem_cons_self).2]; exact ih (fun y hy => h y (List.mem_cons_of_mem _ hy))
theorem refA_congr {vs : List Vl} {a b : List Wr} (h : ∀ vol block, lastF a vol block = lastF b vol block) : refA vs a = refA vs b := by
  unfold refA refB
  congr 1
  funext v
  congr 2
  funext k
  rw [h]
theorem fold_does {vs : List Vl} {ws : List Wr} (h : checkE vs ws = 0) : checkE vs (foldW ws) = 0 ∧ applyV vs (foldW ws) = applyV vs ws := by
  obtain ⟨hr, hc, _⟩ := right_apply h
  have hg : goodFrom 0 vs = true := ((rightB_iff vs).1 hr).2
  have hc2 : chk vs (foldW ws) = 0 := chk_of (fun x hx => chk_mem hc (foldW_mem hx))
  have h2 : checkE vs (foldW ws) = 0 := by rw [checkE_right hr]; exact hc2
  refine ⟨h2, ?_⟩
  rw [applyV_ok h, applyV_ok h2, refA_apply hg hc, refA_apply hg hc2]
  exact refA_congr (fun v b => foldW_last ws v b)

/-! ### What blocks hold, put back -/

/-- Marks: volume and block. -/
def marksW (ws : List Wr) : List (Int × Int) := (foldW ws).map (fun x => (x.vol, x.block))
/-- The error of the first mark that is none. -/
def pickE (vs : List Vl) : List (Int × Int) → Int
  | [] => 0
  | m :: r => if gotE vs m.1 m.2 = 0 then pickE vs r else gotE vs m.1 m.2
def pickL (vs : List Vl) (ms : List (Int × Int)) : List Wr := ms.map (fun m => ⟨m.1, m.2, gotS vs m.1 m.2⟩)
def pickEr (vs : List Vl) (ms : List (Int × Int)) : Int := if rightB vs = true then pickE vs ms else 1
def pickV (vs : List Vl) (ms : List (Int × Int)) : List Wr := if pickEr vs ms = 0 then pickL vs ms else []
theorem pickE_of {vs : List Vl} {ms : List (Int × Int)} (h : ∀ m ∈ ms, gotE vs m.1 m.2 = 0) : pickE vs ms = 0 := by
  induction ms with
  | nil => rfl
  | cons m r ih => rw [pickE, if_pos (h m List.mem_cons_self)]; exact ih (fun y hy => h y (List.mem_cons_of_mem _ hy))
theorem gotE_index {vs : List Vl} {last : Int} (hg : goodFrom last vs = true) {vol block : Int} (h : gotE vs vol block = 0) : ∃ (k : Nat) (hk : k < vs.length) (j : Nat) (_hj : j < vs[k].2.length), vs[k].1 = vol ∧ (j : Int) = block := by
  induction vs generalizing last with
  | nil => simp [gotE] at h
  | cons v r ih =>
    obtain ⟨h1, h2, h3⟩ := (goodFrom_cons _ _ _).1 hg
    rw [gotE] at h
    by_cases hv : v.1 = vol
    · rw [if_pos hv] at h
      by_cases hi : inB v.2 block = true
      · have := (inB_iff' _ _).1 hi
        exact ⟨0, by simp, block.toNat, by simp; omega, by simpa using hv, by omega⟩
      · rw [if_neg hi] at h; exact absurd h (by decide)
    · rw [if_neg hv] at h
      obtain ⟨k, hk, j, hj, e1, e2⟩ := ih h3 h
      exact ⟨k + 1, by simpa using hk, j, by simpa using hj, by simpa using e1, e2⟩
theorem gotS_short {vs : List Vl} {last : Int} (hg : goodFrom last vs = true) {vol block : Int} (h : gotE vs vol block = 0) : shortB (gotS vs vol block) = true := by
  obtain ⟨k, hk, j, hj, rfl, rfl⟩ := gotE_index hg h
  rw [(got_mem hg hk hj).1]
  have := ((volOk_iff _).1 (goodFrom_ok hg _ (List.getElem_mem hk))).2 _ (List.getElem_mem hj)
  simpa [shortB] using this

/-- Put back over volumes that differ in these blocks alone: the volumes. -/
theorem put_back {vs ot : List Vl} {l : List Wr} (hg : goodFrom 0 vs = true) (hgo : goodFrom 0 ot = true) (hsh : shapes ot = shapes vs)
    (hl : ∀ x ∈ l, gotE vs x.vol x.block = 0 ∧ x.data = gotS vs x.vol x.block)
    (ho : ∀ vol block, lastF l vol block = none → gotS ot vol block = gotS vs vol block) : chk ot l = 0 ∧ l.foldl put1 ot = vs := by
  have hc : chk ot l = 0 := chk_of (fun x hx => by
    obtain ⟨h1, h2⟩ := hl x hx
    exact ⟨by rw [gotE_shapes hsh]; exact h1, by rw [h2]; exact gotS_short hg h1⟩)
  refine ⟨hc, ?_⟩
  rw [refA_apply hgo hc]
  apply List.ext_getElem
  · simp [refA, shapes_length hsh]
  · intro i h1 h2
    have hi : i < ot.length := by simpa [refA] using h1
    have e : (shapes ot)[i]? = (shapes vs)[i]? := by rw [hsh]
    simp only [shapes, List.getElem?_map, List.getElem?_eq_getElem hi, List.getElem?_eq_getElem h2, Option.map_some, Option.some.injEq, Prod.mk.injEq] at e
    simp only [refA, List.getElem_map]
    refine Prod.ext e.1 ?_
    apply List.ext_getElem
    · simp only [refB, List.length_map, List.length_range]; exact e.2
    · intro j g1 g2
      have hj : j < ot[i].2.length := by simpa [refB] using g1
      simp only [refB, List.getElem_map, List.getElem_range]
      rw [e.1]
      cases hq : lastF l vs[i].1 (j : Int) with
      | some d =>
        obtain ⟨h3, h4⟩ := hl _ (lastF_mem hq)
        simp only at h4
        rw [Option.getD_some, h4, (got_mem hg h2 g2).1]
      | none =>
        have h5 := ho _ _ hq
        have h6 : gotS ot vs[i].1 (j : Int) = ot[i].2[j] := by rw [← e.1]; exact (got_mem hgo hi hj).1
        rw [Option.getD_none, List.getD_eq_getElem?_getD, List.getElem?_eq_getElem hj, Option.getD_some, ← h6, h5, (got_mem hg h2 g2).1]

/-- What FoldTakes asks. -/
theorem fold_takes {vs : List Vl} {ws : List Wr} (h : checkE vs ws = 0) :
    pickEr vs (marksW ws) = 0 ∧ checkE vs (pickV vs (marksW ws)) = 0 ∧ applyV vs (pickV vs (marksW ws)) = vs ∧ checkE (applyV vs ws) (pickV vs (marksW ws)) = 0 ∧ applyV (applyV vs ws) (pickV vs (marksW ws)) = vs := by
  obtain ⟨hr, hc, hr2⟩ := right_apply h
  have hg : goodFrom 0 vs = true := ((rightB_iff vs).1 hr).2
  have hgo : goodFrom 0 (ws.foldl put1 vs) = true := ((rightB_iff _).1 hr2).2
  have hm : ∀ m ∈ marksW ws, gotE vs m.1 m.2 = 0 := fun m hm => by
    obtain ⟨x, hx, rfl⟩ := List.mem_map.1 hm
    exact (chk_mem hc (foldW_mem hx)).1
  have he : pickEr vs (marksW ws) = 0 := by unfold pickEr; rw [if_pos hr]; exact pickE_of hm
  have hv : pickV vs (marksW ws) = pickL vs (marksW ws) := by unfold pickV; rw [if_pos he]
  have hl : ∀ x ∈ pickL vs (marksW ws), gotE vs x.vol x.block = 0 ∧ x.data = gotS vs x.vol x.block := fun x hx => by
    obtain ⟨m, hm2, rfl⟩ := List.mem_map.1 hx
    exact ⟨hm m hm2, rfl⟩
  have hkey : ∀ vol block, lastF (pickL vs (marksW ws)) vol block = none → lastF ws vol block = none := fun vol block hn => by
    rw [← foldW_last]
    refine lastF_none (fun x hx hk => ?_)
    have : (⟨x.vol, x.block, gotS vs x.vol x.block⟩ : Wr) ∈ pickL vs (marksW ws) := List.mem_map.2 ⟨(x.vol, x.block), List.mem_map.2 ⟨x, hx, rfl⟩, rfl⟩
    have h2 := lastF_isSome this
    simp only at h2
    rw [hk.1, hk.2, hn] at h2
    exact absurd h2 (by simp)
  obtain ⟨a1, a2⟩ := put_back (ot := vs) hg hg rfl hl (fun _ _ _ => rfl)
  obtain ⟨b1, b2⟩ := put_back (ot := ws.foldl put1 vs) hg hgo (shapes_foldl ws vs) hl (fun vol block hn => by rw [got_foldl hg hc, lastD_eq, hkey vol block hn]; rfl)
  rw [hv, applyV_ok h]
  have c1 : checkE vs (pickL vs (marksW ws)) = 0 := by rw [checkE_right hr]; exact a1
  have c2 : checkE (ws.foldl put1 vs) (pickL vs (marksW ws)) = 0 := by rw [checkE_right hr2]; exact b1
  refine ⟨he, c1, ?_, c2, ?_⟩
  · rw [applyV_ok c1]; exact a2
  · rw [applyV_ok c2]; exact b2
end Go.Proofs.Ytpmllckfijfehaa
