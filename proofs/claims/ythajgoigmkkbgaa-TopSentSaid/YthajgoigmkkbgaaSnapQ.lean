/- What a snapshot keeps, plain: 'noteF' tells it block by block, 'noteL' lists it as the document does; put over the volumes behind the writes it brings the snapshot back. What Note answers ('noteE', 'noteR'), and what follows. No program in sight. -/
import Derived.Test.YthajgoigmkkbgaaVolP
import Derived.Test.YthajgoigmkkbgaaFoldJ
namespace Go.Proofs.Ythajgoigmkkbgaa

/-- What is kept of a block. -/
def noteF (kept ws : List Wr) (vs : List Vl) (vol block : Int) : Option ByteArray := match lastF kept vol block with
  | some d => some d
  | none => if (lastF ws vol block).isSome = true then some (gotS vs vol block) else none

theorem pairwise_sorted {l : List Wr} : l.Pairwise (fun x y => ltW x y = true) ↔ sortedW l := by
  induction l with
  | nil => simp [sortedW]
  | cons x r ih => rw [List.pairwise_cons, sortedW, ih]

theorem noteF_in {kept ws : List Wr} {vs : List Vl} (h1 : chk vs kept = 0) (h2 : chk vs ws = 0) {vol block : Int} {d : ByteArray} (h : noteF kept ws vs vol block = some d) : gotE vs vol block = 0 := by
  unfold noteF at h
  cases hk : lastF kept vol block with
  | some e => exact (chk_mem h1 (lastF_mem hk)).1
  | none =>
    rw [hk] at h
    simp only at h
    split at h
    · rename_i hs
      cases hw : lastF ws vol block with
      | some e => exact (chk_mem h2 (lastF_mem hw)).1
      | none => rw [hw] at hs; cases hs
    · cases h
theorem noteF_short {kept ws : List Wr} {vs : List Vl} (hg : goodFrom 0 vs = true) (h1 : chk vs kept = 0) (h2 : chk vs ws = 0) {vol block : Int} {d : ByteArray} (h : noteF kept ws vs vol block = some d) : shortB d = true := by
  have hgot := noteF_in h1 h2 h
  unfold noteF at h
  cases hk : lastF kept vol block with
  | some e =>
    rw [hk] at h
    simp only [Option.some.injEq] at h
    subst h
    exact (chk_mem h1 (lastF_mem hk)).2
  | none =>
    rw [hk] at h
    simp only at h
    split at h
    · simp only [Option.some.injEq] at h
      subst h
      exact gotS_short hg hgot
    · cases h

/-- Put over the volumes behind the writes: the snapshot. -/
theorem note_back {vs : List Vl} {kept ws l : List Wr} (h1 : checkE vs kept = 0) (h2 : checkE vs ws = 0) (hs : sortedW l) (hl : ∀ vol block, lastF l vol block = noteF kept ws vs vol block) :
    checkE (applyV vs ws) l = 0 ∧ applyV (applyV vs ws) l = applyV vs kept := by
  obtain ⟨hr, hc1, _⟩ := right_apply h1
  obtain ⟨_, hc2, hr2⟩ := right_apply h2
  have hg : goodFrom 0 vs = true := ((rightB_iff vs).1 hr).2
  have hgo : goodFrom 0 (ws.foldl put1 vs) = true := ((rightB_iff _).1 hr2).2
  have hc : chk (ws.foldl put1 vs) l = 0 := chk_of (fun x hx => by
    have e := lastF_sorted hs hx
    rw [hl] at e
    exact ⟨by rw [gotE_shapes (shapes_foldl ws vs)]; exact noteF_in hc1 hc2 e, noteF_short hg hc1 hc2 e⟩)
  have hce : checkE (applyV vs ws) l = 0 := by rw [applyV_ok h2, checkE_right hr2]; exact hc
  refine ⟨hce, ?_⟩
  have e1 : applyV (applyV vs ws) l = l.foldl put1 (ws.foldl put1 vs) := by
    rw [applyV_ok hce, applyV_ok h2]
  rw [e1, applyV_ok h1, refA_apply hgo hc, refA_apply hg hc2, refA_apply hg hc1]
  unfold refA
  rw [List.map_map]
  apply List.map_congr_left
  intro v hv
  obtain ⟨i, hi, rfl⟩ := List.getElem_of_mem hv
  refine Prod.ext rfl ?_
  show refB l vs[i].1 (refB ws vs[i].1 vs[i].2) = refB kept vs[i].1 vs[i].2
  apply List.ext_getElem
  · simp [refB]
  · intro j g1 g2
    have hj : j < vs[i].2.length := by simpa [refB] using g2
    simp only [refB, List.getElem_map, List.getElem_range, List.length_map, List.length_range]
    rw [hl]
    unfold noteF
    cases hk : lastF kept vs[i].1 (j : Int) with
    | some d => rfl
    | none =>
      simp only
      have hm := (got_mem hg hi hj).1
      have e3 : vs[i].2.getD j ByteArray.empty = vs[i].2[j] := by rw [List.getD_eq_getElem?_getD, List.getElem?_eq_getElem hj]; rfl
      cases hw : lastF ws vs[i].1 (j : Int) with
      | some d => rw [if_pos (by rfl), Option.getD_some, hm, Option.getD_none, e3]
      | none =>
        rw [if_neg (by simp), Option.getD_none, Option.getD_none, List.getD_eq_getElem?_getD, List.getElem?_map, List.getElem?_range (by simpa using hj)]
        simp only [Option.map_some, Option.getD_some, hw, Option.getD_none]

/-- As the document lists it: block by block of the volumes. -/
def noteB (kept ws : List Wr) (id : Int) (bs : List ByteArray) (b : Nat) : Option Wr := match lastF kept id (b : Int) with
  | some d => some ⟨id, b, d⟩
  | none => if (lastF ws id (b : Int)).isSome = true then some ⟨id, b, bs.getD b ByteArray.empty⟩ else none
def noteV (kept ws : List Wr) (v : Vl) : List Wr := (List.range v.2.length).filterMap (noteB kept ws v.1 v.2)
def noteL (kept ws : List Wr) (vs : List Vl) : List Wr := vs.flatMap (noteV kept ws)
theorem noteB_some {kept ws : List Wr} {id : Int} {bs : List ByteArray} {b : Nat} {x : Wr} (h : noteB kept ws id bs b = some x) : x.vol = id ∧ x.block = b := by
  unfold noteB at h
  split at h
  · simp only [Option.some.injEq] at h; subst h; exact ⟨rfl, rfl⟩
  · split at h
    · simp only [Option.some.injEq] at h; subst h; exact ⟨rfl, rfl⟩
    · cases h
theorem noteB_is {kept ws : List Wr} {vs : List Vl} (hg : goodFrom 0 vs = true) {i : Nat} (hi : i < vs.length) {b : Nat} (hb : b < vs[i].2.length) : noteB kept ws vs[i].1 vs[i].2 b = (noteF kept ws vs vs[i].1 b).map (fun d => ⟨vs[i].1, b, d⟩) := by
  unfold noteB noteF
  have hm := (got_mem hg hi hb).1
  have e3 : vs[i].2.getD b ByteArray.empty = vs[i].2[b] := by rw [List.getD_eq_getElem?_getD, List.getElem?_eq_getElem hb]; rfl
  cases lastF kept vs[i].1 (b : Int) with
  | some d => rfl
  | none =>
    simp only
    split
    · rw [hm, e3]; rfl
    · rfl
theorem noteV_mem {kept ws : List Wr} {v : Vl} {x : Wr} (h : x ∈ noteV kept ws v) : ∃ b, b < v.2.length ∧ noteB kept ws v.1 v.2 b = some x := by
  unfold noteV at h
  obtain ⟨b, hb, e⟩ := List.mem_filterMap.1 h
  exact ⟨b, by simpa using hb, e⟩
theorem noteL_sorted {kept ws : List Wr} {vs : List Vl} {last : Int} (hg : goodFrom last vs = true) : sortedW (noteL kept ws vs) := by
  rw [← pairwise_sorted]
  unfold noteL
  rw [List.pairwise_flatMap]
  constructor
  · intro v _
    unfold noteV
    rw [List.pairwise_filterMap]
    refine List.Pairwise.imp ?_ (List.pairwise_lt_range (n := v.2.length))
    intro a b hab x hx y hy
    obtain ⟨e1, e2⟩ := noteB_some hx
    obtain ⟨e3, e4⟩ := noteB_some hy
    rw [ltW_iff]; omega
  · induction vs generalizing last with
    | nil => exact List.Pairwise.nil
    | cons v r ih =>
      obtain ⟨_, _, h3⟩ := (goodFrom_cons _ _ _).1 hg
      rw [List.pairwise_cons]
      refine ⟨fun u hu x hx y hy => ?_, ih h3⟩
      obtain ⟨b, _, e⟩ := noteV_mem hx
      obtain ⟨c, _, e'⟩ := noteV_mem hy
      have h5 := goodFrom_lt h3 u hu
      have h6 := (noteB_some e).1
      have h7 := (noteB_some e').1
      rw [ltW_iff]; omega
theorem noteL_last {kept ws : List Wr} {vs : List Vl} (hg : goodFrom 0 vs = true) (h1 : chk vs kept = 0) (h2 : chk vs ws = 0) (vol block : Int) : lastF (noteL kept ws vs) vol block = noteF kept ws vs vol block := by
  cases hq : lastF (noteL kept ws vs) vol block with
  | some d =>
    have hm := lastF_mem hq
    unfold noteL at hm
    obtain ⟨v, hv, hx⟩ := List.mem_flatMap.1 hm
    obtain ⟨i, hi, rfl⟩ := List.getElem_of_mem hv
    obtain ⟨b, hb, e⟩ := noteV_mem hx
    obtain ⟨e1, e2⟩ := noteB_some e
    rw [noteB_is hg hi hb] at e
    simp only at e1 e2
    subst e1 e2
    cases hn : noteF kept ws vs vs[i].1 (b : Int) with
    | some f => rw [hn] at e; simp only [Option.map_some, Option.some.injEq, Wr.mk.injEq, true_and] at e; rw [e]
    | none => rw [hn] at e; cases e
  | none =>
    cases hn : noteF kept ws vs vol block with
    | none => rfl
    | some d =>
      exfalso
      obtain ⟨i, hi, b, hb, rfl, rfl⟩ := gotE_index hg (noteF_in h1 h2 hn)
      have hm : (⟨vs[i].1, b, d⟩ : Wr) ∈ noteL kept ws vs := by
        unfold noteL
        refine List.mem_flatMap.2 ⟨vs[i], List.getElem_mem hi, ?_⟩
        unfold noteV
        exact List.mem_filterMap.2 ⟨b, by simpa using hb, by rw [noteB_is hg hi hb, hn]; rfl⟩
      have := lastF_isSome hm
      simp only at this
      rw [hq] at this
      cases this
/-- A list in order that tells what is kept is the document's list. -/
theorem note_is {kept ws l : List Wr} {vs : List Vl} (hg : goodFrom 0 vs = true) (h1 : chk vs kept = 0) (h2 : chk vs ws = 0) (hs : sortedW l) (hl : ∀ vol block, lastF l vol block = noteF kept ws vs vol block) : l = noteL kept ws vs :=
  sorted_ext hs (noteL_sorted hg) (fun v b => by rw [hl, noteL_last hg h1 h2])
/-! ### How much is kept -/

theorem noteV_len (kept ws : List Wr) (v : Vl) : (noteV kept ws v).length ≤ v.2.length := by
  unfold noteV
  have := List.length_filterMap_le (noteB kept ws v.1 v.2) (List.range v.2.length)
  simpa using this
theorem noteL_len (kept ws : List Wr) (vs : List Vl) : (noteL kept ws vs).length ≤ (vs.map (fun v => v.2.length)).sum := by
  induction vs with
  | nil => simp [noteL]
  | cons v r ih =>
    have h1 := noteV_len kept ws v
    simp only [noteL, List.flatMap_cons, List.length_append, List.map_cons, List.sum_cons] at ih ⊢
    omega
/-- Kept once more: the same. -/
theorem note_again {kept ws l : List Wr} {vs : List Vl} (hl : ∀ vol block, lastF l vol block = noteF kept ws vs vol block) (vol block : Int) : noteF l ws vs vol block = noteF kept ws vs vol block := by
  unfold noteF
  rw [hl]
  unfold noteF
  cases lastF kept vol block with
  | some d => rfl
  | none =>
    simp only
    cases lastF ws vol block with
    | some d => rfl
    | none => rfl
/-- A list in order each of whose blocks another in order has, too, is no longer. -/
theorem sub_len {a b : List Wr} (ha : sortedW a) (hb : sortedW b) (h : ∀ x ∈ a, ∃ y ∈ b, y.vol = x.vol ∧ y.block = x.block) : a.length ≤ b.length := by
  induction b generalizing a with
  | nil =>
    cases a with
    | nil => exact Nat.le_refl _
    | cons x r => obtain ⟨y, hy, _⟩ := h x List.mem_cons_self; cases hy
  | cons y r ih =>
    cases a with
    | nil => exact Nat.zero_le _
    | cons x s =>
      by_cases hk : y.vol = x.vol ∧ y.block = x.block
      · have := ih ha.2 hb.2 (fun z hz => by
          obtain ⟨u, hu, e⟩ := h z (List.mem_cons_of_mem _ hz)
          rcases List.mem_cons.1 hu with e2 | e2
          · subst e2
            have := (ltW_iff _ _).1 (ha.1 z hz)
            omega
          · exact ⟨u, e2, e⟩)
        simp only [List.length_cons]; omega
      · have := ih ha hb.2 (fun z hz => by
          obtain ⟨u, hu, e⟩ := h z hz
          rcases List.mem_cons.1 hu with e2 | e2
          · subst e2
            exfalso
            obtain ⟨q, hq, e3⟩ := h x List.mem_cons_self
            rcases List.mem_cons.1 hq with e4 | e4
            · subst e4; exact hk e3
            · have h5 := (ltW_iff _ _).1 (hb.1 q e4)
              rcases List.mem_cons.1 hz with e6 | e6
              · subst e6; omega
              · have h7 := (ltW_iff _ _).1 (ha.1 z e6)
                omega
          · exact ⟨u, e2, e⟩)
        simp only [List.length_cons] at this ⊢; omega
theorem note_more {kept ws l : List Wr} {vs : List Vl} (hk : sortedW kept) (hs : sortedW l) (hl : ∀ vol block, lastF l vol block = noteF kept ws vs vol block) : kept.length ≤ l.length :=
  sub_len hk hs (fun x hx => by
    have e : lastF l x.vol x.block = some x.data := by rw [hl]; unfold noteF; rw [lastF_sorted hk hx]
    exact ⟨_, lastF_mem e, rfl, rfl⟩)
end Go.Proofs.Ythajgoigmkkbgaa
namespace Go.Proofs.Ythajgoigmkkbgaa

theorem lastF_keys (g : Int → Int → ByteArray) (l : List Wr) (vol block : Int) : lastF (l.map (fun x => ⟨x.vol, x.block, g x.vol x.block⟩)) vol block = (lastF l vol block).map (fun _ => g vol block) := by
  induction l with
  | nil => rfl
  | cons x r ih =>
    rw [List.map_cons, lastF, ih, lastF]
    cases lastF r vol block with
    | some d => rfl
    | none =>
      simp only [Option.map_none]
      by_cases h : x.vol = vol ∧ x.block = block
      · rw [if_pos h, if_pos h]; obtain ⟨rfl, rfl⟩ := h; rfl
      · rw [if_neg h, if_neg h]; rfl
theorem pick_keys (vs : List Vl) (ws : List Wr) : pickL vs (marksW ws) = (foldW ws).map (fun x => ⟨x.vol, x.block, gotS vs x.vol x.block⟩) := by
  unfold pickL marksW; rw [List.map_map]; rfl
theorem pick_last (vs : List Vl) (ws : List Wr) (vol block : Int) : lastF (pickL vs (marksW ws)) vol block = (lastF ws vol block).map (fun _ => gotS vs vol block) := by
  rw [pick_keys, lastF_keys (fun v b => gotS vs v b), foldW_last]

/-- The list that Note makes. -/
def noteN (kept ws : List Wr) (vs : List Vl) : List Wr := foldW (pickV vs (marksW ws) ++ kept)
theorem noteN_sorted (kept ws : List Wr) (vs : List Vl) : sortedW (noteN kept ws vs) := foldW_sorted _
theorem noteN_tells {kept ws : List Wr} {vs : List Vl} (h : checkE vs ws = 0) (vol block : Int) : lastF (noteN kept ws vs) vol block = noteF kept ws vs vol block := by
  have he := (fold_takes h).1
  unfold noteN pickV
  rw [if_pos he, foldW_last, lastF_append, pick_last]
  unfold noteF
  cases lastF kept vol block with
  | some d => rfl
  | none => cases lastF ws vol block <;> rfl
theorem noteN_len {kept ws : List Wr} {vs : List Vl} : (noteN kept ws vs).length ≤ ws.length + kept.length := by
  have h1 := foldW_len (pickV vs (marksW ws) ++ kept)
  have h2 := foldW_len ws
  unfold noteN
  rw [List.length_append] at h1
  have h3 : (pickV vs (marksW ws)).length ≤ ws.length := by
    unfold pickV pickL marksW
    split <;> simp <;> omega
  omega
theorem sorted_eq {l : List Wr} : sortedW l ↔ l = foldW l := ⟨fun h => (foldW_self h).symm, fun h => by rw [h]; exact foldW_sorted l⟩

/-- Saved contents? -/
noncomputable def keepB (kept : List Wr) (vs : List Vl) : Bool := if checkE vs kept = 0 then eqW kept (foldW kept) else false
theorem keepB_iff (kept : List Wr) (vs : List Vl) : keepB kept vs = true ↔ checkE vs kept = 0 ∧ sortedW kept := by
  unfold keepB
  by_cases h : checkE vs kept = 0
  · rw [if_pos h, sorted_eq]
    by_cases e : kept = foldW kept
    · refine ⟨fun _ => ⟨h, e⟩, fun _ => ?_⟩
      have := eqW_self kept
      rwa [← e]
    · rw [eqW_ne e]
      exact ⟨fun x => (by cases x), fun x => absurd x.2 e⟩
  · rw [if_neg h]
    exact ⟨fun x => (by cases x), fun x => absurd x.1 h⟩
noncomputable def noteE (kept ws : List Wr) (vs : List Vl) (most : Int) : Int :=
  if keepB kept vs = true then (if checkE vs ws = 0 then (if most < ((noteN kept ws vs).length : Int) then 15 else 0) else checkE vs ws) else 1
noncomputable def noteR (kept ws : List Wr) (vs : List Vl) (most : Int) : List Wr := if noteE kept ws vs most = 0 then noteN kept ws vs else []
theorem note_bad {kept ws : List Wr} {vs : List Vl} {most : Int} (h : keepB kept vs = false) : noteE kept ws vs most = 1 ∧ noteR kept ws vs most = [] := by
  have : noteE kept ws vs most = 1 := by unfold noteE; rw [h]; rfl
  exact ⟨this, by unfold noteR; rw [this]; rfl⟩
theorem note_no {kept ws : List Wr} {vs : List Vl} {most : Int} (h : keepB kept vs = true) (h2 : checkE vs ws ≠ 0) : noteE kept ws vs most = checkE vs ws ∧ noteR kept ws vs most = [] := by
  have : noteE kept ws vs most = checkE vs ws := by unfold noteE; rw [if_pos h, if_neg h2]
  exact ⟨this, by unfold noteR; rw [this, if_neg h2]⟩
theorem note_full {kept ws : List Wr} {vs : List Vl} {most : Int} (h : keepB kept vs = true) (h2 : checkE vs ws = 0) (h3 : most < ((noteN kept ws vs).length : Int)) : noteE kept ws vs most = 15 ∧ noteR kept ws vs most = [] := by
  have : noteE kept ws vs most = 15 := by unfold noteE; rw [if_pos h, if_pos h2, if_pos h3]
  exact ⟨this, by unfold noteR; rw [this]; rfl⟩
theorem note_fine {kept ws : List Wr} {vs : List Vl} {most : Int} (h : keepB kept vs = true) (h2 : checkE vs ws = 0) (h3 : ¬ most < ((noteN kept ws vs).length : Int)) : noteE kept ws vs most = 0 ∧ noteR kept ws vs most = noteN kept ws vs := by
  have : noteE kept ws vs most = 0 := by unfold noteE; rw [if_pos h, if_pos h2, if_neg h3]
  exact ⟨this, by unfold noteR; rw [this, if_pos rfl]⟩
theorem noteN_is {kept ws : List Wr} {vs : List Vl} (h : keepB kept vs = true) (h2 : checkE vs ws = 0) : noteN kept ws vs = noteL kept ws vs := by
  obtain ⟨h1, _⟩ := (keepB_iff _ _).1 h
  obtain ⟨hr, hc1, _⟩ := right_apply h1
  obtain ⟨_, hc2, _⟩ := right_apply h2
  exact note_is ((rightB_iff vs).1 hr).2 hc1 hc2 (noteN_sorted _ _ _) (noteN_tells h2)

/-! ### What a block had -/

noncomputable def readE (kept : List Wr) (vs : List Vl) (vol block : Int) : Int := if keepB kept vs = true then gotE vs vol block else 1
noncomputable def readS (kept : List Wr) (vs : List Vl) (vol block : Int) : ByteArray :=
  if keepB kept vs = true then (match lastF kept vol block with | some d => d | none => gotS vs vol block) else ByteArray.empty
/-- The first write to a block. -/
def firstF : List Wr → Int → Int → Option ByteArray
  | [], _, _ => none
  | x :: r, vol, block => if x.vol = vol ∧ x.block = block then some x.data else firstF r vol block
theorem firstF_sorted {l : List Wr} (h : sortedW l) (vol block : Int) : firstF l vol block = lastF l vol block := by
  induction l with
  | nil => rfl
  | cons x r ih =>
    rw [firstF, lastF, ih h.2]
    by_cases hk : x.vol = vol ∧ x.block = block
    · rw [if_pos hk, lastF_none (fun z hz e => by have := (ltW_iff _ _).1 (h.1 z hz); omega)]
      simp only [if_pos hk]
    · rw [if_neg hk]
      cases lastF r vol block with
      | some d => rfl
      | none => simp only [if_neg hk]
theorem firstF_drop {l : List Wr} {k : Nat} (hk : k < l.length) (vol block : Int) : firstF (l.drop k) vol block = if l[k].vol = vol ∧ l[k].block = block then some l[k].data else firstF (l.drop (k + 1)) vol block := by
  rw [List.drop_eq_getElem_cons hk, firstF]
/-- Kept text of a block is only there where the block is. -/
theorem kept_in {kept : List Wr} {vs : List Vl} (h : keepB kept vs = true) {vol block : Int} {d : ByteArray} (hd : lastF kept vol block = some d) : gotE vs vol block = 0 := by
  obtain ⟨h1, _⟩ := (keepB_iff _ _).1 h
  obtain ⟨_, hc1, _⟩ := right_apply h1
  exact (chk_mem hc1 (lastF_mem hd)).1
/-- A block of the snapshot is that block of the volumes as they were. -/
theorem read_alike {kept : List Wr} {vs : List Vl} (h : keepB kept vs = true) (vol block : Int) : gotE (applyV vs kept) vol block = gotE vs vol block ∧ gotS (applyV vs kept) vol block = readS kept vs vol block := by
  obtain ⟨h1, _⟩ := (keepB_iff _ _).1 h
  obtain ⟨hr, hc1, _⟩ := right_apply h1
  have hg : goodFrom 0 vs = true := ((rightB_iff vs).1 hr).2
  rw [applyV_ok h1]
  refine ⟨gotE_shapes (shapes_foldl kept vs) _ _, ?_⟩
  unfold readS
  rw [if_pos h, got_foldl hg hc1, lastD_eq]
  cases lastF kept vol block <;> rfl
end Go.Proofs.Ythajgoigmkkbgaa
