/- What blocks hold behind writes, plain. No program in sight. -/
import Derived.Test.YtpmllckfijfehaaVolV
namespace Go.Proofs.Ytpmllckfijfehaa

theorem inB_iff' (bs : List ByteArray) (block : Int) : inB bs block = true ↔ 0 ≤ block ∧ block < bs.length := by simp [inB]
theorem inB_set (bs : List ByteArray) (j : Nat) (s : ByteArray) (block : Int) : inB (bs.set j s) block = inB bs block := by unfold inB; simp

/-- One write: the block that it names, and no other. -/
theorem got_put1 {vs : List Vl} {last : Int} (h : goodFrom last vs = true) {x : Wr} (hx : gotE vs x.vol x.block = 0) (vol block : Int) :
    gotS (put1 vs x) vol block = if x.vol = vol ∧ x.block = block then x.data else gotS vs vol block := by
  induction vs generalizing last with
  | nil => simp [gotE] at hx
  | cons v r ih =>
    obtain ⟨h1, h2, h3⟩ := (goodFrom_cons _ _ _).1 h
    by_cases hc : x.vol ≤ v.1
    · have e : findAt (v :: r) x.vol = 0 := by rw [findAt, if_pos hc]
      have hv : v.1 = x.vol := by
        by_cases hv : v.1 = x.vol
        · exact hv
        · rw [gotE, if_neg hv, (gotE_none (fun u hu => by have := goodFrom_lt h3 u hu; omega)).1] at hx
          exact absurd hx (by decide)
      have hin : inB v.2 x.block = true := by
        rw [gotE, if_pos hv] at hx
        by_cases hi : inB v.2 x.block = true
        · exact hi
        · rw [if_neg hi] at hx; exact absurd hx (by decide)
      have hb := (inB_iff' _ _).1 hin
      unfold put1
      rw [e, List.modify_zero_cons, gotS, gotS]
      simp only
      by_cases hvol : v.1 = vol
      · rw [if_pos hvol, if_pos hvol, inB_set]
        by_cases hbl : x.block = block
        · subst hbl
          rw [if_pos hin, if_pos ⟨by omega, rfl⟩, List.getD_eq_getElem?_getD, List.getElem?_set_self (by omega)]
          rfl
        · have hno : ¬ (x.vol = vol ∧ x.block = block) := fun hh => hbl hh.2
          rw [if_neg hno]
          by_cases hi : inB v.2 block = true
          · have hb2 := (inB_iff' _ _).1 hi
            rw [if_pos hi, if_pos hi, List.getD_eq_getElem?_getD, List.getElem?_set_ne (by omega), List.getD_eq_getElem?_getD]
          · rw [if_neg hi, if_neg hi]
      · have hno : ¬ (x.vol = vol ∧ x.block = block) := fun hh => hvol (by omega)
        rw [if_neg hvol, if_neg hvol, if_neg hno]
    · have e : put1 (v :: r) x = v :: put1 r x := by
        unfold put1
        rw [findAt, if_neg hc, List.modify_succ_cons]
      have hv : ¬ v.1 = x.vol := by omega
      rw [gotE, if_neg hv] at hx
      have := ih h3 hx
      rw [e, gotS, gotS, this]
      by_cases hvol : v.1 = vol
      · have hno : ¬ (x.vol = vol ∧ x.block = block) := fun hh => hv (by omega)
        rw [if_pos hvol, if_pos hvol, if_neg hno]
      · rw [if_neg hvol, if_neg hvol]

/-- What the last write to a block says, or what it had. -/
def lastD (ws : List Wr) (vol block : Int) (was : ByteArray) : ByteArray := ws.foldl (fun acc x => if x.vol = vol ∧ x.block = block then x.data else acc) was
def lastF : List Wr → Int → Int → Option ByteArray
  | [], _, _ => none
  | x :: r, vol, block => match lastF r vol block with
    | some d => some d
    | none => if x.vol = vol ∧ x.block = block then some x.data else none
theorem lastD_eq (ws : List Wr) (vol block : Int) (was : ByteArray) : lastD ws vol block was = (lastF ws vol block).getD was := by
  induction ws generalizing was with
  | nil => rfl
  | cons x r ih =>
    have e : lastD (x :: r) vol block was = lastD r vol block (if x.vol = vol ∧ x.block = block then x.data else was) := rfl
    rw [e, ih, lastF]
    cases lastF r vol block with
    | some d => rfl
    | none =>
      by_cases hh : x.vol = vol ∧ x.block = block
      · simp [hh]
      · simp [hh]
theorem lastF_snoc (ws : List Wr) (x : Wr) (vol block : Int) : lastF (ws ++ [x]) vol block = if x.vol = vol ∧ x.block = block then some x.data else lastF ws vol block := by
  induction ws with
  | nil => rfl
  | cons y r ih =>
    rw [List.cons_append, lastF, ih, lastF]
    by_cases hh : x.vol = vol ∧ x.block = block
    · rw [if_pos hh, if_pos hh]
    · rw [if_neg hh, if_neg hh]
theorem lastD_snoc (ws : List Wr) (x : Wr) (vol block : Int) (was : ByteArray) : lastD (ws ++ [x]) vol block was = if x.vol = vol ∧ x.block = block then x.data else lastD ws vol block was := by
  unfold lastD; rw [List.foldl_append]; rfl

theorem got_foldl {ws : List Wr} {vs : List Vl} {last : Int} (h : goodFrom last vs = true) (hc : chk vs ws = 0) (vol block : Int) : gotS (ws.foldl put1 vs) vol block = lastD ws vol block (gotS vs vol block) := by
  induction ws generalizing vs with
  | nil => rfl
  | cons x r ih =>
    have hx := chk_take (k := 0) hc (by simp)
    simp only [List.getElem_cons_zero] at hx
    have hr : chk vs r = 0 := by
      rw [chk, if_pos hx.1, if_pos hx.2] at hc
      exact hc
    have hr2 : chk (put1 vs x) r = 0 := by rw [chk_shapes (shapes_put1 vs x)]; exact hr
    rw [List.foldl_cons, ih (good_put1 h x hx.2) hr2, got_put1 h hx.1]
    rfl

/-- A block of a volume that is there. -/
theorem got_mem {vs : List Vl} {last : Int} (h : goodFrom last vs = true) {k : Nat} (hk : k < vs.length) {j : Nat} (hj : j < vs[k].2.length) : gotS vs vs[k].1 j = vs[k].2[j] ∧ gotE vs vs[k].1 j = 0 := by
  induction vs generalizing last k with
  | nil => simp at hk
  | cons v r ih =>
    obtain ⟨h1, h2, h3⟩ := (goodFrom_cons _ _ _).1 h
    cases k with
    | zero =>
      simp only [List.getElem_cons_zero] at hj ⊢
      rw [gotS, if_pos rfl, gotE, if_pos rfl, if_pos ((inB_iff' _ _).2 ⟨by omega, by omega⟩), if_pos ((inB_iff' _ _).2 ⟨by omega, by omega⟩), Int.toNat_natCast, List.getD_eq_getElem?_getD, List.getElem?_eq_getElem hj]
      exact ⟨rfl, rfl⟩
    | succ k =>
      simp only [List.getElem_cons_succ] at hj ⊢
      have hk' : k < r.length := by simpa using hk
      have hlt := goodFrom_lt h3 _ (List.getElem_mem hk')
      rw [gotS, if_neg (by omega), gotE, if_neg (by omega)]
      exact ih h3 hk' hj

/-- The document's answer: each block by the last write that names it. -/
def refB (ws : List Wr) (id : Int) (bs : List ByteArray) : List ByteArray := (List.range bs.length).map (fun (b : Nat) => (lastF ws id (b : Int)).getD (bs.getD b ByteArray.empty))
def refA (vs : List Vl) (ws : List Wr) : List Vl := vs.map (fun v => (v.1, refB ws v.1 v.2))

theorem refA_apply {vs : List Vl} {ws : List Wr} {last : Int} (h : goodFrom last vs = true) (hc : chk vs ws = 0) : ws.foldl put1 vs = refA vs ws := by
  have hsh := shapes_foldl ws vs
  have hg := good_foldl h (chk_short hc)
  have hlen := shapes_length hsh
  have hgot := got_foldl h hc
  generalize ws.foldl put1 vs = a at *
  apply List.ext_getElem
  · rw [hlen]; simp [refA]
  · intro i h1 h2
    have hv : i < vs.length := by omega
    have e : (shapes a)[i]? = (shapes vs)[i]? := by rw [hsh]
    simp only [shapes, List.getElem?_map, List.getElem?_eq_getElem h1, List.getElem?_eq_getElem hv, Option.map_some, Option.some.injEq, Prod.mk.injEq] at e
    simp only [refA, List.getElem_map]
    refine Prod.ext e.1 ?_
    apply List.ext_getElem
    · simp only [refB, List.length_map, List.length_range]; exact e.2
    · intro j g1 g2
      have hj : j < vs[i].2.length := by omega
      simp only [refB, List.getElem_map, List.getElem_range]
      rw [← (got_mem hg h1 g1).1, e.1, hgot, lastD_eq, (got_mem h hv hj).1, List.getD_eq_getElem?_getD (l := vs[i].2), List.getElem?_eq_getElem hj]
      rfl

theorem sizes_shapes {a b : List Vl} (h : shapes a = shapes b) : sizesOf a = sizesOf b := by
  have e : ∀ l : List Vl, sizesOf l = (shapes l).flatMap (fun p => [p.1, (p.2 : Int)]) := by
    intro l
    induction l with
    | nil => rfl
    | cons v r ih => simp only [sizesOf, shapes, List.flatMap_cons, List.map_cons] at ih ⊢; rw [ih]
  rw [e, e, h]

/-- What VolsStay asks. -/
theorem stay_all {vs : List Vl} {ws : List Wr} {vol block : Int} (h0 : checkE vs ws = 0) (h1 : gtE vs vol block = 0) :
    rightB vs = true ∧ rightB (applyV vs ws) = true ∧ gtE (applyV vs ws) vol block = 0 ∧ gtS (applyV vs ws) vol block = lastD ws vol block (gtS vs vol block) ∧ sizesV (applyV vs ws) = sizesV vs := by
  obtain ⟨hr, hc, hr2⟩ := right_apply h0
  have hg : goodFrom 0 vs = true := ((rightB_iff vs).1 hr).2
  have e := applyV_ok h0
  rw [e]
  unfold gtE at h1
  rw [if_pos hr] at h1
  refine ⟨hr, hr2, ?_, ?_, ?_⟩
  · unfold gtE; rw [if_pos hr2, gotE_shapes (shapes_foldl ws vs)]; exact h1
  · unfold gtS; rw [if_pos hr2, if_pos hr]; exact got_foldl hg hc vol block
  · unfold sizesV; rw [if_pos hr2, if_pos hr]; exact sizes_shapes (shapes_foldl ws vs)
end Go.Proofs.Ytpmllckfijfehaa
