/- Volumes, plain: what the functions of the package vols and the document's answer tell, as functions on lists; facts on them. No program in sight. Writes on volumes, plain: what stays when they are done. No program in sight. What blocks hold behind writes, plain. No program in sight. Folded writes, plain: what the document's Fold tells ('foldW'), and what follows from it. No program in sight. -/

namespace Go.Proofs.Ytkpoeigoocbgeaa

/-- A volume: its ID, its blocks. -/
abbrev Vl := Int × List ByteArray
/-- A write. -/
structure Wr where
  vol : Int
  block : Int
  data : ByteArray

def shortB (s : ByteArray) : Bool := decide (s.size ≤ 8)
def sizeB (n : Int) : Bool := decide (1 ≤ n ∧ n ≤ 32)
def shapeB (id n : Int) : Bool := decide (1 ≤ id ∧ id ≤ 255 ∧ 1 ≤ n ∧ n ≤ 32)
def volOk (v : Vl) : Bool := shapeB v.1 v.2.length && v.2.all shortB
def goodFrom : Int → List Vl → Bool
  | _, [] => true
  | last, v :: r => decide (last < v.1) && (volOk v && goodFrom v.1 r)
def rightB (vs : List Vl) : Bool := decide (vs.length ≤ 4) && goodFrom 0 vs

theorem shapeB_iff (id n : Int) : shapeB id n = true ↔ 1 ≤ id ∧ id ≤ 255 ∧ 1 ≤ n ∧ n ≤ 32 := by simp [shapeB]
theorem goodFrom_cons (last : Int) (v : Vl) (r : List Vl) : goodFrom last (v :: r) = true ↔ last < v.1 ∧ volOk v = true ∧ goodFrom v.1 r = true := by simp [goodFrom]
theorem rightB_iff (vs : List Vl) : rightB vs = true ↔ vs.length ≤ 4 ∧ goodFrom 0 vs = true := by simp [rightB]
theorem volOk_iff (v : Vl) : volOk v = true ↔ (1 ≤ v.1 ∧ v.1 ≤ 255 ∧ 1 ≤ v.2.length ∧ v.2.length ≤ 32) ∧ ∀ s ∈ v.2, s.size ≤ 8 := by
  simp [volOk, shapeB, shortB]; omega

/-! ### Where a volume stands -/

def findAt : List Vl → Int → Nat
  | [], _ => 0
  | v :: r, id => if id ≤ v.1 then 0 else findAt r id + 1
def hasAt : List Vl → Int → Bool
  | [], _ => false
  | v :: r, id => if id ≤ v.1 then v.1 == id else hasAt r id

theorem findAt_le (vs : List Vl) (id : Int) : findAt vs id ≤ vs.length := by
  induction vs with
  | nil => simp [findAt]
  | cons v r ih => unfold findAt; split <;> simp; omega
theorem hasAt_lt {vs : List Vl} {id : Int} (h : hasAt vs id = true) : findAt vs id < vs.length := by
  induction vs with
  | nil => simp [hasAt] at h
  | cons v r ih =>
    by_cases h1 : id ≤ v.1
    · rw [findAt, if_pos h1]; simp
    · rw [hasAt, if_neg h1] at h
      have := ih h
      rw [findAt, if_neg h1]
      simp; omega
theorem hasAt_id {vs : List Vl} {id : Int} (h : hasAt vs id = true) : (vs[findAt vs id]'(hasAt_lt h)).1 = id := by
  induction vs with
  | nil => simp [hasAt] at h
  | cons v r ih =>
    by_cases h1 : id ≤ v.1
    · have e : findAt (v :: r) id = 0 := by unfold findAt; rw [if_pos h1]
      unfold hasAt at h
      rw [if_pos h1] at h
      simp only [e, List.getElem_cons_zero]
      simpa using h
    · have e : findAt (v :: r) id = findAt r id + 1 := by rw [findAt, if_neg h1]
      unfold hasAt at h
      rw [if_neg h1] at h
      simp only [e, List.getElem_cons_succ]
      exact ih h

/-! ### What a block holds -/

def inB (bs : List ByteArray) (block : Int) : Bool := decide (0 ≤ block ∧ block < bs.length)
def gotE : List Vl → Int → Int → Int
  | [], _, _ => 8
  | v :: r, vol, block => if v.1 = vol then (if inB v.2 block = true then 0 else 10) else gotE r vol block
def gotS : List Vl → Int → Int → ByteArray
  | [], _, _ => ByteArray.empty
  | v :: r, vol, block => if v.1 = vol then (if inB v.2 block = true then v.2.getD block.toNat ByteArray.empty else ByteArray.empty) else gotS r vol block
def gtE (vs : List Vl) (vol block : Int) : Int := if rightB vs = true then gotE vs vol block else 1
def gtS (vs : List Vl) (vol block : Int) : ByteArray := if rightB vs = true then gotS vs vol block else ByteArray.empty

/-- How the program looks a block up. -/
def locE (vs : List Vl) (vol block : Int) : Int := if hasAt vs vol = true then (if inB (vs.getD (findAt vs vol) (0, [])).2 block = true then 0 else 10) else 8
def locI (vs : List Vl) (vol block : Int) : Nat := if locE vs vol block = 0 then findAt vs vol else 0

theorem goodFrom_lt {vs : List Vl} {last : Int} (h : goodFrom last vs = true) : ∀ v ∈ vs, last < v.1 := by
  induction vs generalizing last with
  | nil => intro v hv; cases hv
  | cons u r ih =>
    obtain ⟨h1, _, h3⟩ := (goodFrom_cons _ _ _).1 h
    intro v hv
    rcases List.mem_cons.1 hv with rfl | hv
    · exact h1
    · have := ih h3 v hv; omega
theorem goodFrom_ok {vs : List Vl} {last : Int} (h : goodFrom last vs = true) : ∀ v ∈ vs, volOk v = true := by
  induction vs generalizing last with
  | nil => intro v hv; cases hv
  | cons u r ih =>
    obtain ⟨_, h2, h3⟩ := (goodFrom_cons _ _ _).1 h
    intro v hv
    rcases List.mem_cons.1 hv with rfl | hv
    · exact h2
    · exact ih h3 v hv
theorem goodFrom_less {vs : List Vl} {a b : Int} (h : goodFrom a vs = true) (hb : b ≤ a) : goodFrom b vs = true := by
  cases vs with
  | nil => rfl
  | cons u r =>
    obtain ⟨h1, h2, h3⟩ := (goodFrom_cons _ _ _).1 h
    exact (goodFrom_cons _ _ _).2 ⟨by omega, h2, h3⟩

theorem gotE_none {vs : List Vl} {id block : Int} (h : ∀ v ∈ vs, v.1 ≠ id) : gotE vs id block = 8 ∧ gotS vs id block = ByteArray.empty := by
  induction vs with
  | nil => exact ⟨rfl, rfl⟩
  | cons u r ih =>
    have h1 := h u List.mem_cons_self
    have h2 := ih (fun v hv => h v (List.mem_cons_of_mem _ hv))
    unfold gotE gotS
    rw [if_neg h1, if_neg h1]
    exact h2

theorem gotE_loc {vs : List Vl} {last : Int} (h : goodFrom last vs = true) (id block : Int) : gotE vs id block = locE vs id block := by
  induction vs generalizing last with
  | nil => rfl
  | cons u r ih =>
    obtain ⟨_, _, h3⟩ := (goodFrom_cons _ _ _).1 h
    have hr := ih h3
    by_cases h1 : id ≤ u.1
    · have e1 : findAt (u :: r) id = 0 := by rw [findAt, if_pos h1]
      have e2 : hasAt (u :: r) id = (u.1 == id) := by rw [hasAt, if_pos h1]
      unfold locE
      rw [gotE, e1, e2]
      by_cases h2 : u.1 = id
      · simp [h2]
      · rw [if_neg h2, if_neg (by simp [h2])]
        exact (gotE_none (fun v hv => by have := goodFrom_lt h3 v hv; omega)).1
    · have e1 : findAt (u :: r) id = findAt r id + 1 := by rw [findAt, if_neg h1]
      have e2 : hasAt (u :: r) id = hasAt r id := by rw [hasAt, if_neg h1]
      unfold locE at hr ⊢
      rw [gotE, e1, e2, if_neg (by omega), hr]
      rfl
theorem gotS_loc {vs : List Vl} {last : Int} (h : goodFrom last vs = true) (id block : Int) :
    gotS vs id block = if locE vs id block = 0 then (vs.getD (findAt vs id) (0, [])).2.getD block.toNat ByteArray.empty else ByteArray.empty := by
  induction vs generalizing last with
  | nil => rfl
  | cons u r ih =>
    obtain ⟨_, _, h3⟩ := (goodFrom_cons _ _ _).1 h
    have hr := ih h3
    by_cases h1 : id ≤ u.1
    · have e1 : findAt (u :: r) id = 0 := by rw [findAt, if_pos h1]
      have e2 : hasAt (u :: r) id = (u.1 == id) := by rw [hasAt, if_pos h1]
      unfold locE
      rw [gotS, e1, e2]
      by_cases h2 : u.1 = id
      · by_cases h4 : inB u.2 block = true
        · simp [h2, h4]
        · simp [h2, h4]
      · rw [if_neg h2, if_neg (by simp [h2])]
        exact (gotE_none (block := block) (fun v hv => by have := goodFrom_lt h3 v hv; omega)).2
    · have e1 : findAt (u :: r) id = findAt r id + 1 := by rw [findAt, if_neg h1]
      have e2 : hasAt (u :: r) id = hasAt r id := by rw [hasAt, if_neg h1]
      unfold locE at hr ⊢
      rw [gotS, e1, e2, if_neg (by omega), hr]
      rfl

/-! ### Writes -/

def chk (vs : List Vl) : List Wr → Int
  | [] => 0
  | w :: r => if gotE vs w.vol w.block = 0 then (if shortB w.data = true then chk vs r else 5) else gotE vs w.vol w.block
def checkE (vs : List Vl) (ws : List Wr) : Int := if rightB vs = true then chk vs ws else 1
def put1 (vs : List Vl) (w : Wr) : List Vl := vs.modify (findAt vs w.vol) (fun v => (v.1, v.2.set w.block.toNat w.data))
def applyV (vs : List Vl) (ws : List Wr) : List Vl := if checkE vs ws = 0 then ws.foldl put1 vs else []

/-! ### Shapes -/

def blankB (n : Nat) : List ByteArray := List.replicate n ByteArray.empty
def addE (vs : List Vl) (id n : Int) : Int := if rightB vs = true ∧ shapeB id n = true then (if hasAt vs id = true then 9 else if vs.length = 4 then 6 else 0) else 1
def addV (vs : List Vl) (id n : Int) : List Vl := if addE vs id n = 0 then vs.take (findAt vs id) ++ (id, blankB n.toNat) :: vs.drop (findAt vs id) else []
def dropE (vs : List Vl) (id : Int) : Int := if rightB vs = true then (if hasAt vs id = true then 0 else 8) else 1
def dropV (vs : List Vl) (id : Int) : List Vl := if dropE vs id = 0 then vs.take (findAt vs id) ++ vs.drop (findAt vs id + 1) else []
def resized (bs : List ByteArray) (n : Nat) : List ByteArray := bs.take n ++ blankB (n - bs.length)
def resE (vs : List Vl) (id n : Int) : Int := if rightB vs = true ∧ sizeB n = true then (if hasAt vs id = true then 0 else 8) else 1
def resV (vs : List Vl) (id n : Int) : List Vl := if resE vs id n = 0 then vs.set (findAt vs id) (id, resized (vs.getD (findAt vs id) (0, [])).2 n.toNat) else []

def sizesOf (vs : List Vl) : List Int := vs.flatMap (fun v => [v.1, (v.2.length : Int)])
def sizesV (vs : List Vl) : List Int := if rightB vs = true then sizesOf vs else []

def sameB (a b : List Vl) : Bool := rightB a && rightB b && decide (a = b)

end Go.Proofs.Ytkpoeigoocbgeaa

namespace Go.Proofs.Ytkpoeigoocbgeaa

/-- The ID of each volume, and how many blocks it has. -/
def shapes (vs : List Vl) : List (Int × Nat) := vs.map (fun v => (v.1, v.2.length))

theorem shapes_put1 (vs : List Vl) (x : Wr) : shapes (put1 vs x) = shapes vs := by
  unfold shapes put1
  apply List.ext_getElem
  · simp
  · intro i h1 h2
    simp only [List.getElem_map, List.getElem_modify]
    split <;> simp
theorem shapes_foldl (ws : List Wr) (vs : List Vl) : shapes (ws.foldl put1 vs) = shapes vs := by
  induction ws generalizing vs with
  | nil => rfl
  | cons x ws ih => rw [List.foldl_cons, ih, shapes_put1]
theorem shapes_length {a b : List Vl} (h : shapes a = shapes b) : a.length = b.length := by
  have := congrArg List.length h
  simpa [shapes] using this
theorem shapes_cons (v : Vl) (r : List Vl) : shapes (v :: r) = (v.1, v.2.length) :: shapes r := rfl

theorem findAt_shapes {a b : List Vl} (h : shapes a = shapes b) (id : Int) : findAt a id = findAt b id ∧ hasAt a id = hasAt b id := by
  induction a generalizing b with
  | nil => cases b with
    | nil => exact ⟨rfl, rfl⟩
    | cons u r => simp [shapes] at h
  | cons v a ih =>
    cases b with
    | nil => simp [shapes] at h
    | cons u r =>
      rw [shapes_cons, shapes_cons] at h
      simp only [List.cons.injEq, Prod.mk.injEq] at h
      obtain ⟨⟨h1, h2⟩, h3⟩ := h
      have := ih h3
      rw [findAt, findAt, hasAt, hasAt, h1, this.1, this.2]
      exact ⟨rfl, rfl⟩
theorem gotE_shapes {a b : List Vl} (h : shapes a = shapes b) (vol block : Int) : gotE a vol block = gotE b vol block := by
  induction a generalizing b with
  | nil => cases b with
    | nil => rfl
    | cons u r => simp [shapes] at h
  | cons v a ih =>
    cases b with
    | nil => simp [shapes] at h
    | cons u r =>
      rw [shapes_cons, shapes_cons] at h
      simp only [List.cons.injEq, Prod.mk.injEq] at h
      obtain ⟨⟨h1, h2⟩, h3⟩ := h
      rw [gotE, gotE, ih h3, h1]
      unfold inB
      rw [h2]
theorem chk_shapes {a b : List Vl} (h : shapes a = shapes b) (ws : List Wr) : chk a ws = chk b ws := by
  induction ws with
  | nil => rfl
  | cons x ws ih => rw [chk, chk, ih, gotE_shapes h]

theorem chk_append (vs : List Vl) (a b : List Wr) : chk vs (a ++ b) = if chk vs a = 0 then chk vs b else chk vs a := by
  induction a with
  | nil => simp [chk]
  | cons x a ih =>
    rw [List.cons_append, chk, chk, ih]
    by_cases h1 : gotE vs x.vol x.block = 0
    · rw [if_pos h1, if_pos h1]
      by_cases h2 : shortB x.data = true
      · rw [if_pos h2, if_pos h2]
      · rw [if_neg h2, if_neg h2]; simp
    · rw [if_neg h1, if_neg h1, if_neg h1]
theorem chk_take {vs : List Vl} {ws : List Wr} {k : Nat} (h : chk vs ws = 0) (hk : k < ws.length) : gotE vs ws[k].vol ws[k].block = 0 ∧ shortB ws[k].data = true := by
  induction ws generalizing k with
  | nil => simp at hk
  | cons x ws ih =>
    rw [chk] at h
    by_cases h1 : gotE vs x.vol x.block = 0
    · rw [if_pos h1] at h
      by_cases h2 : shortB x.data = true
      · rw [if_pos h2] at h
        cases k with
        | zero => exact ⟨h1, h2⟩
        | succ k => exact ih h (by simpa using hk)
      · rw [if_neg h2] at h; exact absurd h (by decide)
    · rw [if_neg h1] at h; exact absurd h h1

/-- Writes that are done leave right volumes right. -/
theorem good_put1 {vs : List Vl} {last : Int} (h : goodFrom last vs = true) (x : Wr) (hx : shortB x.data = true) : goodFrom last (put1 vs x) = true := by
  have key : ∀ (vs : List Vl) (last : Int) (i : Nat), goodFrom last vs = true → goodFrom last (vs.modify i (fun v => (v.1, v.2.set x.block.toNat x.data))) = true := by
    intro vs
    induction vs with
    | nil => intro last i _; cases i <;> rfl
    | cons v r ih =>
      intro last i h
      obtain ⟨h1, h2, h3⟩ := (goodFrom_cons _ _ _).1 h
      cases i with
      | zero =>
        rw [List.modify_zero_cons]
        refine (goodFrom_cons _ _ _).2 ⟨h1, ?_, h3⟩
        obtain ⟨g1, g2⟩ := (volOk_iff _).1 h2
        refine (volOk_iff _).2 ⟨by simpa using g1, fun s hs => ?_⟩
        rcases List.mem_or_eq_of_mem_set hs with hs | rfl
        · exact g2 s hs
        · simpa [shortB] using hx
      | succ i =>
        rw [List.modify_succ_cons]
        exact (goodFrom_cons _ _ _).2 ⟨h1, h2, ih v.1 i h3⟩
  exact key vs last _ h
theorem good_foldl {ws : List Wr} {vs : List Vl} {last : Int} (h : goodFrom last vs = true) (hx : ∀ x ∈ ws, shortB x.data = true) : goodFrom last (ws.foldl put1 vs) = true := by
  induction ws generalizing vs with
  | nil => exact h
  | cons x ws ih => exact ih (good_put1 h x (hx x List.mem_cons_self)) (fun y hy => hx y (List.mem_cons_of_mem _ hy))
theorem chk_short {vs : List Vl} {ws : List Wr} (h : chk vs ws = 0) : ∀ x ∈ ws, shortB x.data = true := by
  intro x hx
  obtain ⟨i, hi, rfl⟩ := List.getElem_of_mem hx
  exact (chk_take h hi).2
theorem right_apply {vs : List Vl} {ws : List Wr} (h : checkE vs ws = 0) : rightB vs = true ∧ chk vs ws = 0 ∧ rightB (ws.foldl put1 vs) = true := by
  unfold checkE at h
  by_cases hr : rightB vs = true
  · rw [if_pos hr] at h
    obtain ⟨h1, h2⟩ := (rightB_iff vs).1 hr
    exact ⟨hr, h, (rightB_iff _).2 ⟨by rw [shapes_length (shapes_foldl ws vs)]; exact h1, good_foldl h2 (chk_short h)⟩⟩
  · rw [if_neg hr] at h; exact absurd h (by decide)
theorem checkE_right {vs : List Vl} (h : rightB vs = true) (ws : List Wr) : checkE vs ws = chk vs ws := by unfold checkE; rw [if_pos h]
theorem applyV_ok {vs : List Vl} {ws : List Wr} (h : checkE vs ws = 0) : applyV vs ws = ws.foldl put1 vs := by unfold applyV; rw [if_pos h]
theorem applyV_no {vs : List Vl} {ws : List Wr} (h : checkE vs ws ≠ 0) : applyV vs ws = [] := by unfold applyV; rw [if_neg h]
end Go.Proofs.Ytkpoeigoocbgeaa

namespace Go.Proofs.Ytkpoeigoocbgeaa

theorem inB_iff' (bs : List ByteArray) (block : Int) : inB bs block = true ↔ 0 ≤ block ∧ block < bs.length := by simp [inB]
theorem inB_set (bs : List ByteArray) (j : Nat) (s : ByteArray) (block : Int) : inB (bs.set j s) block = inB bs block := by unfold inB; simp

/-- One write: the block that it names, and no other. -/
theorem got_put1 {vs : List Vl} {last : Int} (h : goodFrom last vs = true) {x : Wr} (hx : gotE vs x.vol x.block = 0) (vol block : Int) :
    gotS (put1 vs x) vol block = if x.vol = vol ∧ x.block = block then x.data else gotS vs vol block := by
  induction vs generalizing last with
  | nil => simp [gotE] at hx
  | cons v r ih =>
    obtain ⟨h1, h2, h3⟩ := (goodFrom_cons _ _ _).1 h
    by_cases hc : x.vol ≤ v.1
    · have e : findAt (v :: r) x.vol = 0 := by rw [findAt, if_pos hc]
      have hv : v.1 = x.vol := by
        by_cases hv : v.1 = x.vol
        · exact hv
        · rw [gotE, if_neg hv, (gotE_none (fun u hu => by have := goodFrom_lt h3 u hu; omega)).1] at hx
          exact absurd hx (by decide)
      have hin : inB v.2 x.block = true := by
        rw [gotE, if_pos hv] at hx
        by_cases hi : inB v.2 x.block = true
        · exact hi
        · rw [if_neg hi] at hx; exact absurd hx (by decide)
      have hb := (inB_iff' _ _).1 hin
      unfold put1
      rw [e, List.modify_zero_cons, gotS, gotS]
      simp only
      by_cases hvol : v.1 = vol
      · rw [if_pos hvol, if_pos hvol, inB_set]
        by_cases hbl : x.block = block
        · subst hbl
          rw [if_pos hin, if_pos ⟨by omega, rfl⟩, List.getD_eq_getElem?_getD, List.getElem?_set_self (by omega)]
          rfl
        · have hno : ¬ (x.vol = vol ∧ x.block = block) := fun hh => hbl hh.2
          rw [if_neg hno]
          by_cases hi : inB v.2 block = true
          · have hb2 := (inB_iff' _ _).1 hi
            rw [if_pos hi, if_pos hi, List.getD_eq_getElem?_getD, List.getElem?_set_ne (by omega), List.getD_eq_getElem?_getD]
          · rw [if_neg hi, if_neg hi]
      · have hno : ¬ (x.vol = vol ∧ x.block = block) := fun hh => hvol (by omega)
        rw [if_neg hvol, if_neg hvol, if_neg hno]
    · have e : put1 (v :: r) x = v :: put1 r x := by
        unfold put1
        rw [findAt, if_neg hc, List.modify_succ_cons]
      have hv : ¬ v.1 = x.vol := by omega
      rw [gotE, if_neg hv] at hx
      have := ih h3 hx
      rw [e, gotS, gotS, this]
      by_cases hvol : v.1 = vol
      · have hno : ¬ (x.vol = vol ∧ x.block = block) := fun hh => hv (by omega)
        rw [if_pos hvol, if_pos hvol, if_neg hno]
      · rw [if_neg hvol, if_neg hvol]

/-- What the last write to a block says, or what it had. -/
def lastD (ws : List Wr) (vol block : Int) (was : ByteArray) : ByteArray := ws.foldl (fun acc x => if x.vol = vol ∧ x.block = block then x.data else acc) was
def lastF : List Wr → Int → Int → Option ByteArray
  | [], _, _ => none
  | x :: r, vol, block => match lastF r vol block with
    | some d => some d
    | none => if x.vol = vol ∧ x.block = block then some x.data else none
theorem lastD_eq (ws : List Wr) (vol block : Int) (was : ByteArray) : lastD ws vol block was = (lastF ws vol block).getD was := by
  induction ws generalizing was with
  | nil => rfl
  | cons x r ih =>
    have e : lastD (x :: r) vol block was = lastD r vol block (if x.vol = vol ∧ x.block = block then x.data else was) := rfl
    rw [e, ih, lastF]
    cases lastF r vol block with
    | some d => rfl
    | none =>
      by_cases hh : x.vol = vol ∧ x.block = block
      · simp [hh]
      · simp [hh]
theorem lastF_snoc (ws : List Wr) (x : Wr) (vol block : Int) : lastF (ws ++ [x]) vol block = if x.vol = vol ∧ x.block = block then some x.data else lastF ws vol block := by
  induction ws with
  | nil => rfl
  | cons y r ih =>
    rw [List.cons_append, lastF, ih, lastF]
    by_cases hh : x.vol = vol ∧ x.block = block
    · rw [if_pos hh, if_pos hh]
    · rw [if_neg hh, if_neg hh]
theorem lastD_snoc (ws : List Wr) (x : Wr) (vol block : Int) (was : ByteArray) : lastD (ws ++ [x]) vol block was = if x.vol = vol ∧ x.block = block then x.data else lastD ws vol block was := by
  unfold lastD; rw [List.foldl_append]; rfl

theorem got_foldl {ws : List Wr} {vs : List Vl} {last : Int} (h : goodFrom last vs = true) (hc : chk vs ws = 0) (vol block : Int) : gotS (ws.foldl put1 vs) vol block = lastD ws vol block (gotS vs vol block) := by
  induction ws generalizing vs with
  | nil => rfl
  | cons x r ih =>
    have hx := chk_take (k := 0) hc (by simp)
    simp only [List.getElem_cons_zero] at hx
    have hr : chk vs r = 0 := by
      rw [chk, if_pos hx.1, if_pos hx.2] at hc
      exact hc
    have hr2 : chk (put1 vs x) r = 0 := by rw [chk_shapes (shapes_put1 vs x)]; exact hr
    rw [List.foldl_cons, ih (good_put1 h x hx.2) hr2, got_put1 h hx.1]
    rfl

/-- A block of a volume that is there. -/
theorem got_mem {vs : List Vl} {last : Int} (h : goodFrom last vs = true) {k : Nat} (hk : k < vs.length) {j : Nat} (hj : j < vs[k].2.length) : gotS vs vs[k].1 j = vs[k].2[j] ∧ gotE vs vs[k].1 j = 0 := by
  induction vs generalizing last k with
  | nil => simp at hk
  | cons v r ih =>
    obtain ⟨h1, h2, h3⟩ := (goodFrom_cons _ _ _).1 h
    cases k with
    | zero =>
      simp only [List.getElem_cons_zero] at hj ⊢
      rw [gotS, if_pos rfl, gotE, if_pos rfl, if_pos ((inB_iff' _ _).2 ⟨by omega, by omega⟩), if_pos ((inB_iff' _ _).2 ⟨by omega, by omega⟩), Int.toNat_natCast, List.getD_eq_getElem?_getD, List.getElem?_eq_getElem hj]
      exact ⟨rfl, rfl⟩
    | succ k =>
      simp only [List.getElem_cons_succ] at hj ⊢
      have hk' : k < r.length := by simpa using hk
      have hlt := goodFrom_lt h3 _ (List.getElem_mem hk')
      rw [gotS, if_neg (by omega), gotE, if_neg (by omega)]
      exact ih h3 hk' hj

/-- The document's answer: each block by the last write that names it. -/
def refB (ws : List Wr) (id : Int) (bs : List ByteArray) : List ByteArray := (List.range bs.length).map (fun (b : Nat) => (lastF ws id (b : Int)).getD (bs.getD b ByteArray.empty))
def refA (vs : List Vl) (ws : List Wr) : List Vl := vs.map (fun v => (v.1, refB ws v.1 v.2))

theorem refA_apply {vs : List Vl} {ws : List Wr} {last : Int} (h : goodFrom last vs = true) (hc : chk vs ws = 0) : ws.foldl put1 vs = refA vs ws := by
  have hsh := shapes_foldl ws vs
  have hg := good_foldl h (chk_short hc)
  have hlen := shapes_length hsh
  have hgot := got_foldl h hc
  generalize ws.foldl put1 vs = a at *
  apply List.ext_getElem
  · rw [hlen]; simp [refA]
  · intro i h1 h2
    have hv : i < vs.length := by omega
    have e : (shapes a)[i]? = (shapes vs)[i]? := by rw [hsh]
    simp only [shapes, List.getElem?_map, List.getElem?_eq_getElem h1, List.getElem?_eq_getElem hv, Option.map_some, Option.some.injEq, Prod.mk.injEq] at e
    simp only [refA, List.getElem_map]
    refine Prod.ext e.1 ?_
    apply List.ext_getElem
    · simp only [refB, List.length_map, List.length_range]; exact e.2
    · intro j g1 g2
      have hj : j < vs[i].2.length := by omega
      simp only [refB, List.getElem_map, List.getElem_range]
      rw [← (got_mem hg h1 g1).1, e.1, hgot, lastD_eq, (got_mem h hv hj).1, List.getD_eq_getElem?_getD (l := vs[i].2), List.getElem?_eq_getElem hj]
      rfl

theorem sizes_shapes {a b : List Vl} (h : shapes a = shapes b) : sizesOf a = sizesOf b := by
  have e : ∀ l : List Vl, sizesOf l = (shapes l).flatMap (fun p => [p.1, (p.2 : Int)]) := by
    intro l
    induction l with
    | nil => rfl
    | cons v r ih => simp only [sizesOf, shapes, List.flatMap_cons, List.map_cons] at ih ⊢; rw [ih]
  rw [e, e, h]

/-- What VolsStay asks. -/
theorem stay_all {vs : List Vl} {ws : List Wr} {vol block : Int} (h0 : checkE vs ws = 0) (h1 : gtE vs vol block = 0) :
    rightB vs = true ∧ rightB (applyV vs ws) = true ∧ gtE (applyV vs ws) vol block = 0 ∧ gtS (applyV vs ws) vol block = lastD ws vol block (gtS vs vol block) ∧ sizesV (applyV vs ws) = sizesV vs := by
  obtain ⟨hr, hc, hr2⟩ := right_apply h0
  have hg : goodFrom 0 vs = true := ((rightB_iff vs).1 hr).2
  have e := applyV_ok h0
  rw [e]
  unfold gtE at h1
  rw [if_pos hr] at h1
  refine ⟨hr, hr2, ?_, ?_, ?_⟩
  · unfold gtE; rw [if_pos hr2, gotE_shapes (shapes_foldl ws vs)]; exact h1
  · unfold gtS; rw [if_pos hr2, if_pos hr]; exact got_foldl hg hc vol block
  · unfold sizesV; rw [if_pos hr2, if_pos hr]; exact sizes_shapes (shapes_foldl ws vs)
end Go.Proofs.Ytkpoeigoocbgeaa

namespace Go.Proofs.Ytkpoeigoocbgeaa

/-- By volume, then block. -/
def ltW (a b : Wr) : Bool := decide (a.vol < b.vol ∨ a.vol = b.vol ∧ a.block < b.block)
theorem ltW_iff (a b : Wr) : ltW a b = true ↔ a.vol < b.vol ∨ a.vol = b.vol ∧ a.block < b.block := by simp [ltW]
theorem ltW_not (a b : Wr) : ltW a b = false ↔ ¬ (a.vol < b.vol ∨ a.vol = b.vol ∧ a.block < b.block) := by simp [ltW]
def keyIs (x : Wr) (vol block : Int) : Prop := x.vol = vol ∧ x.block = block
instance (x : Wr) (vol block : Int) : Decidable (keyIs x vol block) := inferInstanceAs (Decidable (x.vol = vol ∧ x.block = block))
theorem ltW_trans {a b c : Wr} (h1 : ltW a b = true) (h2 : ltW b c = true) : ltW a c = true := by
  rw [ltW_iff] at *; omega
theorem ltW_irr (a : Wr) : ltW a a = false := by rw [ltW_not]; omega
theorem ltW_total {a b : Wr} (h1 : ltW a b = false) (h2 : ltW b a = false) : a.vol = b.vol ∧ a.block = b.block := by
  rw [ltW_not] at *; omega

/-- Strictly in order. -/
def sortedW : List Wr → Prop
  | [] => True
  | x :: r => (∀ y ∈ r, ltW x y = true) ∧ sortedW r

theorem wr_ext {a b : Wr} (h1 : a.vol = b.vol) (h2 : a.block = b.block) (h3 : a.data = b.data) : a = b := by
  cases a; cases b; simp_all

theorem lastF_none {l : List Wr} {vol block : Int} (h : ∀ x ∈ l, ¬ (x.vol = vol ∧ x.block = block)) : lastF l vol block = none := by
  induction l with
  | nil => rfl
  | cons x r ih => rw [lastF, ih (fun y hy => h y (List.mem_cons_of_mem _ hy))]; simp only; rw [if_neg (h x List.mem_cons_self)]
theorem lastF_isSome {l : List Wr} {x : Wr} (h : x ∈ l) : (lastF l x.vol x.block).isSome = true := by
  induction l with
  | nil => cases h
  | cons y r ih =>
    rw [lastF]
    rcases List.mem_cons.1 h with rfl | h
    · cases lastF r x.vol x.block with
      | some d => rfl
      | none => simp
    · have := ih h
      cases hq : lastF r x.vol x.block with
      | some d => rfl
      | none => rw [hq] at this; exact absurd this (by simp)
theorem lastF_mem {l : List Wr} {vol block : Int} {d : ByteArray} (h : lastF l vol block = some d) : ⟨vol, block, d⟩ ∈ l := by
  induction l with
  | nil => simp [lastF] at h
  | cons x r ih =>
    rw [lastF] at h
    cases hq : lastF r vol block with
    | some e =>
      rw [hq] at h
      simp only [Option.some.injEq] at h
      subst h
      exact List.mem_cons_of_mem _ (ih hq)
    | none =>
      rw [hq] at h
      simp only at h
      by_cases hk : x.vol = vol ∧ x.block = block
      · rw [if_pos hk] at h
        simp only [Option.some.injEq] at h
        obtain ⟨rfl, rfl⟩ := hk
        subst h
        exact List.mem_cons_self
      · rw [if_neg hk] at h; exact absurd h (by simp)
theorem lastF_sorted {l : List Wr} (h : sortedW l) {x : Wr} (hx : x ∈ l) : lastF l x.vol x.block = some x.data := by
  induction l with
  | nil => cases hx
  | cons y r ih =>
    obtain ⟨h1, h2⟩ := h
    rw [lastF]
    rcases List.mem_cons.1 hx with rfl | hx
    · rw [lastF_none (fun z hz hk => by have := (ltW_iff _ _).1 (h1 z hz); omega)]
      simp
    · rw [ih h2 hx]

/-- Two lists in order that tell the same are the same. -/
theorem sorted_ext {a b : List Wr} (ha : sortedW a) (hb : sortedW b) (h : ∀ vol block, lastF a vol block = lastF b vol block) : a = b := by
  induction a generalizing b with
  | nil =>
    cases b with
    | nil => rfl
    | cons y r =>
      have := lastF_sorted hb (List.mem_cons_self (a := y) (l := r))
      rw [← h] at this
      simp [lastF] at this
  | cons x r ih =>
    cases b with
    | nil =>
      have := lastF_sorted ha (List.mem_cons_self (a := x) (l := r))
      rw [h] at this
      simp [lastF] at this
    | cons y s =>
      have hx := lastF_sorted ha (List.mem_cons_self (a := x) (l := r))
      have hy := lastF_sorted hb (List.mem_cons_self (a := y) (l := s))
      have hxb : (⟨x.vol, x.block, x.data⟩ : Wr) ∈ y :: s := lastF_mem (by rw [← h]; exact hx)
      have hya : (⟨y.vol, y.block, y.data⟩ : Wr) ∈ x :: r := lastF_mem (by rw [h]; exact hy)
      have hxy : x = y := by
        rcases List.mem_cons.1 hxb with e | e
        · exact e
        · rcases List.mem_cons.1 hya with e2 | e2
          · exact e2.symm
          · have h1 := (ltW_iff _ _).1 (hb.1 _ e)
            have h2 := (ltW_iff _ _).1 (ha.1 _ e2)
            simp only at h1 h2
            omega
      subst hxy
      congr 1
      refine ih ha.2 hb.2 (fun vol block => ?_)
      have := h vol block
      by_cases hk : x.vol = vol ∧ x.block = block
      · obtain ⟨rfl, rfl⟩ := hk
        rw [lastF_none (fun z hz hk => by have := (ltW_iff _ _).1 (ha.1 z hz); omega), lastF_none (fun z hz hk => by have := (ltW_iff _ _).1 (hb.1 z hz); omega)]
      · rw [lastF, lastF] at this
        cases h1 : lastF r vol block with
        | some d1 =>
          rw [h1] at this
          cases h2 : lastF s vol block with
          | some d2 => rw [h2] at this; exact this
          | none => rw [h2] at this; simp only at this; rw [if_neg hk] at this; exact absurd this (by simp)
        | none =>
          rw [h1] at this
          cases h2 : lastF s vol block with
          | some d2 => rw [h2] at this; simp only at this; rw [if_neg hk] at this; exact absurd this (by simp)
          | none => rfl

/-- A write is laid where it belongs. -/
def insW (x : Wr) : List Wr → List Wr
  | [] => [x]
  | y :: r => if ltW x y = true then x :: y :: r else if ltW y x = true then y :: insW x r else x :: r
def foldW (ws : List Wr) : List Wr := ws.foldl (fun acc x => insW x acc) []

theorem insW_mem {x z : Wr} {l : List Wr} (h : z ∈ insW x l) : z = x ∨ z ∈ l := by
  induction l with
  | nil => simp [insW] at h; exact Or.inl h
  | cons y r ih =>
    rw [insW] at h
    by_cases h1 : ltW x y = true
    · rw [if_pos h1] at h
      rcases List.mem_cons.1 h with h | h
      · exact Or.inl h
      · exact Or.inr h
    · rw [if_neg h1] at h
      by_cases h2 : ltW y x = true
      · rw [if_pos h2] at h
        rcases List.mem_cons.1 h with rfl | h
        · exact Or.inr List.mem_cons_self
        · rcases ih h with h | h
          · exact Or.inl h
          · exact Or.inr (List.mem_cons_of_mem _ h)
      · rw [if_neg h2] at h
        rcases List.mem_cons.1 h with h | h
        · exact Or.inl h
        · exact Or.inr (List.mem_cons_of_mem _ h)
theorem insW_sorted {x : Wr} {l : List Wr} (h : sortedW l) : sortedW (insW x l) := by
  induction l with
  | nil => exact ⟨by simp, trivial⟩
  | cons y r ih =>
    rw [insW]
    by_cases h1 : ltW x y = true
    · rw [if_pos h1]
      refine ⟨fun z hz => ?_, h⟩
      rcases List.mem_cons.1 hz with rfl | hz
      · exact h1
      · exact ltW_trans h1 (h.1 z hz)
    · rw [if_neg h1]
      by_cases h2 : ltW y x = true
      · rw [if_pos h2]
        refine ⟨fun z hz => ?_, ih h.2⟩
        rcases insW_mem hz with rfl | hz
        · exact h2
        · exact h.1 z hz
      · rw [if_neg h2]
        refine ⟨fun z hz => ?_, h.2⟩
        have h3 := ltW_total (by simpa using h1) (by simpa using h2)
        have := (ltW_iff _ _).1 (h.1 z hz)
        rw [ltW_iff]; omega
theorem insW_last {x : Wr} {l : List Wr} (h : sortedW l) (vol block : Int) : lastF (insW x l) vol block = if x.vol = vol ∧ x.block = block then some x.data else lastF l vol block := by
  have hs := insW_sorted (x := x) h
  by_cases hk : x.vol = vol ∧ x.block = block
  · rw [if_pos hk]
    obtain ⟨rfl, rfl⟩ := hk
    have : x ∈ insW x l := by
      clear h hs
      induction l with
      | nil => simp [insW]
      | cons y r ih =>
        rw [insW]
        split
        · exact List.mem_cons_self
        · split
          · exact List.mem_cons_of_mem _ ih
          · exact List.mem_cons_self
    exact lastF_sorted hs this
  · rw [if_neg hk]
    clear hs
    induction l with
    | nil => simp only [insW, lastF]; rw [if_neg hk]
    | cons y r ih =>
      rw [insW]
      by_cases h1 : ltW x y = true
      · rw [if_pos h1, lastF]
        cases hq : lastF (y :: r) vol block with
        | some d => rfl
        | none => simp only; rw [if_neg hk]
      · rw [if_neg h1]
        by_cases h2 : ltW y x = true
        · rw [if_pos h2, lastF, lastF, ih h.2]
        · rw [if_neg h2, lastF, lastF]
          have h3 := ltW_total (by simpa using h1) (by simpa using h2)
          cases hq : lastF r vol block with
          | some d => rfl
          | none => simp only; rw [if_neg hk, if_neg (by omega)]

theorem foldW_snoc (ws : List Wr) (x : Wr) : foldW (ws ++ [x]) = insW x (foldW ws) := by unfold foldW; rw [List.foldl_append]; rfl
theorem snoc_ind {P : List Wr → Prop} (h0 : P []) (h1 : ∀ l x, P l → P (l ++ [x])) : ∀ l, P l := by
  intro l
  have : ∀ n (l : List Wr), l.length = n → P l := by
    intro n
    induction n with
    | zero => intro l hl; rw [List.eq_nil_of_length_eq_zero hl]; exact h0
    | succ n ih =>
      intro l hl
      have hne : l ≠ [] := by intro e; subst e; simp at hl
      rw [← List.dropLast_concat_getLast hne]
      exact h1 _ _ (ih _ (by rw [List.length_dropLast]; omega))
  exact this l.length l rfl
theorem foldW_sorted (ws : List Wr) : sortedW (foldW ws) := by
  refine snoc_ind (P := fun ws => sortedW (foldW ws)) trivial (fun l x h => ?_) ws
  show sortedW (foldW (l ++ [x])); rw [foldW_snoc]; exact insW_sorted h
theorem foldW_last (ws : List Wr) (vol block : Int) : lastF (foldW ws) vol block = lastF ws vol block := by
  refine snoc_ind (P := fun ws => lastF (foldW ws) vol block = lastF ws vol block) rfl (fun l x h => ?_) ws
  show lastF (foldW (l ++ [x])) vol block = _
  rw [foldW_snoc, insW_last (foldW_sorted l), lastF_snoc, h]
theorem foldW_of {l ws : List Wr} (h : sortedW l) (hl : ∀ vol block, lastF l vol block = lastF ws vol block) : l = foldW ws := sorted_ext h (foldW_sorted ws) (fun v b => by rw [hl, foldW_last])
theorem foldW_self {l : List Wr} (h : sortedW l) : foldW l = l := (foldW_of h (fun _ _ => rfl)).symm
theorem foldW_twice (ws : List Wr) : foldW (foldW ws) = foldW ws := foldW_self (foldW_sorted ws)
theorem foldW_mem {ws : List Wr} {x : Wr} (h : x ∈ foldW ws) : x ∈ ws := by
  have := lastF_sorted (foldW_sorted ws) h
  rw [foldW_last] at this
  exact lastF_mem this
theorem lastF_append (a b : List Wr) (vol block : Int) : lastF (a ++ b) vol block = match lastF b vol block with | some d => some d | none => lastF a vol block := by
  induction a with
  | nil => rw [List.nil_append]; cases lastF b vol block <;> rfl
  | cons x a ih =>
    rw [List.cons_append, lastF, ih, lastF]
    cases lastF b vol block <;> rfl
theorem foldW_merge (a b : List Wr) : foldW (foldW a ++ foldW b) = foldW (a ++ b) := by
  refine foldW_of (foldW_sorted _) (fun v k => ?_)
  rw [foldW_last, lastF_append, lastF_append, foldW_last, foldW_last]
theorem insW_len (x : Wr) (l : List Wr) : (insW x l).length ≤ l.length + 1 := by
  induction l with
  | nil => simp [insW]
  | cons y r ih =>
    rw [insW]
    split
    · simp
    · split
      · simp; omega
      · simp
theorem foldW_len (ws : List Wr) : (foldW ws).length ≤ ws.length := by
  refine snoc_ind (P := fun ws => (foldW ws).length ≤ ws.length) (Nat.le_refl _) (fun l x h => ?_) ws
  show (foldW (l ++ [x])).length ≤ _
  rw [foldW_snoc, List.length_append]
  have := insW_len x (foldW l)
  simp; omega

/-- What writes take. -/
def bytesW (ws : List Wr) : Nat := (ws.map (fun x => 8 + x.data.size)).sum
theorem bytesW_snoc (ws : List Wr) (x : Wr) : bytesW (ws ++ [x]) = bytesW ws + (8 + x.data.size) := by simp [bytesW]
theorem bytesW_cons (x : Wr) (ws : List Wr) : bytesW (x :: ws) = (8 + x.data.size) + bytesW ws := by simp [bytesW]
theorem insW_bytes (x : Wr) (l : List Wr) : bytesW (insW x l) ≤ bytesW l + (8 + x.data.size) := by
  induction l with
  | nil => simp [insW, bytesW]
  | cons y r ih =>
    rw [insW]
    split
    · rw [bytesW_cons, bytesW_cons]; omega
    · split
      · rw [bytesW_cons, bytesW_cons]; omega
      · rw [bytesW_cons, bytesW_cons]; omega
theorem foldW_bytes (ws : List Wr) : bytesW (foldW ws) ≤ bytesW ws := by
  refine snoc_ind (P := fun ws => bytesW (foldW ws) ≤ bytesW ws) (Nat.le_refl _) (fun l x h => ?_) ws
  show bytesW (foldW (l ++ [x])) ≤ _
  rw [foldW_snoc, bytesW_snoc]
  have := insW_bytes x (foldW l)
  omega

/-! ### Volumes behind folded writes -/

theorem chk_mem {vs : List Vl} {ws : List Wr} (h : chk vs ws = 0) {x : Wr} (hx : x ∈ ws) : gotE vs x.vol x.block = 0 ∧ shortB x.data = true := by
  obtain ⟨i, hi, rfl⟩ := List.getElem_of_mem hx
  exact chk_take h hi
theorem chk_of {vs : List Vl} {ws : List Wr} (h : ∀ x ∈ ws, gotE vs x.vol x.block = 0 ∧ shortB x.data = true) : chk vs ws = 0 := by
  induction ws with
  | nil => rfl
  | cons x r ih => rw [chk, if_pos (h x List.mem_cons_self).1, if_pos (h x List.mem_cons_self).2]; exact ih (fun y hy => h y (List.mem_cons_of_mem _ hy))
theorem refA_congr {vs : List Vl} {a b : List Wr} (h : ∀ vol block, lastF a vol block = lastF b vol block) : refA vs a = refA vs b := by
  unfold refA refB
  congr 1
  funext v
  congr 2
  funext k
  rw [h]
theorem fold_does {vs : List Vl} {ws : List Wr} (h : checkE vs ws = 0) : checkE vs (foldW ws) = 0 ∧ applyV vs (foldW ws) = applyV vs ws := by
  obtain ⟨hr, hc, _⟩ := right_apply h
  have hg : goodFrom 0 vs = true := ((rightB_iff vs).1 hr).2
  have hc2 : chk vs (foldW ws) = 0 := chk_of (fun x hx => chk_mem hc (foldW_mem hx))
  have h2 : checkE vs (foldW ws) = 0 := by rw [checkE_right hr]; exact hc2
  refine ⟨h2, ?_⟩
  rw [applyV_ok h, applyV_ok h2, refA_apply hg hc, refA_apply hg hc2]
  exact refA_congr (fun v b => foldW_last ws v b)

/-! ### What blocks hold, put back -/

/-- Marks: volume and block. -/
def marksW (ws : List Wr) : List (Int × Int) := (foldW ws).map (fun x => (x.vol, x.block))
/-- The error of the first mark that is none. -/
def pickE (vs : List Vl) : List (Int × Int) → Int
  | [] => 0
  | m :: r => if gotE vs m.1 m.2 = 0 then pickE vs r else gotE vs m.1 m.2
def pickL (vs : List Vl) (ms : List (Int × Int)) : List Wr := ms.map (fun m => ⟨m.1, m.2, gotS vs m.1 m.2⟩)
def pickEr (vs : List Vl) (ms : List (Int × Int)) : Int := if rightB vs = true then pickE vs ms else 1
def pickV (vs : List Vl) (ms : List (Int × Int)) : List Wr := if pickEr vs ms = 0 then pickL vs ms else []
theorem pickE_of {vs : List Vl} {ms : List (Int × Int)} (h : ∀ m ∈ ms, gotE vs m.1 m.2 = 0) : pickE vs ms = 0 := by
  induction ms with
  | nil => rfl
  | cons m r ih => rw [pickE, if_pos (h m List.mem_cons_self)]; exact ih (fun y hy => h y (List.mem_cons_of_mem _ hy))
theorem gotE_index {vs : List Vl} {last : Int} (hg : goodFrom last vs = true) {vol block : Int} (h : gotE vs vol block = 0) : ∃ (k : Nat) (hk : k < vs.length) (j : Nat) (_hj : j < vs[k].2.length), vs[k].1 = vol ∧ (j : Int) = block := by
  induction vs generalizing last with
  | nil => simp [gotE] at h
  | cons v r ih =>
    obtain ⟨h1, h2, h3⟩ := (goodFrom_cons _ _ _).1 hg
    rw [gotE] at h
    by_cases hv : v.1 = vol
    · rw [if_pos hv] at h
      by_cases hi : inB v.2 block = true
      · have := (inB_iff' _ _).1 hi
        exact ⟨0, by simp, block.toNat, by simp; omega, by simpa using hv, by omega⟩
      · rw [if_neg hi] at h; exact absurd h (by decide)
    · rw [if_neg hv] at h
      obtain ⟨k, hk, j, hj, e1, e2⟩ := ih h3 h
      exact ⟨k + 1, by simpa using hk, j, by simpa using hj, by simpa using e1, e2⟩
theorem gotS_short {vs : List Vl} {last : Int} (hg : goodFrom last vs = true) {vol block : Int} (h : gotE vs vol block = 0) : shortB (gotS vs vol block) = true := by
  obtain ⟨k, hk, j, hj, rfl, rfl⟩ := gotE_index hg h
  rw [(got_mem hg hk hj).1]
  have := ((volOk_iff _).1 (goodFrom_ok hg _ (List.getElem_mem hk))).2 _ (List.getElem_mem hj)
  simpa [shortB] using this

/-- Put back over volumes that differ in these blocks alone: the volumes. -/
theorem put_back {vs ot : List Vl} {l : List Wr} (hg : goodFrom 0 vs = true) (hgo : goodFrom 0 ot = true) (hsh : shapes ot = shapes vs)
    (hl : ∀ x ∈ l, gotE vs x.vol x.block = 0 ∧ x.data = gotS vs x.vol x.block)
    (ho : ∀ vol block, lastF l vol block = none → gotS ot vol block = gotS vs vol block) : chk ot l = 0 ∧ l.foldl put1 ot = vs := by
  have hc : chk ot l = 0 := chk_of (fun x hx => by
    obtain ⟨h1, h2⟩ := hl x hx
    exact ⟨by rw [gotE_shapes hsh]; exact h1, by rw [h2]; exact gotS_short hg h1⟩)
  refine ⟨hc, ?_⟩
  rw [refA_apply hgo hc]
  apply List.ext_getElem
  · simp [refA, shapes_length hsh]
  · intro i h1 h2
    have hi : i < ot.length := by simpa [refA] using h1
    have e : (shapes ot)[i]? = (shapes vs)[i]? := by rw [hsh]
    simp only [shapes, List.getElem?_map, List.getElem?_eq_getElem hi, List.getElem?_eq_getElem h2, Option.map_some, Option.some.injEq, Prod.mk.injEq] at e
    simp only [refA, List.getElem_map]
    refine Prod.ext e.1 ?_
    apply List.ext_getElem
    · simp only [refB, List.length_map, List.length_range]; exact e.2
    · intro j g1 g2
      have hj : j < ot[i].2.length := by simpa [refB] using g1
      simp only [refB, List.getElem_map, List.getElem_range]
      rw [e.1]
      cases hq : lastF l vs[i].1 (j : Int) with
      | some d =>
        obtain ⟨h3, h4⟩ := hl _ (lastF_mem hq)
        simp only at h4
        rw [Option.getD_some, h4, (got_mem hg h2 g2).1]
      | none =>
        have h5 := ho _ _ hq
        have h6 : gotS ot vs[i].1 (j : Int) = ot[i].2[j] := by rw [← e.1]; exact (got_mem hgo hi hj).1
        rw [Option.getD_none, List.getD_eq_getElem?_getD, List.getElem?_eq_getElem hj, Option.getD_some, ← h6, h5, (got_mem hg h2 g2).1]

/-- What FoldTakes asks. -/
theorem fold_takes {vs : List Vl} {ws : List Wr} (h : checkE vs ws = 0) :
    pickEr vs (marksW ws) = 0 ∧ checkE vs (pickV vs (marksW ws)) = 0 ∧ applyV vs (pickV vs (marksW ws)) = vs ∧ checkE (applyV vs ws) (pickV vs (marksW ws)) = 0 ∧ applyV (applyV vs ws) (pickV vs (marksW ws)) = vs := by
  obtain ⟨hr, hc, hr2⟩ := right_apply h
  have hg : goodFrom 0 vs = true := ((rightB_iff vs).1 hr).2
  have hgo : goodFrom 0 (ws.foldl put1 vs) = true := ((rightB_iff _).1 hr2).2
  have hm : ∀ m ∈ marksW ws, gotE vs m.1 m.2 = 0 := fun m hm => by
    obtain ⟨x, hx, rfl⟩ := List.mem_map.1 hm
    exact (chk_mem hc (foldW_mem hx)).1
  have he : pickEr vs (marksW ws) = 0 := by unfold pickEr; rw [if_pos hr]; exact pickE_of hm
  have hv : pickV vs (marksW ws) = pickL vs (marksW ws) := by unfold pickV; rw [if_pos he]
  have hl : ∀ x ∈ pickL vs (marksW ws), gotE vs x.vol x.block = 0 ∧ x.data = gotS vs x.vol x.block := fun x hx => by
    obtain ⟨m, hm2, rfl⟩ := List.mem_map.1 hx
    exact ⟨hm m hm2, rfl⟩
  have hkey : ∀ vol block, lastF (pickL vs (marksW ws)) vol block = none → lastF ws vol block = none := fun vol block hn => by
    rw [← foldW_last]
    refine lastF_none (fun x hx hk => ?_)
    have : (⟨x.vol, x.block, gotS vs x.vol x.block⟩ : Wr) ∈ pickL vs (marksW ws) := List.mem_map.2 ⟨(x.vol, x.block), List.mem_map.2 ⟨x, hx, rfl⟩, rfl⟩
    have h2 := lastF_isSome this
    simp only at h2
    rw [hk.1, hk.2, hn] at h2
    exact absurd h2 (by simp)
  obtain ⟨a1, a2⟩ := put_back (ot := vs) hg hg rfl hl (fun _ _ _ => rfl)
  obtain ⟨b1, b2⟩ := put_back (ot := ws.foldl put1 vs) hg hgo (shapes_foldl ws vs) hl (fun vol block hn => by rw [got_foldl hg hc, lastD_eq, hkey vol block hn]; rfl)
  rw [hv, applyV_ok h]
  have c1 : checkE vs (pickL vs (marksW ws)) = 0 := by rw [checkE_right hr]; exact a1
  have c2 : checkE (ws.foldl put1 vs) (pickL vs (marksW ws)) = 0 := by rw [checkE_right hr2]; exact b1
  refine ⟨he, c1, ?_, c2, ?_⟩
  · rw [applyV_ok c1]; exact a2
  · rw [applyV_ok c2]; exact b2
end Go.Proofs.Ytkpoeigoocbgeaa
