/- The document's put, plain: volumes by going through all IDs are the volumes. No program in sight. -/
import Derived.Test.YtphmemopabgaeaaVolX
import Derived.Test.YtphmemopabgaeaaVolW
namespace Go.Proofs.Ytphmemopabgaeaa

def lookB : List Vl → Int → Option (List ByteArray)
  | [], _ => none
  | v :: r, k => if v.1 = k then some v.2 else lookB r k
def szF (vs : List Vl) (k : Int) : Nat := vs.foldl (fun acc v => if v.1 = k then v.2.length else acc) 0
def sizeAt (vs : List Vl) (id : Int) (n : Nat) (k : Nat) : Nat := if (k : Int) = id then n else szF vs k
def putF (vs : List Vl) (id : Int) (n : Nat) (k : Nat) : Option (List ByteArray) := if sizeAt vs id n k = 0 then none else some ((List.range (sizeAt vs id n k)).map (fun (b : Nat) => gotS vs k b))
def oneV (k : Nat) (o : Option (List ByteArray)) : List Vl := match o with
  | some bs => [((k : Int), bs)]
  | none => []
def bldS (f : Nat → Option (List ByteArray)) : Nat → List Vl
  | 0 => []
  | c + 1 => bldS f c ++ oneV (c + 1) (f (c + 1))
def putV (vs : List Vl) (id : Int) (n : Nat) : List Vl := bldS (putF vs id n) 255

theorem szF_snoc (vs : List Vl) (v : Vl) (k : Int) : szF (vs ++ [v]) k = if v.1 = k then v.2.length else szF vs k := by
  unfold szF; rw [List.foldl_append]; rfl
theorem bldS_congr {f g : Nat → Option (List ByteArray)} {c : Nat} (h : ∀ k, 1 ≤ k → k ≤ c → f k = g k) : bldS f c = bldS g c := by
  induction c with
  | zero => rfl
  | succ c ih => rw [bldS, bldS, ih (fun k h1 h2 => h k h1 (by omega)), h (c + 1) (by omega) (Nat.le_refl _)]

theorem look_none {vs : List Vl} {k : Int} (h : ∀ v ∈ vs, v.1 ≠ k) : lookB vs k = none := by
  induction vs with
  | nil => rfl
  | cons v r ih => rw [lookB, if_neg (h v List.mem_cons_self), ih (fun u hu => h u (List.mem_cons_of_mem _ hu))]
theorem filter_none {vs : List Vl} {last c : Int} (h : goodFrom last vs = true) (hc : c ≤ last) : vs.filter (fun v => decide (v.1 ≤ c)) = [] := by
  rw [List.filter_eq_nil_iff]
  intro v hv
  have := goodFrom_lt h v hv
  simp; omega
theorem filter_snoc {vs : List Vl} {last : Int} (h : goodFrom last vs = true) (c : Nat) : vs.filter (fun v => decide (v.1 ≤ ((c + 1 : Nat) : Int))) = vs.filter (fun v => decide (v.1 ≤ (c : Int))) ++ oneV (c + 1) (lookB vs ((c + 1 : Nat) : Int)) := by
  induction vs generalizing last with
  | nil => rfl
  | cons v r ih =>
    obtain ⟨h1, h2, h3⟩ := (goodFrom_cons _ _ _).1 h
    by_cases hc : v.1 ≤ (c : Int)
    · rw [List.filter_cons_of_pos (by simp; omega), List.filter_cons_of_pos (by simpa using hc), ih h3, lookB, if_neg (by omega)]
      rfl
    · by_cases he : v.1 = ((c + 1 : Nat) : Int)
      · rw [List.filter_cons_of_pos (by simp; omega), List.filter_cons_of_neg (by simpa using hc), filter_none h3 (by omega), filter_none h3 (by omega), lookB, if_pos he]
        simp only [oneV, List.nil_append]
        rw [← he]
      · rw [List.filter_cons_of_neg (by simp; omega), List.filter_cons_of_neg (by simpa using hc), filter_none h3 (by omega), filter_none h3 (by omega), lookB, if_neg he, look_none (fun u hu => by have := goodFrom_lt h3 u hu; omega)]
        rfl
/-- Volumes by going through all IDs. -/
theorem bldS_look {vs : List Vl} (h : goodFrom 0 vs = true) : bldS (lookB vs ∘ (fun (k : Nat) => (k : Int))) 255 = vs := by
  have key : ∀ c : Nat, bldS (lookB vs ∘ (fun (k : Nat) => (k : Int))) c = vs.filter (fun v => decide (v.1 ≤ (c : Int))) := by
    intro c
    induction c with
    | zero => rw [bldS, filter_none h (by simp)]
    | succ c ih => rw [bldS, ih, filter_snoc h c]; rfl
  rw [key, List.filter_eq_self]
  intro v hv
  have := (volOk_iff v).1 (goodFrom_ok h v hv)
  simp; omega

theorem look_mem {vs : List Vl} {last : Int} (h : goodFrom last vs = true) {i : Nat} (hi : i < vs.length) : lookB vs vs[i].1 = some vs[i].2 := by
  induction vs generalizing last i with
  | nil => simp at hi
  | cons v r ih =>
    obtain ⟨h1, h2, h3⟩ := (goodFrom_cons _ _ _).1 h
    cases i with
    | zero => simp only [List.getElem_cons_zero]; rw [lookB, if_pos rfl]
    | succ i =>
      simp only [List.getElem_cons_succ]
      have hi' : i < r.length := by simpa using hi
      have := goodFrom_lt h3 _ (List.getElem_mem hi')
      rw [lookB, if_neg (by omega)]
      exact ih h3 hi'
theorem look_cases {vs : List Vl} {last : Int} (h : goodFrom last vs = true) (k : Int) : (lookB vs k = none ∧ hasAt vs k = false ∧ szF vs k = 0 ∧ ∀ b, gotS vs k b = ByteArray.empty) ∨ (∃ bs, lookB vs k = some bs ∧ hasAt vs k = true ∧ szF vs k = bs.length ∧ 1 ≤ bs.length ∧ (∀ b : Int, gotS vs k b = if inB bs b = true then bs.getD b.toNat ByteArray.empty else ByteArray.empty) ∧ ∃ hk : findAt vs k < vs.length, vs[findAt vs k]'hk = (k, bs)) := by
  have hsz : ∀ (l : List Vl) (acc : Nat), (∀ v ∈ l, v.1 ≠ k) → l.foldl (fun acc v => if v.1 = k then v.2.length else acc) acc = acc := by
    intro l
    induction l with
    | nil => intro acc _; rfl
    | cons v r ih => intro acc hl; rw [List.foldl_cons, if_neg (hl v List.mem_cons_self), ih acc (fun u hu => hl u (List.mem_cons_of_mem _ hu))]
  induction vs generalizing last with
  | nil => exact .inl ⟨rfl, rfl, rfl, fun _ => rfl⟩
  | cons v r ih =>
    obtain ⟨h1, h2, h3⟩ := (goodFrom_cons _ _ _).1 h
    by_cases he : v.1 = k
    · have hr : ∀ u ∈ r, u.1 ≠ k := fun u hu => by have := goodFrom_lt h3 u hu; omega
      refine .inr ⟨v.2, by rw [lookB, if_pos he], ?_, ?_, ?_, fun b => by rw [gotS, if_pos he], ?_⟩
      · rw [hasAt, if_pos (by omega)]; simpa using he
      · unfold szF; rw [List.foldl_cons, if_pos he, hsz r _ hr]
      · have := (volOk_iff v).1 h2; omega
      · have e : findAt (v :: r) k = 0 := by rw [findAt, if_pos (by omega)]
        exact ⟨by rw [e]; simp, by simp only [e, List.getElem_cons_zero]; rw [← he]⟩
    · have hstep : szF (v :: r) k = szF r k := by unfold szF; rw [List.foldl_cons, if_neg he]
      rcases ih h3 with ⟨g1, g2, g3, g4⟩ | ⟨bs, g1, g2, g3, g4, g5, g6, g7⟩
      · refine .inl ⟨by rw [lookB, if_neg he]; exact g1, ?_, by rw [hstep]; exact g3, fun b => by rw [gotS, if_neg he]; exact g4 b⟩
        rw [hasAt]
        by_cases hc : k ≤ v.1
        · rw [if_pos hc]; simpa using he
        · rw [if_neg hc]; exact g2
      · have hgt : v.1 < k := by
          have := goodFrom_lt h3 _ (List.getElem_mem g6)
          rw [g7] at this
          exact this
        have e : findAt (v :: r) k = findAt r k + 1 := by rw [findAt, if_neg (by omega)]
        refine .inr ⟨bs, by rw [lookB, if_neg he]; exact g1, by rw [hasAt, if_neg (by omega)]; exact g2, by rw [hstep]; exact g3, g4, fun b => by rw [gotS, if_neg he]; exact g5 b, ?_⟩
        exact ⟨by rw [e]; simpa using g6, by simp only [e, List.getElem_cons_succ]; exact g7⟩

theorem range_blocks (bs : List ByteArray) : (List.range bs.length).map (fun (b : Nat) => if inB bs (b : Int) = true then bs.getD (b : Int).toNat ByteArray.empty else ByteArray.empty) = bs := by
  apply List.ext_getElem
  · simp
  · intro i h1 h2
    simp only [List.getElem_map, List.getElem_range]
    rw [if_pos ((inB_iff' _ _).2 ⟨by omega, by omega⟩), Int.toNat_natCast, List.getD_eq_getElem?_getD, List.getElem?_eq_getElem h2]
    rfl
theorem range_resized (bs : List ByteArray) (n : Nat) : (List.range n).map (fun (b : Nat) => if inB bs (b : Int) = true then bs.getD (b : Int).toNat ByteArray.empty else ByteArray.empty) = resized bs n := by
  apply List.ext_getElem
  · simp [resized_len]
  · intro i h1 h2
    have hi : i < n := by simpa using h1
    simp only [List.getElem_map, List.getElem_range, resized]
    by_cases hc : i < bs.length
    · rw [if_pos ((inB_iff' _ _).2 ⟨by omega, by omega⟩), Int.toNat_natCast, List.getD_eq_getElem?_getD, List.getElem?_eq_getElem hc, List.getElem_append_left (by rw [List.length_take]; omega), List.getElem_take]
      rfl
    · rw [if_neg (fun hh => hc (by have := (inB_iff' _ _).1 hh; omega)), List.getElem_append_right (by rw [List.length_take]; omega)]
      simp [blankB]
theorem range_blank (n : Nat) : (List.range n).map (fun (_ : Nat) => ByteArray.empty) = blankB n := by
  apply List.ext_getElem
  · simp [blankB]
  · intro i h1 h2; simp [blankB]

/-- An ID that is not the one: as it was. -/
theorem putF_other {vs : List Vl} (h : goodFrom 0 vs = true) {id : Int} {n k : Nat} (hk : (k : Int) ≠ id) : putF vs id n k = lookB vs k := by
  have e : sizeAt vs id n k = szF vs k := by unfold sizeAt; rw [if_neg hk]
  unfold putF
  rw [e]
  rcases look_cases h (k : Int) with ⟨g1, _, g3, _⟩ | ⟨bs, g1, _, g3, g4, g5, _⟩
  · rw [if_pos g3, g1]
  · rw [if_neg (by omega), g1, g3]
    congr 1
    have : (fun (b : Nat) => gotS vs (k : Int) (b : Int)) = fun (b : Nat) => if inB bs (b : Int) = true then bs.getD (b : Int).toNat ByteArray.empty else ByteArray.empty := by funext b; exact g5 b
    rw [this, range_blocks]

theorem look_append (a b : List Vl) (k : Int) : lookB (a ++ b) k = match lookB a k with | some x => some x | none => lookB b k := by
  induction a with
  | nil => rfl
  | cons v r ih =>
    rw [List.cons_append, lookB, lookB]
    by_cases h : v.1 = k
    · rw [if_pos h, if_pos h]
    · rw [if_neg h, if_neg h, ih]

theorem put_add {vs : List Vl} {id n : Int} (h : addE vs id n = 0) : putV vs id n.toNat = addV vs id n := by
  obtain ⟨hr, hr2, _, _, _⟩ := add_undo h
  have hg := goodB hr
  have hv : addV vs id n = vs.take (findAt vs id) ++ (id, blankB n.toNat) :: vs.drop (findAt vs id) := by unfold addV; rw [if_pos h]
  have hn : 1 ≤ n ∧ hasAt vs id = false := by
    unfold addE at h
    by_cases h1 : rightB vs = true ∧ shapeB id n = true
    · rw [if_pos h1] at h
      have := (shapeB_iff _ _).1 h1.2
      refine ⟨by omega, ?_⟩
      by_cases h2 : hasAt vs id = true
      · rw [if_pos h2] at h; exact absurd h (by decide)
      · simpa using h2
    · rw [if_neg h1] at h; exact absurd h (by decide)
  rw [← bldS_look (goodB hr2)]
  unfold putV
  refine bldS_congr (fun k _ _ => ?_)
  show putF vs id n.toNat k = lookB (addV vs id n) k
  have hsplit : lookB vs k = match lookB (vs.take (findAt vs id)) k with | some x => some x | none => lookB (vs.drop (findAt vs id)) k := by rw [← look_append, List.take_append_drop]
  rcases look_cases hg id with ⟨g1, _, _, g4⟩ | ⟨bs, _, g2, _⟩
  · rw [hv, look_append, lookB]
    by_cases hk : (k : Int) = id
    · have hnone : lookB (vs.take (findAt vs id)) k = none := by
        rw [hk, g1] at hsplit
        rw [hk]
        cases hq : lookB (vs.take (findAt vs id)) id with
        | none => rfl
        | some x => rw [hq] at hsplit; exact absurd hsplit (by simp)
      rw [hnone]
      simp only
      rw [if_pos hk.symm]
      unfold putF sizeAt
      rw [if_pos hk, if_neg (by omega)]
      congr 1
      rw [← range_blank]
      congr 1
      funext b
      rw [hk]; exact g4 b
    · rw [putF_other hg hk, hsplit, if_neg (fun e => hk e.symm)]
  · rw [hn.2] at g2; exact absurd g2 (by simp)

theorem take_ne {vs : List Vl} (hg : goodFrom 0 vs = true) (id : Int) : ∀ v ∈ vs.take (findAt vs id), v.1 ≠ id := by
  intro v hv e
  obtain ⟨i, hi, rfl⟩ := List.getElem_of_mem hv
  rw [List.length_take] at hi
  rw [List.getElem_take] at e
  have := (findAt_here hg (k := i) (by omega)).1
  rw [e] at this
  omega
theorem drop_ne {vs : List Vl} (hg : goodFrom 0 vs = true) (id : Int) : ∀ v ∈ vs.drop (findAt vs id + 1), v.1 ≠ id := by
  intro v hv e
  obtain ⟨i, hi, rfl⟩ := List.getElem_of_mem hv
  rw [List.length_drop] at hi
  rw [List.getElem_drop] at e
  have := (findAt_here hg (k := findAt vs id + 1 + i) (by omega)).1
  rw [e] at this
  omega
theorem good_erase {vs : List Vl} {last : Int} (h : goodFrom last vs = true) (p : Nat) : goodFrom last (vs.take p ++ vs.drop (p + 1)) = true := by
  induction vs generalizing last p with
  | nil => simp [goodFrom]
  | cons v r ih =>
    obtain ⟨h1, h2, h3⟩ := (goodFrom_cons _ _ _).1 h
    cases p with
    | zero => simp only [List.take_zero, List.nil_append, List.drop_succ_cons, List.drop_zero]; exact goodFrom_less h3 (by omega)
    | succ p =>
      simp only [List.take_succ_cons, List.drop_succ_cons, List.cons_append]
      exact (goodFrom_cons _ _ _).2 ⟨h1, h2, ih h3 p⟩

theorem put_drop {vs : List Vl} {id : Int} (h : dropE vs id = 0) : rightB (dropV vs id) = true ∧ putV vs id 0 = dropV vs id := by
  have hh := h
  unfold dropE at hh
  by_cases hr : rightB vs = true
  · rw [if_pos hr] at hh
    by_cases h2 : hasAt vs id = true
    · have hg := goodB hr
      have hlt := hasAt_lt h2
      have hv : dropV vs id = vs.take (findAt vs id) ++ vs.drop (findAt vs id + 1) := by unfold dropV; rw [if_pos h]
      have hr2 : rightB (dropV vs id) = true := (rightB_iff _).2 ⟨by rw [hv]; have := ((rightB_iff vs).1 hr).1; simp; omega, by rw [hv]; exact good_erase hg _⟩
      refine ⟨hr2, ?_⟩
      rw [← bldS_look (goodB hr2)]
      unfold putV
      refine bldS_congr (fun k _ _ => ?_)
      show putF vs id 0 k = lookB (dropV vs id) k
      rw [hv, look_append]
      by_cases hk : (k : Int) = id
      · rw [hk, look_none (take_ne hg id), look_none (drop_ne hg id)]
        unfold putF sizeAt
        rw [if_pos hk, if_pos rfl]
      · rw [putF_other hg hk]
        have hsplit : lookB vs k = lookB (vs.take (findAt vs id) ++ vs[findAt vs id] :: vs.drop (findAt vs id + 1)) k := by rw [← List.drop_eq_getElem_cons hlt, List.take_append_drop]
        rw [hsplit, look_append, lookB, if_neg (by rw [hasAt_id h2]; exact fun e => hk e.symm)]
    · rw [if_neg h2] at hh; exact absurd hh (by decide)
  · rw [if_neg hr] at hh; exact absurd hh (by decide)

theorem put_res {vs : List Vl} {id n : Int} (h : resE vs id n = 0) : putV vs id n.toNat = resV vs id n := by
  obtain ⟨hr, n1, n2, hlt, hid, hv, hr2⟩ := res_ok h
  have hg := goodB hr
  rw [← bldS_look (goodB hr2)]
  unfold putV
  refine bldS_congr (fun k _ _ => ?_)
  show putF vs id n.toNat k = lookB (resV vs id n) k
  have hset : resV vs id n = vs.take (findAt vs id) ++ (id, resized vs[findAt vs id].2 n.toNat) :: vs.drop (findAt vs id + 1) := by rw [hv, List.set_eq_take_append_cons_drop, if_pos hlt]
  rw [hset, look_append, lookB]
  by_cases hk : (k : Int) = id
  · rw [hk, look_none (take_ne hg id)]
    simp only [if_pos]
    unfold putF sizeAt
    rw [if_pos hk, if_neg (by omega)]
    congr 1
    rcases look_cases hg id with ⟨_, g2, _, _⟩ | ⟨bs, _, _, _, _, g5, _, g7⟩
    · have := (findAt_here hg hlt).2
      rw [hid, g2] at this
      exact absurd this (by simp)
    · rw [g7]
      have : (fun (b : Nat) => gotS vs (k : Int) (b : Int)) = fun (b : Nat) => if inB bs (b : Int) = true then bs.getD (b : Int).toNat ByteArray.empty else ByteArray.empty := by funext b; rw [hk]; exact g5 b
      rw [this, range_resized]
  · rw [putF_other hg hk, if_neg (fun e => hk e.symm)]
    have hsplit : lookB vs k = lookB (vs.take (findAt vs id) ++ vs[findAt vs id] :: vs.drop (findAt vs id + 1)) k := by rw [← List.drop_eq_getElem_cons hlt, List.take_append_drop]
    rw [hsplit, look_append, lookB, if_neg (by rw [hid]; exact fun e => hk e.symm)]

/-- Is a volume there? As the document's answer asks it. -/
theorem got_has {vs : List Vl} (hg : goodFrom 0 vs = true) (id : Int) : (gotE vs id 0 = 0 ↔ hasAt vs id = true) := by
  rw [gotE_loc hg]
  rcases look_cases hg id with ⟨_, g2, _, _⟩ | ⟨bs, _, g2, _, g4, _, g6, g7⟩
  · unfold locE; rw [g2]; simp
  · unfold locE
    rw [if_pos g2, List.getD_eq_getElem?_getD, List.getElem?_eq_getElem g6, g7, g2]
    simp only [Option.getD_some, iff_true]
    rw [if_pos ((inB_iff' _ _).2 ⟨by omega, by omega⟩)]
end Go.Proofs.Ytphmemopabgaeaa
