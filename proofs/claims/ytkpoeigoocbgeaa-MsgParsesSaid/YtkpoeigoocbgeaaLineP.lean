/- Lineages, plain: what the package line and the document's answer tell, as functions on lists. No program in sight. -/
namespace Go.Proofs.Ytkpoeigoocbgeaa

/-- A branch: its epoch, the place at which it begins. -/
abbrev Br := Int × Int
def mostN : Int := 1099511627776

/-! ### Valid lines -/

def brOk (e a : Int) (x : Br) : Bool := decide (e < x.1 ∧ x.1 ≤ 1099511627776 ∧ a ≤ x.2 ∧ x.2 ≤ 1099511627776)
def lineFrom : Int → Int → List Br → Bool
  | _, _, [] => true
  | e, a, x :: r => brOk e a x && lineFrom x.1 x.2 r
def headZero : List Br → Bool
  | [] => false
  | x :: _ => x.2 == 0
def lineOk (l : List Br) : Bool := decide (l.length ≤ 64) && (headZero l && lineFrom 0 0 l)
def lastB (l : List Br) : Br := l.getLast?.getD (0, 0)
def lastL (l : List Br) : Int := if lineOk l = true then (lastB l).1 else 0
def placedB (l : List Br) (s : Int) : Bool := lineOk l && decide (s ≤ 1099511627776 ∧ (lastB l).2 ≤ s)

theorem brOk_iff (e a : Int) (x : Br) : brOk e a x = true ↔ e < x.1 ∧ x.1 ≤ 1099511627776 ∧ a ≤ x.2 ∧ x.2 ≤ 1099511627776 := by simp [brOk]
theorem lineFrom_cons {e a : Int} {x : Br} {r : List Br} (h : lineFrom e a (x :: r) = true) : (e < x.1 ∧ x.1 ≤ 1099511627776 ∧ a ≤ x.2 ∧ x.2 ≤ 1099511627776) ∧ lineFrom x.1 x.2 r = true := by
  unfold lineFrom at h
  rw [Bool.and_eq_true, brOk_iff] at h
  exact h
theorem lineOk_iff (l : List Br) : lineOk l = true ↔ l.length ≤ 64 ∧ headZero l = true ∧ lineFrom 0 0 l = true := by simp [lineOk]
theorem lineOk_cons {l : List Br} (h : lineOk l = true) : ∃ x r, l = x :: r ∧ x.2 = 0 ∧ 1 ≤ x.1 ∧ lineFrom 0 0 l = true ∧ l.length ≤ 64 := by
  obtain ⟨h1, h2, h3⟩ := (lineOk_iff l).1 h
  cases l with
  | nil => simp [headZero] at h2
  | cons x r =>
    refine ⟨x, r, rfl, by simpa [headZero] using h2, ?_, h3, h1⟩
    have := (lineFrom_cons h3).1
    omega
theorem placedB_iff (l : List Br) (s : Int) : placedB l s = true ↔ lineOk l = true ∧ s ≤ 1099511627776 ∧ (lastB l).2 ≤ s := by simp [placedB]
theorem lastB_append (l : List Br) (x : Br) : lastB (l ++ [x]) = x := by simp [lastB]
theorem lastB_cons_cons (x y : Br) (r : List Br) : lastB (x :: y :: r) = lastB (y :: r) := by simp [lastB, List.getLast?_cons_cons]
theorem lastB_one (x : Br) : lastB [x] = x := by simp [lastB]
/-- Each branch begins at the last one's place at the latest. -/
theorem lineFrom_last {e a : Int} {l : List Br} (h : lineFrom e a l = true) (hne : l ≠ []) : e < (lastB l).1 ∧ (lastB l).1 ≤ 1099511627776 ∧ a ≤ (lastB l).2 ∧ (lastB l).2 ≤ 1099511627776 := by
  induction l generalizing e a with
  | nil => exact absurd rfl hne
  | cons x r ih =>
    obtain ⟨h1, h2⟩ := lineFrom_cons h
    cases r with
    | nil => rw [lastB_one]; exact h1
    | cons y q =>
      rw [lastB_cons_cons]
      have := ih h2 (by simp)
      omega
theorem lineFrom_append {e a : Int} {l : List Br} (h : lineFrom e a l = true) (hne : l ≠ []) (x : Br) : lineFrom e a (l ++ [x]) = brOk (lastB l).1 (lastB l).2 x := by
  induction l generalizing e a with
  | nil => exact absurd rfl hne
  | cons y r ih =>
    obtain ⟨h1, h2⟩ := lineFrom_cons h
    show (brOk e a y && lineFrom y.1 y.2 (r ++ [x])) = _
    rw [(brOk_iff e a y).2 h1, Bool.true_and]
    cases r with
    | nil => simp [lineFrom, lastB_one]
    | cons z q => rw [ih h2 (by simp), lastB_cons_cons]

/-! ### The epoch of a commit -/

def epochFrom (e s : Int) : List Br → Int
  | [] => e
  | x :: r => if x.2 < s then epochFrom x.1 s r else e
def epochB (l : List Br) (s : Int) : Int := epochFrom 0 s l
def epochP (l : List Br) (q s : Int) : Int := if placedB l q = true ∧ 1 ≤ s ∧ s ≤ q then epochB l s else 0
theorem epochFrom_pos {e a s : Int} {l : List Br} (he : 1 ≤ e) (h : lineFrom e a l = true) : 1 ≤ epochFrom e s l := by
  induction l generalizing e a with
  | nil => exact he
  | cons x r ih =>
    obtain ⟨h1, h2⟩ := lineFrom_cons h
    unfold epochFrom
    split
    · exact ih (by omega) h2
    · exact he
theorem epochB_pos {l : List Br} {s : Int} (h : lineOk l = true) (hs : 1 ≤ s) : 1 ≤ epochB l s := by
  obtain ⟨x, r, rfl, h0, h1, h2, _⟩ := lineOk_cons h
  unfold epochB epochFrom
  rw [if_pos (by omega)]
  exact epochFrom_pos h1 (lineFrom_cons h2).2
/-- All branches that begin ahead of s: the last one's epoch. -/
theorem epochFrom_all {e a s : Int} {l : List Br} (h : lineFrom e a l = true) (hs : ∀ x ∈ l, x.2 < s) : epochFrom e s l = (l.getLast?.map (·.1)).getD e := by
  induction l generalizing e a with
  | nil => rfl
  | cons x r ih =>
    obtain ⟨_, h2⟩ := lineFrom_cons h
    rw [epochFrom, if_pos (hs x List.mem_cons_self), ih h2 fun y hy => hs y (List.mem_cons_of_mem _ hy)]
    cases r with
    | nil => rfl
    | cons y q => rw [List.getLast?_cons_cons]; cases h3 : (y :: q).getLast? with
      | none => simp at h3
      | some z => rfl
theorem lineFrom_at {e a : Int} {l : List Br} (h : lineFrom e a l = true) : ∀ x ∈ l, a ≤ x.2 ∧ x.2 ≤ (lastB l).2 ∧ e < x.1 := by
  induction l generalizing e a with
  | nil => simp
  | cons y r ih =>
    obtain ⟨h1, h2⟩ := lineFrom_cons h
    intro x hx
    rcases List.mem_cons.1 hx with rfl | hx
    · have := lineFrom_last h (by simp)
      cases r with
      | nil => rw [lastB_one]; omega
      | cons z q =>
        rw [lastB_cons_cons]
        have := lineFrom_last h2 (by simp)
        omega
    · obtain ⟨g1, g2, g3⟩ := ih h2 x hx
      have e2 : lastB (y :: r) = lastB r := by
        cases r with
        | nil => simp at hx
        | cons z q => rw [lastB_cons_cons]
      rw [e2]
      exact ⟨by omega, g2, by omega⟩

/-! ### Where two lines part -/

/-- The place of the branch at which a line parts from another one; -1: it goes on in it. -/
def partsB : List Br → List Br → Int
  | [], _ => -1
  | x :: _, [] => x.2
  | x :: r, y :: q => if x = y then partsB r q else x.2
theorem partsB_nil (m : List Br) : partsB [] m = -1 := by cases m <;> rfl
theorem partsB_end (x : Br) (r : List Br) : partsB (x :: r) [] = x.2 := rfl
theorem partsB_same {x y : Br} {r q : List Br} (h : x = y) : partsB (x :: r) (y :: q) = partsB r q := by rw [partsB, if_pos h]
theorem partsB_ne {x y : Br} {r q : List Br} (h : x ≠ y) : partsB (x :: r) (y :: q) = x.2 := by rw [partsB, if_neg h]
theorem partsB_self (l : List Br) : partsB l l = -1 := by
  induction l with
  | nil => rfl
  | cons x r ih => rw [partsB_same rfl, ih]
theorem partsB_more (l r : List Br) : partsB l (l ++ r) = -1 := by
  induction l with
  | nil => exact partsB_nil _
  | cons x q ih => rw [List.cons_append, partsB_same rfl, ih]
theorem partsB_less (l : List Br) (z : Br) : partsB (l ++ [z]) l = z.2 := by
  induction l with
  | nil => rfl
  | cons x q ih => rw [List.cons_append, partsB_same rfl, ih]
/-- A line's parting lies no earlier than its first branch. -/
theorem partsB_low {e a : Int} {l : List Br} (h : lineFrom e a l = true) (m : List Br) : partsB l m = -1 ∨ a ≤ partsB l m := by
  induction l generalizing e a m with
  | nil => exact .inl (partsB_nil m)
  | cons x r ih =>
    obtain ⟨h1, h2⟩ := lineFrom_cons h
    cases m with
    | nil => rw [partsB_end]; exact .inr h1.2.2.1
    | cons y q =>
      by_cases hxy : x = y
      · rw [partsB_same hxy]
        rcases ih h2 q with g | g
        · exact .inl g
        · exact .inr (by omega)
      · rw [partsB_ne hxy]; exact .inr h1.2.2.1
theorem partsB_eq {l m : List Br} (h1 : partsB l m = -1) (h2 : partsB m l = -1) (hl : ∀ x ∈ l, 0 ≤ x.2) (hm : ∀ x ∈ m, 0 ≤ x.2) : l = m := by
  induction l generalizing m with
  | nil =>
    cases m with
    | nil => rfl
    | cons y q => rw [partsB_end] at h2; have := hm y List.mem_cons_self; omega
  | cons x r ih =>
    cases m with
    | nil => rw [partsB_end] at h1; have := hl x List.mem_cons_self; omega
    | cons y q =>
      by_cases hxy : x = y
      · rw [partsB_same hxy] at h1
        rw [partsB_same hxy.symm] at h2
        rw [hxy, ih h1 h2 (fun z hz => hl z (List.mem_cons_of_mem _ hz)) fun z hz => hm z (List.mem_cons_of_mem _ hz)]
      · rw [partsB_ne hxy] at h1; have := hl x List.mem_cons_self; omega

/-! ### What two places have in common -/

def cutN (n x : Int) : Int := if 0 ≤ x ∧ x < n then x else n
def sameHead : List Br → List Br → Bool
  | x :: _, y :: _ => decide (x = y)
  | _, _ => false
def commonN (l : List Br) (p : Int) (m : List Br) (q : Int) : Int := cutN (cutN (if q < p then q else p) (partsB l m)) (partsB m l)
def commonB (l : List Br) (p : Int) (m : List Br) (q : Int) : Int := if (placedB l p && (placedB m q && sameHead l m)) = true then commonN l p m q else -1
def aheadB (l : List Br) (p : Int) (m : List Br) (q : Int) : Bool := placedB l p && (placedB m q && (commonB l p m q == p))
def samePl (l : List Br) (p : Int) (m : List Br) (q : Int) : Bool := placedB l p && (decide (p = q) && decide (l = m))
theorem sameHead_comm (l m : List Br) : sameHead l m = sameHead m l := by
  cases l <;> cases m <;> simp [sameHead]
  exact ⟨Eq.symm, Eq.symm⟩
theorem commonN_comm (l : List Br) (p : Int) (m : List Br) (q : Int) : commonN l p m q = commonN m q l p := by
  unfold commonN cutN
  repeat' split
  all_goals omega
theorem commonB_comm (l : List Br) (p : Int) (m : List Br) (q : Int) : commonB l p m q = commonB m q l p := by
  unfold commonB
  rw [commonN_comm, sameHead_comm]
  have : (placedB l p && (placedB m q && sameHead m l)) = (placedB m q && (placedB l p && sameHead m l)) := by
    cases placedB l p <;> cases placedB m q <;> simp
  rw [this]
/-- A place s lies within what a line has with another one. -/
def okParts (s : Int) (l m : List Br) : Prop := partsB l m = -1 ∨ s ≤ partsB l m
theorem le_common {l m : List Br} {p q s : Int} (_hs : 0 ≤ s) : s ≤ commonN l p m q ↔ s ≤ p ∧ s ≤ q ∧ (0 ≤ partsB l m → s ≤ partsB l m) ∧ (0 ≤ partsB m l → s ≤ partsB m l) := by
  unfold commonN cutN
  repeat' split
  all_goals omega
theorem common_le {l m : List Br} {p q : Int} : commonN l p m q ≤ p ∧ commonN l p m q ≤ q := by
  unfold commonN cutN
  repeat' split
  all_goals omega
theorem okParts_of {e a s : Int} {l : List Br} (h : lineFrom e a l = true) (ha : 0 ≤ a) (m : List Br) : okParts s l m ↔ (0 ≤ partsB l m → s ≤ partsB l m) := by
  rcases partsB_low h m with g | g
  · unfold okParts; omega
  · unfold okParts; omega
/-- The commits up to there are of the same epochs. -/
theorem epoch_agree {e s : Int} {l m : List Br} (h1 : okParts s l m) (h2 : okParts s m l) (_hs : 0 ≤ s) (hl : ∀ x ∈ l, 0 ≤ x.2) (hm : ∀ x ∈ m, 0 ≤ x.2) : epochFrom e s l = epochFrom e s m := by
  induction l generalizing m e with
  | nil =>
    cases m with
    | nil => rfl
    | cons y q =>
      unfold okParts at h2
      rw [partsB_end] at h2
      have := hm y List.mem_cons_self
      rw [epochFrom, epochFrom, if_neg (by omega)]
  | cons x r ih =>
    have hx := hl x List.mem_cons_self
    cases m with
    | nil =>
      unfold okParts at h1
      rw [partsB_end] at h1
      rw [epochFrom, epochFrom, if_neg (by omega)]
    | cons y q =>
      have hy := hm y List.mem_cons_self
      by_cases hxy : x = y
      · subst hxy
        unfold okParts at h1 h2
        rw [partsB_same rfl] at h1 h2
        rw [epochFrom, epochFrom]
        split
        · exact ih h1 h2 (fun z hz => hl z (List.mem_cons_of_mem _ hz)) fun z hz => hm z (List.mem_cons_of_mem _ hz)
        · rfl
      · unfold okParts at h1 h2
        rw [partsB_ne hxy] at h1
        rw [partsB_ne (fun h => hxy h.symm)] at h2
        rw [epochFrom, epochFrom, if_neg (by omega), if_neg (by omega)]
/-- Ahead of what is ahead. -/
theorem parts_chain {e1 a1 e3 a3 s t : Int} {a b c : List Br} (hs : s ≤ t) (k1 : lineFrom e1 a1 a = true) (k3 : lineFrom e3 a3 c = true) (h1 : okParts s a b) (h2 : okParts s b a) (h3 : okParts t b c) (h4 : okParts t c b) (p1 : ∀ x ∈ a, 0 ≤ x.2) (p2 : ∀ x ∈ b, 0 ≤ x.2) (p3 : ∀ x ∈ c, 0 ≤ x.2) :
    okParts s a c ∧ okParts s c a := by
  induction a generalizing b c e1 a1 e3 a3 with
  | nil =>
    refine ⟨.inl (partsB_nil c), ?_⟩
    cases c with
    | nil => exact .inl rfl
    | cons z q =>
      have hz := p3 z List.mem_cons_self
      right
      rw [partsB_end]
      cases b with
      | nil => unfold okParts at h4; rw [partsB_end] at h4; omega
      | cons y r =>
        have hy := p2 y List.mem_cons_self
        unfold okParts at h2 h4
        rw [partsB_end] at h2
        by_cases hyz : y = z
        · subst hyz; omega
        · rw [partsB_ne (fun h => hyz h.symm)] at h4; omega
  | cons x u ih =>
    have hx := p1 x List.mem_cons_self
    obtain ⟨m1, m2⟩ := lineFrom_cons k1
    cases c with
    | nil =>
      refine ⟨?_, .inl (partsB_nil _)⟩
      right
      rw [partsB_end]
      cases b with
      | nil => unfold okParts at h1; rw [partsB_end] at h1; omega
      | cons y r =>
        have hy := p2 y List.mem_cons_self
        unfold okParts at h1 h3
        rw [partsB_end] at h3
        by_cases hxy : x = y
        · subst hxy; omega
        · rw [partsB_ne hxy] at h1; omega
    | cons z q =>
      have hz := p3 z List.mem_cons_self
      obtain ⟨n1, n2⟩ := lineFrom_cons k3
      by_cases hxz : x = z
      · subst hxz
        have low : s ≤ x.2 → okParts s (x :: u) (x :: q) ∧ okParts s (x :: q) (x :: u) := fun hsx => by
          unfold okParts
          rw [partsB_same rfl, partsB_same rfl]
          have g1 := partsB_low m2 q
          have g2 := partsB_low n2 u
          omega
        cases b with
        | nil => unfold okParts at h1; rw [partsB_end] at h1; exact low (by omega)
        | cons y r =>
          by_cases hxy : x = y
          · subst hxy
            unfold okParts at h1 h2 h3 h4
            rw [partsB_same rfl] at h1 h2 h3 h4
            have := ih m2 n2 h1 h2 h3 h4 (fun w hw => p1 w (List.mem_cons_of_mem _ hw)) (fun w hw => p2 w (List.mem_cons_of_mem _ hw)) fun w hw => p3 w (List.mem_cons_of_mem _ hw)
            unfold okParts at this ⊢
            rw [partsB_same rfl, partsB_same rfl]
            exact this
          · unfold okParts at h1
            rw [partsB_ne hxy] at h1
            exact low (by omega)
      · unfold okParts
        rw [partsB_ne hxz, partsB_ne (fun h => hxz h.symm)]
        cases b with
        | nil =>
          unfold okParts at h1 h4
          rw [partsB_end] at h1 h4
          omega
        | cons y r =>
          have hy := p2 y List.mem_cons_self
          by_cases hxy : x = y
          · subst hxy
            unfold okParts at h3 h4
            rw [partsB_ne hxz] at h3
            rw [partsB_ne (fun h => hxz h.symm)] at h4
            omega
          · unfold okParts at h1 h2 h4
            rw [partsB_ne hxy] at h1
            rw [partsB_ne (fun h => hxy h.symm)] at h2
            by_cases hyz : y = z
            · subst hyz; omega
            · rw [partsB_ne (fun h => hyz h.symm)] at h4; omega

/-! ### A line that grows -/

def growE (l : List Br) (epoch at_ : Int) : Int :=
  if (lineOk l && decide (epoch ≤ 1099511627776 ∧ at_ ≤ 1099511627776 ∧ (lastB l).1 < epoch ∧ (lastB l).2 ≤ at_)) = true then (if l.length ≤ 63 then 0 else 6) else 1
def growL (l : List Br) (epoch at_ : Int) : List Br := if growE l epoch at_ = 0 then l ++ [(epoch, at_)] else []
theorem growE_ok {l : List Br} {epoch at_ : Int} (h : growE l epoch at_ = 0) : lineOk l = true ∧ epoch ≤ 1099511627776 ∧ at_ ≤ 1099511627776 ∧ (lastB l).1 < epoch ∧ (lastB l).2 ≤ at_ ∧ l.length ≤ 63 := by
  unfold growE at h
  split at h
  · rename_i g
    rw [Bool.and_eq_true, decide_eq_true_iff] at g
    split at h
    · rename_i g2; exact ⟨g.1, g.2.1, g.2.2.1, g.2.2.2.1, g.2.2.2.2, g2⟩
    · cases h
  · cases h
theorem grow_ok {l : List Br} {epoch at_ : Int} (h : growE l epoch at_ = 0) : lineOk (l ++ [(epoch, at_)]) = true := by
  obtain ⟨h1, h2, h3, h4, h5, h6⟩ := growE_ok h
  obtain ⟨x, r, rfl, g0, g1, g2, _⟩ := lineOk_cons h1
  refine (lineOk_iff _).2 ⟨by simp at h6 ⊢; omega, by simpa [headZero] using g0, ?_⟩
  rw [lineFrom_append g2 (by simp), brOk_iff]
  exact ⟨h4, h2, h5, h3⟩
theorem place_pos {l : List Br} {p : Int} (h : placedB l p = true) : 0 ≤ p ∧ p ≤ 1099511627776 ∧ ∀ x ∈ l, 0 ≤ x.2 := by
  obtain ⟨h1, h2, h3⟩ := (placedB_iff l p).1 h
  obtain ⟨x, r, e, g0, g1, g2, _⟩ := lineOk_cons h1
  have hl := lineFrom_last g2 (by rw [e]; simp)
  exact ⟨by omega, h2, fun y hy => (lineFrom_at g2 y hy).1⟩
/-- The place of a line that grew lies behind the place at which it grew. -/
theorem grow_goes {l : List Br} {p epoch more : Int} (hp : placedB l p = true) (hg : growE l epoch p = 0) (h0 : 0 ≤ more) (hm : p + more ≤ 1099511627776) :
    placedB (l ++ [(epoch, p)]) (p + more) = true ∧ commonB l p (l ++ [(epoch, p)]) (p + more) = p := by
  have hpl : placedB (l ++ [(epoch, p)]) (p + more) = true := (placedB_iff _ _).2 ⟨grow_ok hg, hm, by rw [lastB_append]; show p ≤ p + more; omega⟩
  refine ⟨hpl, ?_⟩
  obtain ⟨x, r, rfl, _⟩ := lineOk_cons ((placedB_iff l p).1 hp).1
  have hp0 := (place_pos hp).1
  unfold commonB
  rw [hp, hpl, show sameHead (x :: r) ((x :: r) ++ [(epoch, p)]) = true from by simp [sameHead]]
  simp only [Bool.and_self, if_true]
  unfold commonN
  rw [partsB_more, partsB_less]
  unfold cutN
  repeat' split
  all_goals omega
theorem grow_epoch {l : List Br} {p epoch more : Int} (hp : placedB l p = true) (h1 : 1 ≤ more) : epochB (l ++ [(epoch, p)]) (p + more) = epoch := by
  have : ∀ (m : List Br) (e a s : Int), lineFrom e a m = true → (∀ x ∈ m, x.2 < s) → p < s → epochFrom e s (m ++ [(epoch, p)]) = epoch := by
    intro m
    induction m with
    | nil => intro e a s _ _ h; rw [List.nil_append, epochFrom, if_pos h]; rfl
    | cons x r ih =>
      intro e a s h hx hs
      rw [List.cons_append, epochFrom, if_pos (hx x List.mem_cons_self)]
      exact ih _ _ _ (lineFrom_cons h).2 (fun y hy => hx y (List.mem_cons_of_mem _ hy)) hs
  obtain ⟨q1, q2, q3⟩ := (placedB_iff l p).1 hp
  obtain ⟨x, r, _, _, _, g2, _⟩ := lineOk_cons q1
  exact this l 0 0 (p + more) g2 (fun y hy => by have := (lineFrom_at g2 y hy).2.1; omega) (by omega)
theorem common_self {l : List Br} {p : Int} (hp : placedB l p = true) : commonB l p l p = p := by
  obtain ⟨x, r, rfl, _⟩ := lineOk_cons ((placedB_iff l p).1 hp).1
  unfold commonB
  rw [hp, show sameHead (x :: r) (x :: r) = true from by simp [sameHead]]
  simp only [Bool.and_self, if_true]
  unfold commonN
  rw [partsB_self]
  unfold cutN
  repeat' split
  all_goals omega
theorem ahead_parts {l m : List Br} {p q : Int} (h : aheadB l p m q = true) : placedB l p = true ∧ placedB m q = true ∧ sameHead l m = true ∧ p ≤ q ∧ okParts p l m ∧ okParts p m l := by
  unfold aheadB at h
  rw [Bool.and_eq_true, Bool.and_eq_true, beq_iff_eq] at h
  obtain ⟨h1, h2, h3⟩ := h
  have hp := place_pos h1
  unfold commonB at h3
  rw [h1, h2] at h3
  simp only [Bool.true_and] at h3
  split at h3
  · rename_i hh
    obtain ⟨a1, a2, a3, a4⟩ := (le_common (l := l) (m := m) (p := p) (q := q) hp.1).1 (by omega)
    obtain ⟨x, r, _, _, _, g2, _⟩ := lineOk_cons ((placedB_iff l p).1 h1).1
    obtain ⟨y, t, _, _, _, k2, _⟩ := lineOk_cons ((placedB_iff m q).1 h2).1
    exact ⟨h1, h2, hh, a2, (okParts_of g2 (by omega) m).2 a3, (okParts_of k2 (by omega) l).2 a4⟩
  · omega
theorem ahead_of {l m : List Br} {p q : Int} (h1 : placedB l p = true) (h2 : placedB m q = true) (h3 : sameHead l m = true) (h4 : p ≤ q) (h5 : okParts p l m) (h6 : okParts p m l) : aheadB l p m q = true := by
  have hp := place_pos h1
  unfold aheadB commonB
  rw [h1, h2, h3]
  simp only [Bool.and_self, if_true, Bool.true_and, beq_iff_eq]
  have a := (le_common (l := l) (m := m) (p := p) (q := q) hp.1).2 ⟨Int.le_refl _, h4, fun g => by unfold okParts at h5; omega, fun g => by unfold okParts at h6; omega⟩
  have b := (common_le (l := l) (m := m) (p := p) (q := q)).1
  omega
theorem ahead_chain {a b c : List Br} {p q r : Int} (h1 : aheadB a p b q = true) (h2 : aheadB b q c r = true) : aheadB a p c r = true ∧ p ≤ r := by
  obtain ⟨a1, a2, a3, a4, a5, a6⟩ := ahead_parts h1
  obtain ⟨b1, b2, b3, b4, b5, b6⟩ := ahead_parts h2
  obtain ⟨x, u, ea, _, _, ga, _⟩ := lineOk_cons ((placedB_iff a p).1 a1).1
  obtain ⟨z, v, ec, _, _, gc, _⟩ := lineOk_cons ((placedB_iff c r).1 b2).1
  obtain ⟨k1, k2⟩ := parts_chain a4 ga gc a5 a6 b5 b6 (place_pos a1).2.2 (place_pos a2).2.2 (place_pos b2).2.2
  refine ⟨ahead_of a1 b2 ?_ (by omega) k1 k2, by omega⟩
  cases b with
  | nil => subst ea; simp [sameHead] at a3
  | cons y t =>
    subst ea ec
    simp only [sameHead, decide_eq_true_eq] at a3 b3 ⊢
    rw [a3, b3]
/-- Up to what two places have in common the epochs are the same. -/
theorem common_epoch {l m : List Br} {p q s : Int} (hs : 1 ≤ s) (h : s ≤ commonB l p m q) : epochP l p s = epochP m q s ∧ 1 ≤ epochP l p s := by
  unfold commonB at h
  split at h
  · rename_i hh
    rw [Bool.and_eq_true, Bool.and_eq_true] at hh
    obtain ⟨h1, h2, _⟩ := hh
    obtain ⟨a1, a2, a3, a4⟩ := (le_common (l := l) (m := m) (p := p) (q := q) (by omega)).1 h
    obtain ⟨x, r, _, _, _, g2, _⟩ := lineOk_cons ((placedB_iff l p).1 h1).1
    obtain ⟨y, t, _, _, _, k2, _⟩ := lineOk_cons ((placedB_iff m q).1 h2).1
    unfold epochP
    rw [if_pos ⟨h1, hs, a1⟩, if_pos ⟨h2, hs, a2⟩]
    exact ⟨epoch_agree ((okParts_of g2 (by omega) m).2 a3) ((okParts_of k2 (by omega) l).2 a4) (by omega) (place_pos h1).2.2 (place_pos h2).2.2, epochB_pos ((placedB_iff l p).1 h1).1 hs⟩
  · omega

/-! ### The next epoch -/

def nextB (known site : Int) : Int := if 0 ≤ known ∧ known ≤ 1099511627774 ∧ (site = 0 ∨ site = 1) then (if (known + 1) % 2 = 1 - site then known + 1 else known + 2) else 0
theorem nextB_ok {known site : Int} (h1 : 0 ≤ known) (h2 : known ≤ 1099511627774) (h3 : site = 0 ∨ site = 1) : known < nextB known site ∧ nextB known site ≤ known + 2 ∧ nextB known site % 2 = 1 - site ∧ nextB known site ≠ nextB known (1 - site) := by
  unfold nextB
  rw [if_pos (show 0 ≤ known ∧ known ≤ 1099511627774 ∧ (site = 0 ∨ site = 1) from ⟨h1, h2, h3⟩), if_pos (show 0 ≤ known ∧ known ≤ 1099511627774 ∧ (1 - site = 0 ∨ 1 - site = 1) from ⟨h1, h2, by omega⟩)]
  rcases h3 with rfl | rfl
  · split <;> split <;> omega
  · split <;> split <;> omega
end Go.Proofs.Ytkpoeigoocbgeaa
