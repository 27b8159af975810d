/- A sort that keeps the order of equals, plain: what an exchange of two neighbouring stretches does ('rotF'), when it keeps the order of equals ('Stb'), how two sorted stretches become one. No program in sight. -/
import Derived.Sort.LotA
namespace Go.Proofs.Ytpmllckfijfehaa
open Go.Sort
variable {α : Type} [Inhabited α]

/-- Two stretches next to one another change places: [m, hi) comes ahead of [lo, m). -/
def rotF (f : Nat → α) (lo m hi i : Nat) : α := if i < lo ∨ hi ≤ i then f i else if i < lo + (hi - m) then f (i - lo + m) else f (i - (hi - m))
/-- Two stretches of n elements that lie apart change places. -/
def swapF (f : Nat → α) (a b n i : Nat) : α := if a ≤ i ∧ i < a + n then f (i - a + b) else if b ≤ i ∧ i < b + n then f (i - b + a) else f i
def getF (d : Array α) (i : Nat) : α := d[i]!
def sortF (lt : α → α → Bool) (f : Nat → α) (a b : Nat) : Prop := ∀ i j, a ≤ i → i < j → j < b → lt (f j) (f i) = false

omit [Inhabited α] in
theorem rotF_same (f : Nat → α) (lo hi : Nat) : rotF f lo lo hi = f := by
  funext i; unfold rotF; split
  · rfl
  · split
    · congr 1; omega
    · omega
omit [Inhabited α] in
theorem rotF_end (f : Nat → α) (lo m : Nat) : rotF f lo m m = f := by
  funext i; unfold rotF; split
  · rfl
  · split
    · omega
    · congr 1; omega
omit [Inhabited α] in
theorem swapF_none (f : Nat → α) (a b : Nat) : swapF f a b 0 = f := by
  funext i; unfold swapF; rw [if_neg (by omega), if_neg (by omega)]
omit [Inhabited α] in
theorem swapF_rot (f : Nat → α) (lo m n : Nat) (h : lo + n = m) : swapF f lo m n = rotF f lo m (m + n) := by
  funext i; simp only [swapF, rotF]
  repeat' split
  all_goals first | rfl | omega | (congr 1; omega)
omit [Inhabited α] in
theorem rotF_left (f : Nat → α) (lo m hi j : Nat) (hj : m + j = hi) (h : lo + j ≤ m) : rotF (swapF f lo m j) (lo + j) m hi = rotF f lo m hi := by
  funext i; simp only [swapF, rotF]
  repeat' split
  all_goals first | rfl | omega | (congr 1; omega)
omit [Inhabited α] in
theorem rotF_right (f : Nat → α) (lo m hi i : Nat) (hi2 : lo + i = m) (h : m + i ≤ hi) : rotF (swapF f lo (hi - i) i) lo m (hi - i) = rotF f lo m hi := by
  funext x; simp only [swapF, rotF]
  repeat' split
  all_goals first | rfl | omega | (congr 1; omega)

theorem getF_swp (d : Array α) {i j : Nat} (hi : i < d.size) (hj : j < d.size) (x : Nat) : getF (swp d i j) x = if x = j then getF d i else if x = i then getF d j else getF d x := swp_get d hi hj x
/-- One step of the exchange of two stretches. -/
theorem getF_step {d cur : Array α} {a b n i : Nat} (hs : cur.size = d.size) (hab : a + n ≤ b) (hb : b + n ≤ d.size) (hi : i < n) (h : getF cur = swapF (getF d) a b i) : getF (swp cur (a + i) (b + i)) = swapF (getF d) a b (i + 1) := by
  funext x
  rw [getF_swp cur (by omega) (by omega), h]
  unfold swapF
  repeat' split
  all_goals first | rfl | omega | (congr 1; omega)
/-- One step of an element's way to the right. -/
theorem getF_up {d cur : Array α} {a k : Nat} (hs : cur.size = d.size) (hk : a ≤ k) (hb : k + 1 < d.size) (h : getF cur = rotF (getF d) a (a + 1) (k + 1)) : getF (swp cur k (k + 1)) = rotF (getF d) a (a + 1) (k + 2) := by
  funext x
  rw [getF_swp cur (by omega) (by omega), h]
  unfold rotF
  repeat' split
  all_goals first | rfl | omega | (congr 1; omega)
/-- One step of an element's way to the left. -/
theorem getF_down {d cur : Array α} {m k : Nat} (hs : cur.size = d.size) (hk : k + 1 ≤ m) (hb : m < d.size) (h : getF cur = rotF (getF d) (k + 1) m (m + 1)) : getF (swp cur (k + 1) k) = rotF (getF d) k m (m + 1) := by
  funext x
  rw [getF_swp cur (by omega) (by omega), h]
  unfold rotF
  repeat' split
  all_goals first | rfl | omega | (congr 1; omega)

/-! ### The order of equals -/

/-- The elements at [s, s + n). -/
def cutF (f : Nat → α) (s n : Nat) : List α := (List.range' s n).map f
omit [Inhabited α] in
theorem cutF_append (f : Nat → α) (s m n : Nat) : cutF f s (m + n) = cutF f s m ++ cutF f (s + m) n := by
  unfold cutF; rw [← List.map_append]; congr 1; have := List.range'_append (s := s) (m := m) (n := n) (step := 1); rw [Nat.one_mul] at this; exact this.symm
omit [Inhabited α] in
theorem cutF_congr {f g : Nat → α} {s t n : Nat} (h : ∀ i, i < n → f (s + i) = g (t + i)) : cutF f s n = cutF g t n := by
  apply List.ext_getElem
  · simp [cutF]
  · intro i h1 h2
    simp only [cutF, List.length_map, List.length_range'] at h1
    simp only [cutF, List.getElem_map, List.getElem_range', Nat.one_mul]
    exact h i h1
omit [Inhabited α] in
theorem cutF_mem {f : Nat → α} {s n : Nat} {x : α} (h : x ∈ cutF f s n) : ∃ i, s ≤ i ∧ i < s + n ∧ x = f i := by
  simp only [cutF, List.mem_map, List.mem_range'_1] at h
  obtain ⟨i, ⟨h1, h2⟩, rfl⟩ := h
  exact ⟨i, h1, h2, rfl⟩
/-- Of each kind of equals: the same ones in the same order. -/
def Stb (lt : α → α → Bool) (n : Nat) (f g : Nat → α) : Prop := ∀ x, (cutF g 0 n).filter (fun y => !lt x y && !lt y x) = (cutF f 0 n).filter (fun y => !lt x y && !lt y x)
omit [Inhabited α] in
theorem Stb.refl (lt : α → α → Bool) (n : Nat) (f : Nat → α) : Stb lt n f f := fun _ => rfl
omit [Inhabited α] in
theorem Stb.trans {lt : α → α → Bool} {n : Nat} {f g h : Nat → α} (h1 : Stb lt n f g) (h2 : Stb lt n g h) : Stb lt n f h := fun x => (h2 x).trans (h1 x)
omit [Inhabited α] in
theorem rot_cut (f : Nat → α) {lo m hi n : Nat} (h1 : lo ≤ m) (h2 : m ≤ hi) (h3 : hi ≤ n) :
    cutF f 0 n = cutF f 0 lo ++ (cutF f lo (m - lo) ++ (cutF f m (hi - m) ++ cutF f hi (n - hi))) ∧ cutF (rotF f lo m hi) 0 n = cutF f 0 lo ++ (cutF f m (hi - m) ++ (cutF f lo (m - lo) ++ cutF f hi (n - hi))) := by
  constructor
  · rw [show n = lo + ((m - lo) + ((hi - m) + (n - hi))) from by omega, cutF_append, cutF_append, cutF_append]
    simp only [Nat.zero_add]
    rw [show lo + (m - lo) = m from by omega, show m + (hi - m) = hi from by omega, show lo + (m - lo + (hi - m + (n - hi))) - hi = n - hi from by omega]
  · rw [show n = lo + ((hi - m) + ((m - lo) + (n - hi))) from by omega, cutF_append, cutF_append, cutF_append]
    simp only [Nat.zero_add]
    rw [show lo + (hi - m + (m - lo + (n - hi))) - hi = n - hi from by omega]
    congr 1
    · exact cutF_congr (fun i hi2 => by unfold rotF; rw [if_pos (by omega)])
    congr 1
    · exact cutF_congr (fun i hi2 => by unfold rotF; rw [if_neg (by omega), if_pos (by omega)]; congr 1; omega)
    congr 1
    · exact cutF_congr (fun i hi2 => by unfold rotF; rw [if_neg (by omega), if_neg (by omega)]; congr 1; omega)
    · rw [show lo + (hi - m) + (m - lo) = hi from by omega]
      exact cutF_congr (fun i hi2 => by unfold rotF; rw [if_pos (by omega)])
omit [Inhabited α] in
/-- Where every element of the right stretch is less than every one of the left, their exchange keeps the order of equals. -/
theorem stb_rot {lt : α → α → Bool} (hS : SWO lt) (f : Nat → α) {lo m hi n : Nat} (h1 : lo ≤ m) (h2 : m ≤ hi) (h3 : hi ≤ n) (h : ∀ x y, lo ≤ x → x < m → m ≤ y → y < hi → lt (f y) (f x) = true) : Stb lt n f (rotF f lo m hi) := by
  intro z
  obtain ⟨e1, e2⟩ := rot_cut f h1 h2 h3
  rw [e1, e2]
  simp only [List.filter_append]
  congr 1
  rw [← List.append_assoc, ← List.append_assoc]
  congr 1
  by_cases hu : (cutF f lo (m - lo)).filter (fun y => !lt z y && !lt y z) = []
  · rw [hu]; simp
  · have hv : (cutF f m (hi - m)).filter (fun y => !lt z y && !lt y z) = [] := by
      obtain ⟨u, hu2⟩ := List.exists_mem_of_ne_nil _ hu
      obtain ⟨hu3, hu4⟩ := List.mem_filter.1 hu2
      obtain ⟨i, g1, g2, rfl⟩ := cutF_mem hu3
      simp only [Bool.and_eq_true, Bool.not_eq_true'] at hu4
      rw [List.filter_eq_nil_iff]
      intro v hv
      obtain ⟨j, g3, g4, rfl⟩ := cutF_mem hv
      simp only [Bool.and_eq_true, Bool.not_eq_true']
      rintro ⟨k1, k2⟩
      have := h i j g1 (by omega) g3 (by omega)
      have h5 := hS.ntrans _ _ _ k2 hu4.1
      rw [this] at h5
      cases h5
    rw [hv]; simp

/-! ### The insertion sort -/

theorem ins_inner {lt : α → α → Bool} (hS : SWO lt) (a : Nat) : ∀ (j : Nat) (d : Array α), j < d.size → (insInner lt a j d).size = d.size ∧ Stb lt d.size (getF d) (getF (insInner lt a j d))
  | 0, d, _ => ⟨rfl, Stb.refl _ _ _⟩
  | j + 1, d, hj => by
    rw [insInner]
    split
    · rename_i hc
      simp only [Bool.and_eq_true, decide_eq_true_eq] at hc
      obtain ⟨h1, h2⟩ := ins_inner hS a j (swp d (j + 1) j) (by rw [size_swp]; omega)
      rw [size_swp] at h1 h2
      refine ⟨h1, Stb.trans ?_ h2⟩
      have e : getF (swp d (j + 1) j) = rotF (getF d) j (j + 1) (j + 2) := by
        have := getF_down (d := d) (cur := d) (m := j + 1) (k := j) rfl (Nat.le_refl _) hj (by rw [rotF_same])
        exact this
      rw [e]
      exact stb_rot hS _ (by omega) (by omega) (by omega) (fun x y h1 h2 h3 h4 => by
        obtain rfl : x = j := by omega
        obtain rfl : y = x + 1 := by omega
        exact hc.2)
    · exact ⟨rfl, Stb.refl _ _ _⟩
theorem ins_outer {lt : α → α → Bool} (hS : SWO lt) (a b : Nat) : ∀ (g i : Nat) (d : Array α), b - i ≤ g → b ≤ d.size → (insOuter lt a b i d).size = d.size ∧ Stb lt d.size (getF d) (getF (insOuter lt a b i d))
  | g, i, d, hg, hb => by
    rw [insOuter]
    split
    · rename_i hlt
      obtain ⟨h1, h2⟩ := ins_inner hS a i d (by omega)
      cases g with
      | zero => omega
      | succ g =>
        obtain ⟨h3, h4⟩ := ins_outer hS a b g (i + 1) (insInner lt a i d) (by omega) (by omega)
        rw [h1] at h3 h4
        exact ⟨h3, h2.trans h4⟩
    · exact ⟨rfl, Stb.refl _ _ _⟩
/-- What a stretch that was put in order leaves: nothing else turned, the stretch in order and of the same elements, equals in their order. -/
structure Merged (lt : α → α → Bool) (a b : Nat) (d d' : Array α) : Prop where
  size : d'.size = d.size
  out : ∀ i, i < a ∨ b ≤ i → getF d' i = getF d i
  from_ : ∀ i, a ≤ i → i < b → ∃ j, a ≤ j ∧ j < b ∧ getF d' i = getF d j
  stb : Stb lt d.size (getF d) (getF d')
  sorted : sortF lt (getF d') a b
theorem ins_sorts {lt : α → α → Bool} (hS : SWO lt) (d : Array α) {a b : Nat} (hab : a ≤ b) (hb : b ≤ d.size) : Merged lt a b d (insertionSort lt d a b) := by
  obtain ⟨hp, hs⟩ := insertionSort_holds (lt := lt) hS d a b hab hb
  obtain ⟨h1, h2⟩ := ins_outer hS a b (b - (a + 1)) (a + 1) d (Nat.le_refl _) hb
  refine ⟨h1, hp.2.1, fun i hi1 hi2 => ?_, h2, hs⟩
  exact permIn_all _ _ a b (fun x => ∃ j, a ≤ j ∧ j < b ∧ x = getF d j) hb hp (fun i h1 h2 => ⟨i, h1, h2, rfl⟩) i hi1 hi2

/-! ### Two sorted stretches become one -/

omit [Inhabited α] in
theorem SWO.le_lt {lt : α → α → Bool} (hS : SWO lt) {x y z : α} (h1 : lt y x = false) (h2 : lt y z = true) : lt x z = true := by
  cases h : lt x z with
  | true => rfl
  | false => have := hS.ntrans _ _ _ h1 h; rw [h2] at this; cases this
omit [Inhabited α] in
theorem SWO.lt_le {lt : α → α → Bool} (hS : SWO lt) {x y z : α} (h1 : lt x y = true) (h2 : lt z y = false) : lt x z = true := by
  cases h : lt x z with
  | true => rfl
  | false => have := hS.ntrans _ _ _ h h2; rw [h1] at this; cases this
omit [Inhabited α] in
theorem SWO.asym {lt : α → α → Bool} (hS : SWO lt) {x y : α} (h : lt x y = true) : lt y x = false := hS.asymmA h

theorem merged_of_rot {lt : α → α → Bool} (hS : SWO lt) {d d' : Array α} {a b lo m hi : Nat} (hs : d'.size = d.size) (hb : b ≤ d.size) (e : getF d' = rotF (getF d) lo m hi) (ha : a ≤ lo) (h1 : lo ≤ m) (h2 : m ≤ hi) (h3 : hi ≤ b)
    (h : ∀ x y, lo ≤ x → x < m → m ≤ y → y < hi → lt (getF d y) (getF d x) = true) (hsort : sortF lt (rotF (getF d) lo m hi) a b) : Merged lt a b d d' := by
  refine ⟨hs, fun i hi => ?_, fun i hi1 hi2 => ?_, ?_, ?_⟩
  · rw [e]; unfold rotF; rw [if_pos (by omega)]
  · rw [e]; unfold rotF
    split
    · exact ⟨i, hi1, hi2, rfl⟩
    · split
      · exact ⟨_, by omega, by omega, rfl⟩
      · exact ⟨_, by omega, by omega, rfl⟩
  · rw [e]; exact stb_rot hS _ h1 h2 (by omega) h
  · rw [e]; exact hsort
/-- One element on the left: it goes behind all that are less. -/
theorem merged_one_left {lt : α → α → Bool} (hS : SWO lt) {d d' : Array α} {a b i : Nat} (hs : d'.size = d.size) (hb : b ≤ d.size) (hi1 : a + 1 ≤ i) (hi2 : i ≤ b) (e : getF d' = rotF (getF d) a (a + 1) i)
    (hso : sortF lt (getF d) (a + 1) b) (hl : ∀ y, a + 1 ≤ y → y < i → lt (getF d y) (getF d a) = true) (hr : ∀ y, i ≤ y → y < b → lt (getF d y) (getF d a) = false) : Merged lt a b d d' := by
  refine merged_of_rot hS hs hb e (Nat.le_refl _) (by omega) hi1 hi2 (fun x y h1 h2 h3 h4 => ?_) (fun x y h1 h2 h3 => ?_)
  · obtain rfl : x = a := by omega
    exact hl y h3 h4
  · unfold rotF
    by_cases c1 : y < i
    · rw [if_neg (by omega : ¬ (y < a ∨ i ≤ y)), if_neg (by omega : ¬ (x < a ∨ i ≤ x)), if_pos (by omega : x < a + (i - (a + 1)))]
      by_cases c2 : y < a + (i - (a + 1))
      · rw [if_pos c2]; exact hso _ _ (by omega) (by omega) (by omega)
      · rw [if_neg c2, show y - (i - (a + 1)) = a from by omega]
        exact SWO.asym hS (hl _ (by omega) (by omega))
    · rw [if_pos (by omega : y < a ∨ i ≤ y)]
      by_cases c3 : i ≤ x
      · rw [if_pos (by omega)]; exact hso _ _ (by omega) (by omega) (by omega)
      · rw [if_neg (by omega)]
        by_cases c2 : x < a + (i - (a + 1))
        · rw [if_pos c2]; exact hso _ _ (by omega) (by omega) (by omega)
        · rw [if_neg c2, show x - (i - (a + 1)) = a from by omega]; exact hr _ (by omega) h3
/-- One element on the right: it goes ahead of all that are greater. -/
theorem merged_one_right {lt : α → α → Bool} (hS : SWO lt) {d d' : Array α} {a m i : Nat} (hs : d'.size = d.size) (hb : m + 1 ≤ d.size) (hi1 : a ≤ i) (hi2 : i ≤ m) (e : getF d' = rotF (getF d) i m (m + 1))
    (hso : sortF lt (getF d) a m) (hl : ∀ y, a ≤ y → y < i → lt (getF d m) (getF d y) = false) (hr : ∀ y, i ≤ y → y < m → lt (getF d m) (getF d y) = true) : Merged lt a (m + 1) d d' := by
  refine merged_of_rot hS hs hb e hi1 hi2 (by omega) (Nat.le_refl _) (fun x y h1 h2 h3 h4 => ?_) (fun x y h1 h2 h3 => ?_)
  · obtain rfl : y = m := by omega
    exact hr x h1 h2
  · unfold rotF
    by_cases c1 : y < i
    · rw [if_pos (by omega : y < i ∨ m + 1 ≤ y), if_pos (by omega : x < i ∨ m + 1 ≤ x)]; exact hso _ _ (by omega) (by omega) (by omega)
    · rw [if_neg (by omega : ¬ (y < i ∨ m + 1 ≤ y))]
      by_cases c2 : y < i + (m + 1 - m)
      · rw [if_pos c2, if_pos (by omega), show y - i + m = m from by omega]; exact hl x h1 (by omega)
      · rw [if_neg c2]
        by_cases c3 : x < i
        · rw [if_pos (by omega)]; exact hso _ _ (by omega) (by omega) (by omega)
        · rw [if_neg (by omega)]
          by_cases c4 : x < i + (m + 1 - m)
          · rw [if_pos c4, show x - i + m = m from by omega]; exact SWO.asym hS (hr _ (by omega) (by omega))
          · rw [if_neg c4]; exact hso _ _ (by omega) (by omega) (by omega)

/-- The exchange of the middle, then both halves. -/
theorem merged_halves {lt : α → α → Bool} (hS : SWO lt) {d d1 d2 d3 : Array α} {a m b mid st en : Nat} (ham : a ≤ m) (hmb : m ≤ b) (hb : b ≤ d.size) (hst1 : a ≤ st) (hst2 : st ≤ m) (hen1 : m ≤ en) (hen2 : en ≤ b) (hmid : st + (en - m) = mid)
    (so1 : sortF lt (getF d) a m) (so2 : sortF lt (getF d) m b)
    (hx : a < st → en < b → lt (getF d en) (getF d (st - 1)) = false) (hy : st < m → m < en → lt (getF d (en - 1)) (getF d st) = true)
    (hs1 : d1.size = d.size) (e1 : getF d1 = rotF (getF d) st m en) (M2 : Merged lt a mid d1 d2) (M3 : Merged lt mid b d2 d3) : Merged lt a b d d3 := by
  have hlt : ∀ x y, st ≤ x → x < m → m ≤ y → y < en → lt (getF d y) (getF d x) = true := fun x y h1 h2 h3 h4 => by
    have h5 := hy (by omega) (by omega)
    have h6 : lt (getF d y) (getF d st) = true := by
      by_cases c : y = en - 1
      · subst c; exact h5
      · exact SWO.le_lt hS (so2 _ _ h3 (by omega) (by omega)) h5
    by_cases c : x = st
    · subst c; exact h6
    · exact SWO.lt_le hS h6 (so1 _ _ hst1 (by omega) h2)
  have hcross : ∀ i j, a ≤ i → i < mid → mid ≤ j → j < b → lt (getF d1 j) (getF d1 i) = false := fun i j h1 h2 h3 h4 => by
    rw [e1]
    unfold rotF
    by_cases c1 : i < st
    · rw [if_pos (by omega : i < st ∨ en ≤ i)]
      by_cases c2 : j < en
      · rw [if_neg (by omega), if_neg (by omega)]; exact so1 _ _ h1 (by omega) (by omega)
      · rw [if_pos (by omega)]
        have h5 := hx (by omega) (by omega)
        have h6 : lt (getF d j) (getF d (st - 1)) = false := by
          by_cases c : j = en
          · subst c; exact h5
          · exact hS.ntrans _ _ _ (so2 _ _ (by omega) (by omega) h4) h5
        by_cases c : i = st - 1
        · subst c; exact h6
        · exact hS.ntrans _ _ _ h6 (so1 _ _ h1 (by omega) (by omega))
    · rw [if_neg (by omega : ¬ (i < st ∨ en ≤ i)), if_pos (by omega : i < st + (en - m))]
      by_cases c2 : j < en
      · rw [if_neg (by omega), if_neg (by omega)]
        exact SWO.asym hS (hlt _ _ (by omega) (by omega) (by omega) (by omega))
      · rw [if_pos (by omega)]; exact so2 _ _ (by omega) (by omega) h4
  refine ⟨by rw [M3.size, M2.size, hs1], fun i hi => ?_, fun i h1 h2 => ?_, ?_, fun i j h1 h2 h3 => ?_⟩
  · rw [M3.out i (by omega), M2.out i (by omega), e1]; unfold rotF; rw [if_pos (by omega)]
  · have hfrom1 : ∀ i, a ≤ i → i < b → ∃ j, a ≤ j ∧ j < b ∧ getF d1 i = getF d j := fun i h1 h2 => by
      rw [e1]; unfold rotF
      split
      · exact ⟨i, h1, h2, rfl⟩
      · split
        · exact ⟨_, by omega, by omega, rfl⟩
        · exact ⟨_, by omega, by omega, rfl⟩
    have hfrom2 : ∀ i, a ≤ i → i < b → ∃ j, a ≤ j ∧ j < b ∧ getF d2 i = getF d1 j := fun i h1 h2 => by
      by_cases c : i < mid
      · obtain ⟨j, g1, g2, g3⟩ := M2.from_ i h1 c; exact ⟨j, g1, by omega, g3⟩
      · exact ⟨i, h1, h2, M2.out i (by omega)⟩
    have hfrom3 : ∃ j, a ≤ j ∧ j < b ∧ getF d3 i = getF d2 j := by
      by_cases c : i < mid
      · exact ⟨i, h1, h2, M3.out i (by omega)⟩
      · obtain ⟨j, g1, g2, g3⟩ := M3.from_ i (by omega) h2; exact ⟨j, by omega, g2, g3⟩
    obtain ⟨j3, a3, b3, c3⟩ := hfrom3
    obtain ⟨j2, a2, b2, c2⟩ := hfrom2 j3 a3 b3
    obtain ⟨j1, a1, b1, c1⟩ := hfrom1 j2 a2 b2
    exact ⟨j1, a1, b1, by rw [c3, c2, c1]⟩
  · have s1 : Stb lt d.size (getF d) (getF d1) := by rw [e1]; exact stb_rot hS _ hst2 hen1 (by omega) hlt
    have s2 := M2.stb
    have s3 := M3.stb
    rw [M2.size, hs1] at s3
    rw [hs1] at s2
    exact (s1.trans s2).trans s3
  · by_cases c1 : j < mid
    · rw [M3.out i (by omega), M3.out j (by omega)]; exact M2.sorted i j h1 h2 c1
    · by_cases c2 : mid ≤ i
      · exact M3.sorted i j c2 h2 h3
      · rw [M3.out i (by omega)]
        obtain ⟨i2, a2, b2, c2'⟩ := M2.from_ i h1 (by omega)
        obtain ⟨j3, a3, b3, c3⟩ := M3.from_ j (by omega) h3
        rw [c2', c3, M2.out j3 (by omega)]
        exact hcross i2 j3 a2 b2 a3 b3
theorem Merged.none_ {lt : α → α → Bool} {d : Array α} {a b : Nat} (h : sortF lt (getF d) a b) : Merged lt a b d d := ⟨rfl, fun _ _ => rfl, fun i h1 h2 => ⟨i, h1, h2, rfl⟩, Stb.refl _ _ _, h⟩
end Go.Proofs.Ytpmllckfijfehaa
