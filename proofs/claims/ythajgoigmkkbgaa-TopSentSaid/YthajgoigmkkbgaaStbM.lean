/- A sort that keeps the order of equals, plain: what an exchange of two neighbouring stretches does ('rotF'), when it keeps the order of equals ('Stb'), how two sorted stretches become one. No program in sight. slices.SortStableFunc's family at writes: what is asked of the program ('StbLays'); contracts of swapRangeCmpFunc and rotateCmpFunc. slices.SortStableFunc's family at writes: the contract of rotateCmpFunc. slices.SortStableFunc's family at writes: the contract of symMergeCmpFunc (two sorted stretches become one), by way of three. slices.SortStableFunc's family at writes: the contract of symMergeCmpFunc, whole. A sort by blocks, plain: what lies in order behind each step ('InsInv', 'MrgInv'), and at the end. No program in sight. slices.SortStableFunc's family at writes: the contracts of symMergeCmpFunc (whole), stableCmpFunc and SortStableFunc. -/
import Derived.Sort.LotA
import Derived.Test.YthajgoigmkkbgaaVolM
import Derived.Shelf.SlSortCmp.KitK
import Derived.Sort.WalkB2
import Derived.Sort.WalkB12
import Derived.Deep.LoopGhost
import Derived.Deep.Cut
namespace Go.Proofs.Ythajgoigmkkbgaa
open Go.Sort
variable {α : Type} [Inhabited α]

/-- Two stretches next to one another change places: [m, hi) comes ahead of [lo, m). -/
def rotF (f : Nat → α) (lo m hi i : Nat) : α := if i < lo ∨ hi ≤ i then f i else if i < lo + (hi - m) then f (i - lo + m) else f (i - (hi - m))
/-- Two stretches of n elements that lie apart change places. -/
def swapF (f : Nat → α) (a b n i : Nat) : α := if a ≤ i ∧ i < a + n then f (i - a + b) else if b ≤ i ∧ i < b + n then f (i - b + a) else f i
def getF (d : Array α) (i : Nat) : α := d[i]!
def sortF (lt : α → α → Bool) (f : Nat → α) (a b : Nat) : Prop := ∀ i j, a ≤ i → i < j → j < b → lt (f j) (f i) = false

omit [Inhabited α] in
theorem rotF_same (f : Nat → α) (lo hi : Nat) : rotF f lo lo hi = f := by
  funext i; unfold rotF; split
  · rfl
  · split
    · congr 1; omega
    · omega
omit [Inhabited α] in
theorem rotF_end (f : Nat → α) (lo m : Nat) : rotF f lo m m = f := by
  funext i; unfold rotF; split
  · rfl
  · split
    · omega
    · congr 1; omega
omit [Inhabited α] in
theorem swapF_none (f : Nat → α) (a b : Nat) : swapF f a b 0 = f := by
  funext i; unfold swapF; rw [if_neg (by omega), if_neg (by omega)]
omit [Inhabited α] in
theorem swapF_rot (f : Nat → α) (lo m n : Nat) (h : lo + n = m) : swapF f lo m n = rotF f lo m (m + n) := by
  funext i; simp only [swapF, rotF]
  repeat' split
  all_goals first | rfl | omega | (congr 1; omega)
omit [Inhabited α] in
theorem rotF_left (f : Nat → α) (lo m hi j : Nat) (hj : m + j = hi) (h : lo + j ≤ m) : rotF (swapF f lo m j) (lo + j) m hi = rotF f lo m hi := by
  funext i; simp only [swapF, rotF]
  repeat' split
  all_goals first | rfl | omega | (congr 1; omega)
omit [Inhabited α] in
theorem rotF_right (f : Nat → α) (lo m hi i : Nat) (hi2 : lo + i = m) (h : m + i ≤ hi) : rotF (swapF f lo (hi - i) i) lo m (hi - i) = rotF f lo m hi := by
  funext x; simp only [swapF, rotF]
  repeat' split
  all_goals first | rfl | omega | (congr 1; omega)

theorem getF_swp (d : Array α) {i j : Nat} (hi : i < d.size) (hj : j < d.size) (x : Nat) : getF (swp d i j) x = if x = j then getF d i else if x = i then getF d j else getF d x := swp_get d hi hj x
/-- One step of the exchange of two stretches. -/
theorem getF_step {d cur : Array α} {a b n i : Nat} (hs : cur.size = d.size) (hab : a + n ≤ b) (hb : b + n ≤ d.size) (hi : i < n) (h : getF cur = swapF (getF d) a b i) : getF (swp cur (a + i) (b + i)) = swapF (getF d) a b (i + 1) := by
  funext x
  rw [getF_swp cur (by omega) (by omega), h]
  unfold swapF
  repeat' split
  all_goals first | rfl | omega | (congr 1; omega)
/-- One step of an element's way to the right. -/
theorem getF_up {d cur : Array α} {a k : Nat} (hs : cur.size = d.size) (hk : a ≤ k) (hb : k + 1 < d.size) (h : getF cur = rotF (getF d) a (a + 1) (k + 1)) : getF (swp cur k (k + 1)) = rotF (getF d) a (a + 1) (k + 2) := by
  funext x
  rw [getF_swp cur (by omega) (by omega), h]
  unfold rotF
  repeat' split
  all_goals first | rfl | omega | (congr 1; omega)
/-- One step of an element's way to the left. -/
theorem getF_down {d cur : Array α} {m k : Nat} (hs : cur.size = d.size) (hk : k + 1 ≤ m) (hb : m < d.size) (h : getF cur = rotF (getF d) (k + 1) m (m + 1)) : getF (swp cur (k + 1) k) = rotF (getF d) k m (m + 1) := by
  funext x
  rw [getF_swp cur (by omega) (by omega), h]
  unfold rotF
  repeat' split
  all_goals first | rfl | omega | (congr 1; omega)

/-! ### The order of equals -/

/-- The elements at [s, s + n). -/
def cutF (f : Nat → α) (s n : Nat) : List α := (List.range' s n).map f
omit [Inhabited α] in
theorem cutF_append (f : Nat → α) (s m n : Nat) : cutF f s (m + n) = cutF f s m ++ cutF f (s + m) n := by
  unfold cutF; rw [← List.map_append]; congr 1; have := List.range'_append (s := s) (m := m) (n := n) (step := 1); rw [Nat.one_mul] at this; exact this.symm
omit [Inhabited α] in
theorem cutF_congr {f g : Nat → α} {s t n : Nat} (h : ∀ i, i < n → f (s + i) = g (t + i)) : cutF f s n = cutF g t n := by
  apply List.ext_getElem
  · simp [cutF]
  · intro i h1 h2
    simp only [cutF, List.length_map, List.length_range'] at h1
    simp only [cutF, List.getElem_map, List.getElem_range', Nat.one_mul]
    exact h i h1
omit [Inhabited α] in
theorem cutF_mem {f : Nat → α} {s n : Nat} {x : α} (h : x ∈ cutF f s n) : ∃ i, s ≤ i ∧ i < s + n ∧ x = f i := by
  simp only [cutF, List.mem_map, List.mem_range'_1] at h
  obtain ⟨i, ⟨h1, h2⟩, rfl⟩ := h
  exact ⟨i, h1, h2, rfl⟩
/-- Of each kind of equals: the same ones in the same order. -/
def Stb (lt : α → α → Bool) (n : Nat) (f g : Nat → α) : Prop := ∀ x, (cutF g 0 n).filter (fun y => !lt x y && !lt y x) = (cutF f 0 n).filter (fun y => !lt x y && !lt y x)
omit [Inhabited α] in
theorem Stb.refl (lt : α → α → Bool) (n : Nat) (f : Nat → α) : Stb lt n f f := fun _ => rfl
omit [Inhabited α] in
theorem Stb.trans {lt : α → α → Bool} {n : Nat} {f g h : Nat → α} (h1 : Stb lt n f g) (h2 : Stb lt n g h) : Stb lt n f h := fun x => (h2 x).trans (h1 x)
omit [Inhabited α] in
theorem rot_cut (f : Nat → α) {lo m hi n : Nat} (h1 : lo ≤ m) (h2 : m ≤ hi) (h3 : hi ≤ n) :
    cutF f 0 n = cutF f 0 lo ++ (cutF f lo (m - lo) ++ (cutF f m (hi - m) ++ cutF f hi (n - hi))) ∧ cutF (rotF f lo m hi) 0 n = cutF f 0 lo ++ (cutF f m (hi - m) ++ (cutF f lo (m - lo) ++ cutF f hi (n - hi))) := by
  constructor
  · rw [show n = lo + ((m - lo) + ((hi - m) + (n - hi))) from by omega, cutF_append, cutF_append, cutF_append]
    simp only [Nat.zero_add]
    rw [show lo + (m - lo) = m from by omega, show m + (hi - m) = hi from by omega, show lo + (m - lo + (hi - m + (n - hi))) - hi = n - hi from by omega]
  · rw [show n = lo + ((hi - m) + ((m - lo) + (n - hi))) from by omega, cutF_append, cutF_append, cutF_append]
    simp only [Nat.zero_add]
    rw [show lo + (hi - m + (m - lo + (n - hi))) - hi = n - hi from by omega]
    congr 1
    · exact cutF_congr (fun i hi2 => by unfold rotF; rw [if_pos (by omega)])
    congr 1
    · exact cutF_congr (fun i hi2 => by unfold rotF; rw [if_neg (by omega), if_pos (by omega)]; congr 1; omega)
    congr 1
    · exact cutF_congr (fun i hi2 => by unfold rotF; rw [if_neg (by omega), if_neg (by omega)]; congr 1; omega)
    · rw [show lo + (hi - m) + (m - lo) = hi from by omega]
      exact cutF_congr (fun i hi2 => by unfold rotF; rw [if_pos (by omega)])
omit [Inhabited α] in
/-- Where every element of the right stretch is less than every one of the left, their exchange keeps the order of equals. -/
theorem stb_rot {lt : α → α → Bool} (hS : SWO lt) (f : Nat → α) {lo m hi n : Nat} (h1 : lo ≤ m) (h2 : m ≤ hi) (h3 : hi ≤ n) (h : ∀ x y, lo ≤ x → x < m → m ≤ y → y < hi → lt (f y) (f x) = true) : Stb lt n f (rotF f lo m hi) := by
  intro z
  obtain ⟨e1, e2⟩ := rot_cut f h1 h2 h3
  rw [e1, e2]
  simp only [List.filter_append]
  congr 1
  rw [← List.append_assoc, ← List.append_assoc]
  congr 1
  by_cases hu : (cutF f lo (m - lo)).filter (fun y => !lt z y && !lt y z) = []
  · rw [hu]; simp
  · have hv : (cutF f m (hi - m)).filter (fun y => !lt z y && !lt y z) = [] := by
      obtain ⟨u, hu2⟩ := List.exists_mem_of_ne_nil _ hu
      obtain ⟨hu3, hu4⟩ := List.mem_filter.1 hu2
      obtain ⟨i, g1, g2, rfl⟩ := cutF_mem hu3
      simp only [Bool.and_eq_true, Bool.not_eq_true'] at hu4
      rw [List.filter_eq_nil_iff]
      intro v hv
      obtain ⟨j, g3, g4, rfl⟩ := cutF_mem hv
      simp only [Bool.and_eq_true, Bool.not_eq_true']
      rintro ⟨k1, k2⟩
      have := h i j g1 (by omega) g3 (by omega)
      have h5 := hS.ntrans _ _ _ k2 hu4.1
      rw [this] at h5
      cases h5
    rw [hv]; simp

/-! ### The insertion sort -/

theorem ins_inner {lt : α → α → Bool} (hS : SWO lt) (a : Nat) : ∀ (j : Nat) (d : Array α), j < d.size → (insInner lt a j d).size = d.size ∧ Stb lt d.size (getF d) (getF (insInner lt a j d))
  | 0, d, _ => ⟨rfl, Stb.refl _ _ _⟩
  | j + 1, d, hj => by
    rw [insInner]
    split
    · rename_i hc
      simp only [Bool.and_eq_true, decide_eq_true_eq] at hc
      obtain ⟨h1, h2⟩ := ins_inner hS a j (swp d (j + 1) j) (by rw [size_swp]; omega)
      rw [size_swp] at h1 h2
      refine ⟨h1, Stb.trans ?_ h2⟩
      have e : getF (swp d (j + 1) j) = rotF (getF d) j (j + 1) (j + 2) := by
        have := getF_down (d := d) (cur := d) (m := j + 1) (k := j) rfl (Nat.le_refl _) hj (by rw [rotF_same])
        exact this
      rw [e]
      exact stb_rot hS _ (by omega) (by omega) (by omega) (fun x y h1 h2 h3 h4 => by
        obtain rfl : x = j := by omega
        obtain rfl : y = x + 1 := by omega
        exact hc.2)
    · exact ⟨rfl, Stb.refl _ _ _⟩
theorem ins_outer {lt : α → α → Bool} (hS : SWO lt) (a b : Nat) : ∀ (g i : Nat) (d : Array α), b - i ≤ g → b ≤ d.size → (insOuter lt a b i d).size = d.size ∧ Stb lt d.size (getF d) (getF (insOuter lt a b i d))
  | g, i, d, hg, hb => by
    rw [insOuter]
    split
    · rename_i hlt
      obtain ⟨h1, h2⟩ := ins_inner hS a i d (by omega)
      cases g with
      | zero => omega
      | succ g =>
        obtain ⟨h3, h4⟩ := ins_outer hS a b g (i + 1) (insInner lt a i d) (by omega) (by omega)
        rw [h1] at h3 h4
        exact ⟨h3, h2.trans h4⟩
    · exact ⟨rfl, Stb.refl _ _ _⟩
/-- What a stretch that was put in order leaves: nothing else turned, the stretch in order and of the same elements, equals in their order. -/
structure Merged (lt : α → α → Bool) (a b : Nat) (d d' : Array α) : Prop where
  size : d'.size = d.size
  out : ∀ i, i < a ∨ b ≤ i → getF d' i = getF d i
  from_ : ∀ i, a ≤ i → i < b → ∃ j, a ≤ j ∧ j < b ∧ getF d' i = getF d j
  stb : Stb lt d.size (getF d) (getF d')
  sorted : sortF lt (getF d') a b
theorem ins_sorts {lt : α → α → Bool} (hS : SWO lt) (d : Array α) {a b : Nat} (hab : a ≤ b) (hb : b ≤ d.size) : Merged lt a b d (insertionSort lt d a b) := by
  obtain ⟨hp, hs⟩ := insertionSort_holds (lt := lt) hS d a b hab hb
  obtain ⟨h1, h2⟩ := ins_outer hS a b (b - (a + 1)) (a + 1) d (Nat.le_refl _) hb
  refine ⟨h1, hp.2.1, fun i hi1 hi2 => ?_, h2, hs⟩
  exact permIn_all _ _ a b (fun x => ∃ j, a ≤ j ∧ j < b ∧ x = getF d j) hb hp (fun i h1 h2 => ⟨i, h1, h2, rfl⟩) i hi1 hi2

/-! ### Two sorted stretches become one -/

omit [Inhabited α] in
theorem SWO.le_lt {lt : α → α → Bool} (hS : SWO lt) {x y z : α} (h1 : lt y x = false) (h2 : lt y z = true) : lt x z = true := by
  cases h : lt x z with
  | true => rfl
  | false => have := hS.ntrans _ _ _ h1 h; rw [h2] at this; cases this
omit [Inhabited α] in
theorem SWO.lt_le {lt : α → α → Bool} (hS : SWO lt) {x y z : α} (h1 : lt x y = true) (h2 : lt z y = false) : lt x z = true := by
  cases h : lt x z with
  | true => rfl
  | false => have := hS.ntrans _ _ _ h h2; rw [h1] at this; cases this
omit [Inhabited α] in
theorem SWO.asym {lt : α → α → Bool} (hS : SWO lt) {x y : α} (h : lt x y = true) : lt y x = false := hS.asymmA h

theorem merged_of_rot {lt : α → α → Bool} (hS : SWO lt) {d d' : Array α} {a b lo m hi : Nat} (hs : d'.size = d.size) (hb : b ≤ d.size) (e : getF d' = rotF (getF d) lo m hi) (ha : a ≤ lo) (h1 : lo ≤ m) (h2 : m ≤ hi) (h3 : hi ≤ b)
    (h : ∀ x y, lo ≤ x → x < m → m ≤ y → y < hi → lt (getF d y) (getF d x) = true) (hsort : sortF lt (rotF (getF d) lo m hi) a b) : Merged lt a b d d' := by
  refine ⟨hs, fun i hi => ?_, fun i hi1 hi2 => ?_, ?_, ?_⟩
  · rw [e]; unfold rotF; rw [if_pos (by omega)]
  · rw [e]; unfold rotF
    split
    · exact ⟨i, hi1, hi2, rfl⟩
    · split
      · exact ⟨_, by omega, by omega, rfl⟩
      · exact ⟨_, by omega, by omega, rfl⟩
  · rw [e]; exact stb_rot hS _ h1 h2 (by omega) h
  · rw [e]; exact hsort
/-- One element on the left: it goes behind all that are less. -/
theorem merged_one_left {lt : α → α → Bool} (hS : SWO lt) {d d' : Array α} {a b i : Nat} (hs : d'.size = d.size) (hb : b ≤ d.size) (hi1 : a + 1 ≤ i) (hi2 : i ≤ b) (e : getF d' = rotF (getF d) a (a + 1) i)
    (hso : sortF lt (getF d) (a + 1) b) (hl : ∀ y, a + 1 ≤ y → y < i → lt (getF d y) (getF d a) = true) (hr : ∀ y, i ≤ y → y < b → lt (getF d y) (getF d a) = false) : Merged lt a b d d' := by
  refine merged_of_rot hS hs hb e (Nat.le_refl _) (by omega) hi1 hi2 (fun x y h1 h2 h3 h4 => ?_) (fun x y h1 h2 h3 => ?_)
  · obtain rfl : x = a := by omega
    exact hl y h3 h4
  · unfold rotF
    by_cases c1 : y < i
    · rw [if_neg (by omega : ¬ (y < a ∨ i ≤ y)), if_neg (by omega : ¬ (x < a ∨ i ≤ x)), if_pos (by omega : x < a + (i - (a + 1)))]
      by_cases c2 : y < a + (i - (a + 1))
      · rw [if_pos c2]; exact hso _ _ (by omega) (by omega) (by omega)
      · rw [if_neg c2, show y - (i - (a + 1)) = a from by omega]
        exact SWO.asym hS (hl _ (by omega) (by omega))
    · rw [if_pos (by omega : y < a ∨ i ≤ y)]
      by_cases c3 : i ≤ x
      · rw [if_pos (by omega)]; exact hso _ _ (by omega) (by omega) (by omega)
      · rw [if_neg (by omega)]
        by_cases c2 : x < a + (i - (a + 1))
        · rw [if_pos c2]; exact hso _ _ (by omega) (by omega) (by omega)
        · rw [if_neg c2, show x - (i - (a + 1)) = a from by omega]; exact hr _ (by omega) h3
/-- One element on the right: it goes ahead of all that are greater. -/
theorem merged_one_right {lt : α → α → Bool} (hS : SWO lt) {d d' : Array α} {a m i : Nat} (hs : d'.size = d.size) (hb : m + 1 ≤ d.size) (hi1 : a ≤ i) (hi2 : i ≤ m) (e : getF d' = rotF (getF d) i m (m + 1))
    (hso : sortF lt (getF d) a m) (hl : ∀ y, a ≤ y → y < i → lt (getF d m) (getF d y) = false) (hr : ∀ y, i ≤ y → y < m → lt (getF d m) (getF d y) = true) : Merged lt a (m + 1) d d' := by
  refine merged_of_rot hS hs hb e hi1 hi2 (by omega) (Nat.le_refl _) (fun x y h1 h2 h3 h4 => ?_) (fun x y h1 h2 h3 => ?_)
  · obtain rfl : y = m := by omega
    exact hr x h1 h2
  · unfold rotF
    by_cases c1 : y < i
    · rw [if_pos (by omega : y < i ∨ m + 1 ≤ y), if_pos (by omega : x < i ∨ m + 1 ≤ x)]; exact hso _ _ (by omega) (by omega) (by omega)
    · rw [if_neg (by omega : ¬ (y < i ∨ m + 1 ≤ y))]
      by_cases c2 : y < i + (m + 1 - m)
      · rw [if_pos c2, if_pos (by omega), show y - i + m = m from by omega]; exact hl x h1 (by omega)
      · rw [if_neg c2]
        by_cases c3 : x < i
        · rw [if_pos (by omega)]; exact hso _ _ (by omega) (by omega) (by omega)
        · rw [if_neg (by omega)]
          by_cases c4 : x < i + (m + 1 - m)
          · rw [if_pos c4, show x - i + m = m from by omega]; exact SWO.asym hS (hr _ (by omega) (by omega))
          · rw [if_neg c4]; exact hso _ _ (by omega) (by omega) (by omega)

/-- The exchange of the middle, then both halves. -/
theorem merged_halves {lt : α → α → Bool} (hS : SWO lt) {d d1 d2 d3 : Array α} {a m b mid st en : Nat} (ham : a ≤ m) (hmb : m ≤ b) (hb : b ≤ d.size) (hst1 : a ≤ st) (hst2 : st ≤ m) (hen1 : m ≤ en) (hen2 : en ≤ b) (hmid : st + (en - m) = mid)
    (so1 : sortF lt (getF d) a m) (so2 : sortF lt (getF d) m b)
    (hx : a < st → en < b → lt (getF d en) (getF d (st - 1)) = false) (hy : st < m → m < en → lt (getF d (en - 1)) (getF d st) = true)
    (hs1 : d1.size = d.size) (e1 : getF d1 = rotF (getF d) st m en) (M2 : Merged lt a mid d1 d2) (M3 : Merged lt mid b d2 d3) : Merged lt a b d d3 := by
  have hlt : ∀ x y, st ≤ x → x < m → m ≤ y → y < en → lt (getF d y) (getF d x) = true := fun x y h1 h2 h3 h4 => by
    have h5 := hy (by omega) (by omega)
    have h6 : lt (getF d y) (getF d st) = true := by
      by_cases c : y = en - 1
      · subst c; exact h5
      · exact SWO.le_lt hS (so2 _ _ h3 (by omega) (by omega)) h5
    by_cases c : x = st
    · subst c; exact h6
    · exact SWO.lt_le hS h6 (so1 _ _ hst1 (by omega) h2)
  have hcross : ∀ i j, a ≤ i → i < mid → mid ≤ j → j < b → lt (getF d1 j) (getF d1 i) = false := fun i j h1 h2 h3 h4 => by
    rw [e1]
    unfold rotF
    by_cases c1 : i < st
    · rw [if_pos (by omega : i < st ∨ en ≤ i)]
      by_cases c2 : j < en
      · rw [if_neg (by omega), if_neg (by omega)]; exact so1 _ _ h1 (by omega) (by omega)
      · rw [if_pos (by omega)]
        have h5 := hx (by omega) (by omega)
        have h6 : lt (getF d j) (getF d (st - 1)) = false := by
          by_cases c : j = en
          · subst c; exact h5
          · exact hS.ntrans _ _ _ (so2 _ _ (by omega) (by omega) h4) h5
        by_cases c : i = st - 1
        · subst c; exact h6
        · exact hS.ntrans _ _ _ h6 (so1 _ _ h1 (by omega) (by omega))
    · rw [if_neg (by omega : ¬ (i < st ∨ en ≤ i)), if_pos (by omega : i < st + (en - m))]
      by_cases c2 : j < en
      · rw [if_neg (by omega), if_neg (by omega)]
        exact SWO.asym hS (hlt _ _ (by omega) (by omega) (by omega) (by omega))
      · rw [if_pos (by omega)]; exact so2 _ _ (by omega) (by omega) h4
  refine ⟨by rw [M3.size, M2.size, hs1], fun i hi => ?_, fun i h1 h2 => ?_, ?_, fun i j h1 h2 h3 => ?_⟩
  · rw [M3.out i (by omega), M2.out i (by omega), e1]; unfold rotF; rw [if_pos (by omega)]
  · have hfrom1 : ∀ i, a ≤ i → i < b → ∃ j, a ≤ j ∧ j < b ∧ getF d1 i = getF d j := fun i h1 h2 => by
      rw [e1]; unfold rotF
      split
      · exact ⟨i, h1, h2, rfl⟩
      · split
        · exact ⟨_, by omega, by omega, rfl⟩
        · exact ⟨_, by omega, by omega, rfl⟩
    have hfrom2 : ∀ i, a ≤ i → i < b → ∃ j, a ≤ j ∧ j < b ∧ getF d2 i = getF d1 j := fun i h1 h2 => by
      by_cases c : i < mid
      · obtain ⟨j, g1, g2, g3⟩ := M2.from_ i h1 c; exact ⟨j, g1, by omega, g3⟩
      · exact ⟨i, h1, h2, M2.out i (by omega)⟩
    have hfrom3 : ∃ j, a ≤ j ∧ j < b ∧ getF d3 i = getF d2 j := by
      by_cases c : i < mid
      · exact ⟨i, h1, h2, M3.out i (by omega)⟩
      · obtain ⟨j, g1, g2, g3⟩ := M3.from_ i (by omega) h2; exact ⟨j, by omega, g2, g3⟩
    obtain ⟨j3, a3, b3, c3⟩ := hfrom3
    obtain ⟨j2, a2, b2, c2⟩ := hfrom2 j3 a3 b3
    obtain ⟨j1, a1, b1, c1⟩ := hfrom1 j2 a2 b2
    exact ⟨j1, a1, b1, by rw [c3, c2, c1]⟩
  · have s1 : Stb lt d.size (getF d) (getF d1) := by rw [e1]; exact stb_rot hS _ hst2 hen1 (by omega) hlt
    have s2 := M2.stb
    have s3 := M3.stb
    rw [M2.size, hs1] at s3
    rw [hs1] at s2
    exact (s1.trans s2).trans s3
  · by_cases c1 : j < mid
    · rw [M3.out i (by omega), M3.out j (by omega)]; exact M2.sorted i j h1 h2 c1
    · by_cases c2 : mid ≤ i
      · exact M3.sorted i j c2 h2 h3
      · rw [M3.out i (by omega)]
        obtain ⟨i2, a2, b2, c2'⟩ := M2.from_ i h1 (by omega)
        obtain ⟨j3, a3, b3, c3⟩ := M3.from_ j (by omega) h3
        rw [c2', c3, M2.out j3 (by omega)]
        exact hcross i2 j3 a2 b2 a3 b3
theorem Merged.none_ {lt : α → α → Bool} {d : Array α} {a b : Nat} (h : sortF lt (getF d) a b) : Merged lt a b d d := ⟨rfl, fun _ _ => rfl, fun i h1 h2 => ⟨i, h1, h2, rfl⟩, Stb.refl _ _ _, h⟩
end Go.Proofs.Ythajgoigmkkbgaa

namespace Go.Proofs.Ythajgoigmkkbgaa
open Go.Shelf Go.RowKit Go.Lib Go.Sort

/-- What the walks ask of a program: these bodies, these types. -/
structure StbLays (P : Program) : Prop where
  mixed : P.follows .mixedOrders = true
  f_ins : P.funcs[82]? = some Try.f82
  f_sym : P.funcs[83]? = some Try.f83
  f_rot : P.funcs[85]? = some Try.f85
  f_swr : P.funcs[86]? = some Try.f86
  f_stb : P.funcs[78]? = some Try.f78
  f_srt : P.funcs[69]? = some Try.f69
  t0 : P.underlying 0 = some (TypeDesc.tuple #[])
  a0 : ∀ w, (isAgg 0).run P w = .ok false w
  z0 : ∀ w, (Go.sizeOf 0).run P w = .ok 1 w
  v0 : ∀ w, (zeroValue 0).run P w = .ok (Value.tuple #[]) w
  t3 : P.underlying 3 = some (TypeDesc.int IntKind.i64)
  a3 : ∀ w, (isAgg 3).run P w = .ok false w
  z3 : ∀ w, (Go.sizeOf 3).run P w = .ok 1 w
  v3 : ∀ w, (zeroValue 3).run P w = .ok (Value.int IntKind.i64 0) w
  t4 : P.underlying 4 = some (TypeDesc.bool)
  a4 : ∀ w, (isAgg 4).run P w = .ok false w
  z4 : ∀ w, (Go.sizeOf 4).run P w = .ok 1 w
  v4 : ∀ w, (zeroValue 4).run P w = .ok (Value.bool false) w
  t22 : P.underlying 25 = some (TypeDesc.slice 74)
  a22 : ∀ w, (isAgg 25).run P w = .ok false w
  z22 : ∀ w, (Go.sizeOf 25).run P w = .ok 1 w
  v22 : ∀ w, (zeroValue 25).run P w = .ok (Value.slice none 0 0) w
  t46 : P.underlying 92 = some (TypeDesc.func #[74, 74] #[3] false)
  a46 : ∀ w, (isAgg 92).run P w = .ok false w
  z46 : ∀ w, (Go.sizeOf 92).run P w = .ok 1 w
  v46 : ∀ w, (zeroValue 92).run P w = .ok (Value.nilFunc) w
  t80 : P.underlying 59 = some (TypeDesc.int IntKind.u64)
  a80 : ∀ w, (isAgg 59).run P w = .ok false w
  z80 : ∀ w, (Go.sizeOf 59).run P w = .ok 1 w
  v80 : ∀ w, (zeroValue 59).run P w = .ok (Value.int IntKind.u64 0) w

theorem Try.stbLays : StbLays Try.prog where
  mixed := by kernel_rfl
  f_ins := Try.func82
  f_sym := Try.func83
  f_rot := Try.func85
  f_swr := Try.func86
  f_stb := Try.func78
  f_srt := Try.func69
  t0 := Try.underlying0
  a0 := Try.isAgg0
  z0 := Try.sizeOf0
  v0 := Try.zeroValue0
  t3 := Try.underlying3
  a3 := Try.isAgg3
  z3 := Try.sizeOf3
  v3 := Try.zeroValue3
  t4 := Try.underlying4
  a4 := Try.isAgg4
  z4 := Try.sizeOf4
  v4 := Try.zeroValue4
  t22 := Try.underlying25
  a22 := Try.isAgg25
  z22 := Try.sizeOf25
  v22 := Try.zeroValue25
  t46 := Try.underlying92
  a46 := Try.isAgg92
  z46 := Try.sizeOf92
  v46 := Try.zeroValue92
  t80 := Try.underlying59
  a80 := Try.isAgg59
  z80 := Try.sizeOf59
  v80 := Try.zeroValue59

variable {P : Program} {α : Type} [Inhabited α]

set_option maxHeartbeats 4000000 in
set_option maxRecDepth 1000000 in
/-- swapRangeCmpFunc: two stretches of n elements that lie apart change places. -/
theorem swapRange_any (L : StbLays P) (k : Nat) (aE : ∀ w, (isAgg 74).run P w = .ok true w) (zE : ∀ w, (Go.sizeOf 74).run P w = .ok k w) (enc : α → List Value) (g : Nat) (cb : Array Value) (blk off cap a b n : Nat) (d0 d : Array α) (w0 w : World)
    (R : RowK enc k w0 blk off d0) (hs : d.size = d0.size) (S : SWK enc k w0 blk off d w) (hab : a + n ≤ b) (hb : b + n ≤ d.size) (hsz : d.size ≤ 4000) :
    Calls P 86 #[.slice (some ⟨blk, off, none⟩) d.size cap, .int .i64 a, .int .i64 b, .int .i64 n, .func (.func g) #[] cb] w fun e w' => e = .returned (.tuple #[]) ∧ ∃ d', d'.size = d.size ∧ getF d' = swapF (getF d) a b n ∧ SWK enc k w0 blk off d' w' := by
  have mixed := L.mixed; have t0 := L.t0; have a0 := L.a0; have z0 := L.z0; have v0 := L.v0; have t3 := L.t3; have a3 := L.a3; have z3 := L.z3; have v3 := L.v3; have t4 := L.t4; have a4 := L.a4; have z4 := L.z4; have v4 := L.v4; have t22 := L.t22; have a22 := L.a22; have z22 := L.z22; have v22 := L.v22; have t46 := L.t46; have a46 := L.a46; have z46 := L.z46; have v46 := L.v46; have t80 := L.t80; have a80 := L.a80; have z80 := L.z80; have v80 := L.v80
  have u22 := run_underlying L.t22
  have FG := L.f_swr
  have S0 : Aside (SWK enc k w0 blk off d w) := S
  clear S
  go_enter FG, Try.ntmps86
  go_wp2
  go_loopg [10] n (fun kx s10 wr => ∃ (i : Nat) (dk : Array α), s10 = .int .i64 i ∧ i ≤ n ∧ n - i ≤ kx ∧ dk.size = d.size ∧ Aside (SWK enc k w0 blk off dk wr) ∧ Hid (getF dk = swapF (getF d) a b i))
  case atStart => exact ⟨0, d, rfl, Nat.zero_le _, by omega, rfl, S0, Lib.hid (swapF_none _ _ _).symm⟩
  case round =>
    clear S0
    obtain ⟨i, dk, rfl, hi, hkx, hds, S1, HE⟩ := hrel
    by_cases hlt : i < n
    · have hltz : (i : Int) < (n : Int) := by omega
      go_wp2_with fail
      have ra1 : IntKind.i64.wrap ((a : Int) + (i : Int)) = (a : Int) + (i : Int) := by rw [IntKind.wrap_i64]; omega
      have ea1 : ((a : Int) + (i : Int)).toNat = a + i := by omega
      have pa1 : (0 : Int) ≤ (a : Int) + (i : Int) := by omega
      have ba1 : (a : Int) + (i : Int) < (d.size : Int) := by omega
      have rb1 : IntKind.i64.wrap ((b : Int) + (i : Int)) = (b : Int) + (i : Int) := by rw [IntKind.wrap_i64]; omega
      have eb1 : ((b : Int) + (i : Int)).toNat = b + i := by omega
      have pb1 : (0 : Int) ≤ (b : Int) + (i : Int) := by omega
      have bb1 : (b : Int) + (i : Int) < (d.size : Int) := by omega
      have S2 : Aside (SWK enc k w0 blk off (swp dk (a + i) (b + i)) ((wr.drew.setCells blk (off + (a + i) * k) (enc dk[b + i]!)).setCells blk (off + (b + i) * k) (enc dk[a + i]!))) := S1.out.swapped R (a + i) (b + i) (by omega) (by omega)
      have HE2 : Hid (getF (swp dk (a + i) (b + i)) = swapF (getF d) a b (i + 1)) := Lib.hid (getF_step hds hab hb hlt HE.out)
      have l1 := S1.out.ld1 R (by omega) P (a + i) (by omega)
      have l2 := S1.out.ld1 R (by omega) P (b + i) (by omega)
      have s1 := S1.out.st1 R (by omega) P (a + i) (by omega) dk[b + i]!
      have s2 := S1.out.st2 R (by omega) P (a + i) (b + i) (by omega) (by omega) dk[b + i]! dk[a + i]!
      have n1 : (enc dk[a + i]!).length = k := R.hk _
      have n2 : (enc dk[b + i]!).length = k := R.hk _
      generalize enc dk[a + i]! = cI at S2 l1 s2 n1
      generalize enc dk[b + i]! = cJ at S2 l2 s1 s2 n2
      clear S1 HE
      go_big_region_o
      clear l1 l2 s1 s2
      generalize (wr.drew.setCells blk (off + (a + i) * k) cJ).setCells blk (off + (b + i) * k) cI = w2 at S2 ⊢
      go_wp2
      go_roundg (n - (i + 1))
      case measure => omega
      case rel => exact ⟨i + 1, swp dk (a + i) (b + i), by go_num, by omega, Nat.le_refl _, by rw [size_swp]; exact hds, S2, HE2⟩
    · have hltz : ¬ (i : Int) < (n : Int) := by omega
      have hin : i = n := by omega
      go_wp2
      go_end0
      exact ⟨rfl, dk, hds.trans hs, by rw [HE.out, hin], S1.out⟩
end Go.Proofs.Ythajgoigmkkbgaa

namespace Go.Proofs.Ythajgoigmkkbgaa
open Go.Shelf Go.RowKit Go.Lib Go.Sort
variable {P : Program} {α : Type} [Inhabited α]

set_option maxHeartbeats 4000000 in
set_option maxRecDepth 1000000 in
/-- rotateCmpFunc: two stretches next to one another change places. -/
theorem rotate_any (L : StbLays P) (k : Nat) (aE : ∀ w, (isAgg 74).run P w = .ok true w) (zE : ∀ w, (Go.sizeOf 74).run P w = .ok k w) (enc : α → List Value) (g : Nat) (cb : Array Value) (blk off cap a m b : Nat) (d0 d : Array α) (w0 w : World)
    (R : RowK enc k w0 blk off d0) (hs : d.size = d0.size) (S : SWK enc k w0 blk off d w) (ham : a < m) (hmb : m < b) (hb : b ≤ d.size) (hsz : d.size ≤ 4000) :
    Calls P 85 #[.slice (some ⟨blk, off, none⟩) d.size cap, .int .i64 a, .int .i64 m, .int .i64 b, .func (.func g) #[] cb] w fun e w' => e = .returned (.tuple #[]) ∧ ∃ d', d'.size = d.size ∧ getF d' = rotF (getF d) a m b ∧ SWK enc k w0 blk off d' w' := by
  have mixed := L.mixed; have t0 := L.t0; have a0 := L.a0; have z0 := L.z0; have v0 := L.v0; have t3 := L.t3; have a3 := L.a3; have z3 := L.z3; have v3 := L.v3; have t4 := L.t4; have a4 := L.a4; have z4 := L.z4; have v4 := L.v4; have t22 := L.t22; have a22 := L.a22; have z22 := L.z22; have v22 := L.v22; have t46 := L.t46; have a46 := L.a46; have z46 := L.z46; have v46 := L.v46; have t80 := L.t80; have a80 := L.a80; have z80 := L.z80; have v80 := L.v80
  have u22 := run_underlying L.t22
  have e56 : ∀ args w, (callFunc 86 args).run P w = .ok (.enter 86 args) w := enters_of L.f_swr (by kernel_rfl) rfl
  have HC : Hid (∀ (x y n : Nat) (dk : Array α) (w1 : World), dk.size = d.size → SWK enc k w0 blk off dk w1 → x + n ≤ y → y + n ≤ d.size → Calls P 86 #[.slice (some ⟨blk, off, none⟩) d.size cap, .int .i64 x, .int .i64 y, .int .i64 n, .func (.func g) #[] cb] w1 fun e w' => e = .returned (.tuple #[]) ∧ ∃ d', d'.size = d.size ∧ getF d' = swapF (getF dk) x y n ∧ SWK enc k w0 blk off d' w') := Lib.hid (fun x y n dk w1 h1 h2 h3 h4 => by
    have := swapRange_any L k aE zE enc g cb blk off cap x y n d0 dk w0 w1 R (by omega) h2 h3 (by omega) (by omega)
    rw [h1] at this
    exact this)
  have FG := L.f_rot
  have S0 : Aside (SWK enc k w0 blk off d w) := S
  have HS := Lib.hid hs
  clear S hs aE zE R
  go_enter FG, Try.ntmps85
  go_wp2
  go_loopg [10, 11] (b - a) (fun kx s10 s11 wr => ∃ (i j : Nat) (dk : Array α), s10 = .int .i64 i ∧ s11 = .int .i64 j ∧ 0 < i ∧ 0 < j ∧ i + j ≤ kx ∧ a + i ≤ m ∧ m + j ≤ b ∧ dk.size = d.size ∧ Aside (SWK enc k w0 blk off dk wr) ∧ Hid (rotF (getF dk) (m - i) m (m + j) = rotF (getF d) a m b))
  case atStart => exact ⟨m - a, b - m, d, by first | rfl | (congr 1; omega), by first | rfl | (congr 1; omega), by omega, by omega, by omega, by omega, by omega, rfl, S0, Lib.hid (by rw [show m - (m - a) = a from by omega, show m + (b - m) = b from by omega])⟩
  case round =>
    clear S0
    obtain ⟨i, j, dk, rfl, rfl, hi, hj, hkx, hai, hbj, hds, S1, HE⟩ := hrel
    rcases Nat.lt_trichotomy i j with hij | hij | hij
    · have hne : ((i : Int) != (j : Int)) = true := by rw [bne_iff_ne]; omega
      have hgt : ¬ (j : Int) < (i : Int) := by omega
      have HC1 : Hid (Calls P 86 #[.slice (some ⟨blk, off, none⟩) d.size cap, .int .i64 ((m : Int) - (i : Int)), .int .i64 ((m : Int) + (j : Int) - (i : Int)), .int .i64 (i), .func (.func g) #[] cb] wr fun e w' => e = .returned (.tuple #[]) ∧ ∃ d', d'.size = d.size ∧ getF d' = swapF (getF dk) (m - i) (m + j - i) (i) ∧ SWK enc k w0 blk off d' w') := Lib.hid (by
        have := HC.out (m - i) (m + j - i) (i) dk wr hds S1.out (by omega) (by omega)
        rw [show (((m - i) : Nat) : Int) = (m : Int) - (i : Int) from by omega, show (((m + j - i) : Nat) : Int) = (m : Int) + (j : Int) - (i : Int) from by omega] at this
        exact this)
      go_wp2_with (go_at_fn 86; refine HC1.out.mono ?_; rintro e w1 ⟨rfl, d1, hd1, he1, hS1⟩; have HD1 := Lib.hid he1; have S2 : Aside _ := hS1; clear he1 hS1)
      go_roundg (i + (j - i))
      case measure => omega
      case rel => exact ⟨i, j - i, d1, rfl, by first | rfl | (congr 1; omega), hi, by omega, Nat.le_refl _, hai, by omega, hd1, S2, Lib.hid (by rw [HD1.out, show m + (j - i) = m + j - i from by omega, ← HE.out]; exact rotF_right _ _ _ _ _ (by omega) (by omega))⟩
    · subst hij
      have hne : ((i : Int) != (i : Int)) = false := by rw [bne_eq_false_iff_eq]
      have HC1 : Hid (Calls P 86 #[.slice (some ⟨blk, off, none⟩) d.size cap, .int .i64 ((m : Int) - (i : Int)), .int .i64 (m), .int .i64 (i), .func (.func g) #[] cb] wr fun e w' => e = .returned (.tuple #[]) ∧ ∃ d', d'.size = d.size ∧ getF d' = swapF (getF dk) (m - i) (m) (i) ∧ SWK enc k w0 blk off d' w') := Lib.hid (by
        have := HC.out (m - i) (m) (i) dk wr hds S1.out (by omega) (by omega)
        rw [show (((m - i) : Nat) : Int) = (m : Int) - (i : Int) from by omega] at this
        exact this)
      go_wp2_with (go_at_fn 86; refine HC1.out.mono ?_; rintro e w1 ⟨rfl, d1, hd1, he1, hS1⟩; have HD1 := Lib.hid he1; have S2 : Aside _ := hS1; clear he1 hS1)
      go_end0
      exact ⟨rfl, d1, hd1, by rw [HD1.out, ← HE.out]; exact swapF_rot _ _ _ _ (by omega), S2.out⟩
    · have hne : ((i : Int) != (j : Int)) = true := by rw [bne_iff_ne]; omega
      have hgt : (j : Int) < (i : Int) := by omega
      have HC1 : Hid (Calls P 86 #[.slice (some ⟨blk, off, none⟩) d.size cap, .int .i64 ((m : Int) - (i : Int)), .int .i64 (m), .int .i64 (j), .func (.func g) #[] cb] wr fun e w' => e = .returned (.tuple #[]) ∧ ∃ d', d'.size = d.size ∧ getF d' = swapF (getF dk) (m - i) (m) (j) ∧ SWK enc k w0 blk off d' w') := Lib.hid (by
        have := HC.out (m - i) (m) (j) dk wr hds S1.out (by omega) (by omega)
        rw [show (((m - i) : Nat) : Int) = (m : Int) - (i : Int) from by omega] at this
        exact this)
      go_wp2_with (go_at_fn 86; refine HC1.out.mono ?_; rintro e w1 ⟨rfl, d1, hd1, he1, hS1⟩; have HD1 := Lib.hid he1; have S2 : Aside _ := hS1; clear he1 hS1)
      go_roundg (i - j + j)
      case measure => omega
      case rel => exact ⟨i - j, j, d1, by first | rfl | (congr 1; omega), rfl, by omega, hj, by omega, by omega, hbj, hd1, S2, Lib.hid (by rw [HD1.out, show m - (i - j) = m - i + j from by omega, ← HE.out]; exact rotF_left _ _ _ _ _ rfl (by omega))⟩
end Go.Proofs.Ythajgoigmkkbgaa

namespace Go.Proofs.Ythajgoigmkkbgaa
open Go.Shelf Go.RowKit Go.Lib Go.Sort
variable {P : Program} {α : Type} [Inhabited α]

set_option maxHeartbeats 4000000 in
set_option maxRecDepth 1000000 in
/-- symMergeCmpFunc where the left stretch has one element. -/
theorem symMerge_left (L : StbLays P) (k : Nat) (aE : ∀ w, (isAgg 74).run P w = .ok true w) (zE : ∀ w, (Go.sizeOf 74).run P w = .ok k w) (enc : α → List Value) (cf : α → α → Int) (hS : SWO (ltOf cf)) (g : Nat) (cb : Array Value) (blk off cap : Nat) (d0 : Array α) (w0 : World)
    (eg : ∀ args w, (callFunc g args).run P w = .ok (.enter g args) w) (hcmp : CmpLays P g cb enc k cf blk off d0.size w0) (R : RowK enc k w0 blk off d0)
    (a b : Nat) (d : Array α) (w : World) (hs : d.size = d0.size) (S : SWK enc k w0 blk off d w) (hab : a + 1 < b) (hb : b ≤ d.size) (hsz : d.size ≤ 4000) (so : sortF (ltOf cf) (getF d) (a + 1) b) :
    Calls P 83 #[.slice (some ⟨blk, off, none⟩) d.size cap, .int .i64 a, .int .i64 ((a : Int) + 1), .int .i64 b, .func (.func g) #[] cb] w fun e w' => e = .returned (.tuple #[]) ∧ ∃ d', Merged (ltOf cf) a b d d' ∧ SWK enc k w0 blk off d' w' := by
  have mixed := L.mixed; have t0 := L.t0; have a0 := L.a0; have z0 := L.z0; have v0 := L.v0; have t3 := L.t3; have a3 := L.a3; have z3 := L.z3; have v3 := L.v3; have t4 := L.t4; have a4 := L.a4; have z4 := L.z4; have v4 := L.v4; have t22 := L.t22; have a22 := L.a22; have z22 := L.z22; have v22 := L.v22; have t46 := L.t46; have a46 := L.a46; have z46 := L.z46; have v46 := L.v46; have t80 := L.t80; have a80 := L.a80; have z80 := L.z80; have v80 := L.v80
  have u22 := run_underlying L.t22
  have FG := L.f_sym
  have HC : Aside _ := hcmp
  have S0 : Aside (SWK enc k w0 blk off d w) := S
  have HS8 := Lib.hid hs
  clear S hcmp hs
  have HSo := Lib.hid so
  have HSW := Lib.hid hS
  clear so hS
  have q1 : (a : Int) + 1 - (a : Int) = 1 := by omega
  go_enter FG, Try.ntmps83
  go_wp2
  go_loopg [10, 11] (b - a) (fun kx s10 s11 wr => ∃ i j : Nat, s10 = .int .i64 i ∧ s11 = .int .i64 j ∧ a + 1 ≤ i ∧ i ≤ j ∧ j ≤ b ∧ j - i ≤ kx ∧ Aside (SWK enc k w0 blk off d wr) ∧ Hid ((∀ y, a + 1 ≤ y → y < i → ltOf cf (getF d y) (getF d a) = true) ∧ (∀ y, j ≤ y → y < b → ltOf cf (getF d y) (getF d a) = false)))
  case atStart => exact ⟨a + 1, b, by go_num, rfl, Nat.le_refl _, by omega, Nat.le_refl _, by omega, S0, Lib.hid ⟨fun y h1 h2 => by omega, fun y h1 h2 => by omega⟩⟩
  case round =>
    clear S0
    obtain ⟨i, j, rfl, rfl, hai, hij, hjb, hkx, S1, HI⟩ := hrel
    by_cases hlt : i < j
    · have hltz : (i : Int) < (j : Int) := by omega
      obtain ⟨h, hh⟩ : ∃ h : Nat, (i + j) / 2 = h := ⟨_, rfl⟩
      have hih : i ≤ h := by omega
      have hhj : h < j := by omega
      have hhz : ((i : Int) + (j : Int)) / 2 = (h : Int) := by omega
      clear hh
      go_wp2_with fail
      cases hL : ltOf cf d[h]! d[a]! with
      | true =>
        have ea1 : ((h : Int)).toNat = h := by omega
        have pa1 : (0 : Int) ≤ (h : Int) := by omega
        have ba1 : (h : Int) < (d.size : Int) := by omega
        have ra1 : IntKind.i64.wrap ((h : Int)) = (h : Int) := by rw [IntKind.wrap_i64]; omega
        have ec1 : ((a : Int)).toNat = a := by omega
        have pc1 : (0 : Int) ≤ (a : Int) := by omega
        have bc1 : (a : Int) < (d.size : Int) := by omega
        have rc1 : IntKind.i64.wrap ((a : Int)) = (a : Int) := by rw [IntKind.wrap_i64]; omega
        obtain ⟨x1, hx1⟩ : ∃ x, x = d[h]! := ⟨_, rfl⟩
        obtain ⟨y1, hy1⟩ : ∃ x, x = d[a]! := ⟨_, rfl⟩
        have l1a := S1.out.ld R HS8.out P (h) (by omega)
        have l1b := S1.out.ld R HS8.out P (a) (by omega)
        rw [← hx1] at l1a
        rw [← hy1] at l1b
        have hc1 := S1.out.cmp HC.out HS8.out x1 y1
        have hv1 : cf x1 y1 < 0 := by rw [hx1, hy1]; exact of_decide_eq_true hL
        have hd1 : decide (cf x1 y1 < 0) = true := decide_eq_true hv1
        clear hx1 hy1
        go_wp2_with fail
        go_quiet_grown (first | (go_at_fn g; refine Calls.grown_of (hc1 _ _)))
        have S2 : Aside (SWK enc k w0 blk off d (grow (wr.drewN nq) osq)) := S1.out.grown nq osq
        clear l1a l1b hc1 S1
        generalize grow (wr.drewN nq) osq = w2 at S2 ⊢
        clear nq osq
        go_wp2_with fail
        go_roundg (j - (h + 1))
        case measure => omega
        case rel =>
          have I2 : Hid ((∀ y, a + 1 ≤ y → y < h + 1 → ltOf cf (getF d y) (getF d a) = true) ∧ (∀ y, j ≤ y → y < b → ltOf cf (getF d y) (getF d a) = false)) := Lib.hid ⟨fun y h1 h2 => by
            by_cases c : y = h
            · subst c; exact hL
            · exact SWO.le_lt HSW.out (HSo.out _ _ h1 (by omega) (by omega)) hL, HI.out.2⟩
          exact ⟨h + 1, j, by go_num, rfl, by omega, by omega, hjb, Nat.le_refl _, S2, I2⟩
      | false =>
        have ea1 : ((h : Int)).toNat = h := by omega
        have pa1 : (0 : Int) ≤ (h : Int) := by omega
        have ba1 : (h : Int) < (d.size : Int) := by omega
        have ra1 : IntKind.i64.wrap ((h : Int)) = (h : Int) := by rw [IntKind.wrap_i64]; omega
        have ec1 : ((a : Int)).toNat = a := by omega
        have pc1 : (0 : Int) ≤ (a : Int) := by omega
        have bc1 : (a : Int) < (d.size : Int) := by omega
        have rc1 : IntKind.i64.wrap ((a : Int)) = (a : Int) := by rw [IntKind.wrap_i64]; omega
        obtain ⟨x1, hx1⟩ : ∃ x, x = d[h]! := ⟨_, rfl⟩
        obtain ⟨y1, hy1⟩ : ∃ x, x = d[a]! := ⟨_, rfl⟩
        have l1a := S1.out.ld R HS8.out P (h) (by omega)
        have l1b := S1.out.ld R HS8.out P (a) (by omega)
        rw [← hx1] at l1a
        rw [← hy1] at l1b
        have hc1 := S1.out.cmp HC.out HS8.out x1 y1
        have hv1 : ¬ cf x1 y1 < 0 := by rw [hx1, hy1]; exact of_decide_eq_false hL
        have hd1 : decide (cf x1 y1 < 0) = false := decide_eq_false hv1
        clear hx1 hy1
        go_wp2_with fail
        go_quiet_grown (first | (go_at_fn g; refine Calls.grown_of (hc1 _ _)))
        have S2 : Aside (SWK enc k w0 blk off d (grow (wr.drewN nq) osq)) := S1.out.grown nq osq
        clear l1a l1b hc1 S1
        generalize grow (wr.drewN nq) osq = w2 at S2 ⊢
        clear nq osq
        go_wp2_with fail
        go_roundg (h - i)
        case measure => omega
        case rel =>
          have I2 : Hid ((∀ y, a + 1 ≤ y → y < i → ltOf cf (getF d y) (getF d a) = true) ∧ (∀ y, h ≤ y → y < b → ltOf cf (getF d y) (getF d a) = false)) := Lib.hid ⟨HI.out.1, fun y h1 h2 => by
            by_cases c : y = h
            · subst c; exact hL
            · exact HSW.out.ntrans _ _ _ (HSo.out _ _ (by omega) (by omega) h2) hL⟩
          exact ⟨i, h, rfl, rfl, hai, hih, by omega, Nat.le_refl _, S2, I2⟩
    · have hltz : ¬ (i : Int) < (j : Int) := by omega
      have hji : j = i := by omega
      rw [hji] at HI hjb
      clear hji hij hkx
      go_wp2_with fail
      go_loopg [13] (i - a) (fun kx s13 wr2 => ∃ (t : Nat) (dk : Array α), s13 = .int .i64 t ∧ a ≤ t ∧ t + 1 ≤ i ∧ i - t ≤ kx ∧ dk.size = d.size ∧ Aside (SWK enc k w0 blk off dk wr2) ∧ Hid (getF dk = rotF (getF d) a (a + 1) (t + 1)))
      case atStart => exact ⟨a, d, rfl, Nat.le_refl _, by omega, by omega, rfl, S1, Lib.hid (rotF_end _ _ _).symm⟩
      case round =>
        clear S1
        obtain ⟨t, dk, rfl, hat, hti, hkx, hds, S3, HR⟩ := hrel
        by_cases hlt2 : t + 1 < i
        · have hlt2z : (t : Int) < (i : Int) - 1 := by omega
          have HR2 : Hid (getF (swp dk t (t + 1)) = rotF (getF d) a (a + 1) (t + 2)) := Lib.hid (getF_up hds hat (by omega) HR.out)
          go_wp2_with fail
          have ea2 : ((t : Int)).toNat = t := by omega
          have pa2 : (0 : Int) ≤ (t : Int) := by omega
          have ba2 : (t : Int) < (d.size : Int) := by omega
          have ra2 : IntKind.i64.wrap ((t : Int)) = (t : Int) := by rw [IntKind.wrap_i64]; omega
          have ec2 : ((t : Int) + 1).toNat = t + 1 := by omega
          have pc2 : (0 : Int) ≤ (t : Int) + 1 := by omega
          have bc2 : (t : Int) + 1 < (d.size : Int) := by omega
          have rc2 : IntKind.i64.wrap ((t : Int) + 1) = (t : Int) + 1 := by rw [IntKind.wrap_i64]; omega
          have S4 : Aside (SWK enc k w0 blk off (swp dk (t) (t + 1)) ((wr.drew.setCells blk (off + (t) * k) (enc dk[t + 1]!)).setCells blk (off + (t + 1) * k) (enc dk[t]!))) := S3.out.swapped R (t) (t + 1) (by omega) (by omega)
          have l2a := S3.out.ld1 R (hds.trans HS8.out) P (t) (by omega)
          have l2b := S3.out.ld1 R (hds.trans HS8.out) P (t + 1) (by omega)
          have s2a := S3.out.st1 R (hds.trans HS8.out) P (t) (by omega) dk[t + 1]!
          have s2b := S3.out.st2 R (hds.trans HS8.out) P (t) (t + 1) (by omega) (by omega) dk[t + 1]! dk[t]!
          have n2a : (enc dk[t]!).length = k := R.hk _
          have n2b : (enc dk[t + 1]!).length = k := R.hk _
          generalize enc dk[t]! = cI2 at S4 l2a s2b n2a
          generalize enc dk[t + 1]! = cJ2 at S4 l2b s2a s2b n2b
          clear S3
          go_big_region_o
          clear l2a l2b s2a s2b
          generalize (wr.drew.setCells blk (off + (t) * k) cJ2).setCells blk (off + (t + 1) * k) cI2 = w4 at S4 ⊢
          go_wp2
          go_roundg (i - (t + 1))
          case measure => omega
          case rel => exact ⟨t + 1, swp dk t (t + 1), by go_num, by omega, by omega, Nat.le_refl _, by rw [size_swp]; exact hds, S4, HR2⟩
        · have hlt2z : ¬ (t : Int) < (i : Int) - 1 := by omega
          have hti2 : t + 1 = i := by omega
          go_wp2_with fail
          (try simp only [Exit.inBlock, Exit.then]); refine bodyPost_ret (results_none rfl _ _ _) rfl ?_
          exact ⟨rfl, dk, merged_one_left HSW.out hds (by omega) hai hjb (by rw [HR.out, hti2]) HSo.out HI.out.1 HI.out.2, S3.out⟩

set_option maxHeartbeats 4000000 in
set_option maxRecDepth 1000000 in
/-- symMergeCmpFunc where the right stretch has one element, the left more. -/
theorem symMerge_right (L : StbLays P) (k : Nat) (aE : ∀ w, (isAgg 74).run P w = .ok true w) (zE : ∀ w, (Go.sizeOf 74).run P w = .ok k w) (enc : α → List Value) (cf : α → α → Int) (hS : SWO (ltOf cf)) (g : Nat) (cb : Array Value) (blk off cap : Nat) (d0 : Array α) (w0 : World)
    (eg : ∀ args w, (callFunc g args).run P w = .ok (.enter g args) w) (hcmp : CmpLays P g cb enc k cf blk off d0.size w0) (R : RowK enc k w0 blk off d0)
    (a m : Nat) (d : Array α) (w : World) (hs : d.size = d0.size) (S : SWK enc k w0 blk off d w) (ham : a + 1 < m) (hb : m + 1 ≤ d.size) (hsz : d.size ≤ 4000) (so : sortF (ltOf cf) (getF d) a m) :
    Calls P 83 #[.slice (some ⟨blk, off, none⟩) d.size cap, .int .i64 a, .int .i64 m, .int .i64 ((m : Int) + 1), .func (.func g) #[] cb] w fun e w' => e = .returned (.tuple #[]) ∧ ∃ d', Merged (ltOf cf) a (m + 1) d d' ∧ SWK enc k w0 blk off d' w' := by
  have mixed := L.mixed; have t0 := L.t0; have a0 := L.a0; have z0 := L.z0; have v0 := L.v0; have t3 := L.t3; have a3 := L.a3; have z3 := L.z3; have v3 := L.v3; have t4 := L.t4; have a4 := L.a4; have z4 := L.z4; have v4 := L.v4; have t22 := L.t22; have a22 := L.a22; have z22 := L.z22; have v22 := L.v22; have t46 := L.t46; have a46 := L.a46; have z46 := L.z46; have v46 := L.v46; have t80 := L.t80; have a80 := L.a80; have z80 := L.z80; have v80 := L.v80
  have u22 := run_underlying L.t22
  have FG := L.f_sym
  have HC : Aside _ := hcmp
  have S0 : Aside (SWK enc k w0 blk off d w) := S
  have HS8 := Lib.hid hs
  clear S hcmp hs
  have HSo := Lib.hid so
  have HSW := Lib.hid hS
  clear so hS
  have q1 : ((m : Int) - (a : Int) == 1) = false := by rw [beq_eq_false_iff_ne]; omega
  have q2 : (m : Int) + 1 - (m : Int) = 1 := by omega
  go_enter FG, Try.ntmps83
  go_wp2
  go_loopg [14, 15] (m - a) (fun kx s10 s11 wr => ∃ i j : Nat, s10 = .int .i64 i ∧ s11 = .int .i64 j ∧ a ≤ i ∧ i ≤ j ∧ j ≤ m ∧ j - i ≤ kx ∧ Aside (SWK enc k w0 blk off d wr) ∧ Hid ((∀ y, a ≤ y → y < i → ltOf cf (getF d m) (getF d y) = false) ∧ (∀ y, j ≤ y → y < m → ltOf cf (getF d m) (getF d y) = true)))
  case atStart => exact ⟨a, m, rfl, rfl, Nat.le_refl _, by omega, Nat.le_refl _, by omega, S0, Lib.hid ⟨fun y h1 h2 => by omega, fun y h1 h2 => by omega⟩⟩
  case round =>
    clear S0
    obtain ⟨i, j, rfl, rfl, hai, hij, hjb, hkx, S1, HI⟩ := hrel
    by_cases hlt : i < j
    · have hltz : (i : Int) < (j : Int) := by omega
      obtain ⟨h, hh⟩ : ∃ h : Nat, (i + j) / 2 = h := ⟨_, rfl⟩
      have hih : i ≤ h := by omega
      have hhj : h < j := by omega
      have hhz : ((i : Int) + (j : Int)) / 2 = (h : Int) := by omega
      clear hh
      go_wp2_with fail
      cases hL : ltOf cf d[m]! d[h]! with
      | false =>
        have ea1 : ((m : Int)).toNat = m := by omega
        have pa1 : (0 : Int) ≤ (m : Int) := by omega
        have ba1 : (m : Int) < (d.size : Int) := by omega
        have ra1 : IntKind.i64.wrap ((m : Int)) = (m : Int) := by rw [IntKind.wrap_i64]; omega
        have ec1 : ((h : Int)).toNat = h := by omega
        have pc1 : (0 : Int) ≤ (h : Int) := by omega
        have bc1 : (h : Int) < (d.size : Int) := by omega
        have rc1 : IntKind.i64.wrap ((h : Int)) = (h : Int) := by rw [IntKind.wrap_i64]; omega
        obtain ⟨x1, hx1⟩ : ∃ x, x = d[m]! := ⟨_, rfl⟩
        obtain ⟨y1, hy1⟩ : ∃ x, x = d[h]! := ⟨_, rfl⟩
        have l1a := S1.out.ld R HS8.out P (m) (by omega)
        have l1b := S1.out.ld R HS8.out P (h) (by omega)
        rw [← hx1] at l1a
        rw [← hy1] at l1b
        have hc1 := S1.out.cmp HC.out HS8.out x1 y1
        have hv1 : ¬ cf x1 y1 < 0 := by rw [hx1, hy1]; exact of_decide_eq_false hL
        have hd1 : decide (cf x1 y1 < 0) = false := decide_eq_false hv1
        clear hx1 hy1
        go_wp2_with fail
        go_quiet_grown (first | (go_at_fn g; refine Calls.grown_of (hc1 _ _)))
        have S2 : Aside (SWK enc k w0 blk off d (grow (wr.drewN nq) osq)) := S1.out.grown nq osq
        clear l1a l1b hc1 S1
        generalize grow (wr.drewN nq) osq = w2 at S2 ⊢
        clear nq osq
        go_wp2_with fail
        go_roundg (j - (h + 1))
        case measure => omega
        case rel =>
          have I2 : Hid ((∀ y, a ≤ y → y < h + 1 → ltOf cf (getF d m) (getF d y) = false) ∧ (∀ y, j ≤ y → y < m → ltOf cf (getF d m) (getF d y) = true)) := Lib.hid ⟨fun y h1 h2 => by
            by_cases c : y = h
            · subst c; exact hL
            · exact HSW.out.ntrans _ _ _ hL (HSo.out _ _ h1 (by omega) (by omega)), HI.out.2⟩
          exact ⟨h + 1, j, by go_num, rfl, by omega, by omega, hjb, Nat.le_refl _, S2, I2⟩
      | true =>
        have ea1 : ((m : Int)).toNat = m := by omega
        have pa1 : (0 : Int) ≤ (m : Int) := by omega
        have ba1 : (m : Int) < (d.size : Int) := by omega
        have ra1 : IntKind.i64.wrap ((m : Int)) = (m : Int) := by rw [IntKind.wrap_i64]; omega
        have ec1 : ((h : Int)).toNat = h := by omega
        have pc1 : (0 : Int) ≤ (h : Int) := by omega
        have bc1 : (h : Int) < (d.size : Int) := by omega
        have rc1 : IntKind.i64.wrap ((h : Int)) = (h : Int) := by rw [IntKind.wrap_i64]; omega
        obtain ⟨x1, hx1⟩ : ∃ x, x = d[m]! := ⟨_, rfl⟩
        obtain ⟨y1, hy1⟩ : ∃ x, x = d[h]! := ⟨_, rfl⟩
        have l1a := S1.out.ld R HS8.out P (m) (by omega)
        have l1b := S1.out.ld R HS8.out P (h) (by omega)
        rw [← hx1] at l1a
        rw [← hy1] at l1b
        have hc1 := S1.out.cmp HC.out HS8.out x1 y1
        have hv1 : cf x1 y1 < 0 := by rw [hx1, hy1]; exact of_decide_eq_true hL
        have hd1 : decide (cf x1 y1 < 0) = true := decide_eq_true hv1
        clear hx1 hy1
        go_wp2_with fail
        go_quiet_grown (first | (go_at_fn g; refine Calls.grown_of (hc1 _ _)))
        have S2 : Aside (SWK enc k w0 blk off d (grow (wr.drewN nq) osq)) := S1.out.grown nq osq
        clear l1a l1b hc1 S1
        generalize grow (wr.drewN nq) osq = w2 at S2 ⊢
        clear nq osq
        go_wp2_with fail
        go_roundg (h - i)
        case measure => omega
        case rel =>
          have I2 : Hid ((∀ y, a ≤ y → y < i → ltOf cf (getF d m) (getF d y) = false) ∧ (∀ y, h ≤ y → y < m → ltOf cf (getF d m) (getF d y) = true)) := Lib.hid ⟨HI.out.1, fun y h1 h2 => by
            by_cases c : y = h
            · subst c; exact hL
            · exact SWO.lt_le HSW.out hL (HSo.out _ _ (by omega) (by omega) h2)⟩
          exact ⟨i, h, rfl, rfl, hai, hih, by omega, Nat.le_refl _, S2, I2⟩
    · have hltz : ¬ (i : Int) < (j : Int) := by omega
      have hji : j = i := by omega
      rw [hji] at HI hjb
      clear hji hij hkx
      go_wp2_with fail
      go_loopg [17] (m - a) (fun kx s13 wr2 => ∃ (t : Nat) (dk : Array α), s13 = .int .i64 t ∧ i ≤ t ∧ t ≤ m ∧ t - i ≤ kx ∧ dk.size = d.size ∧ Aside (SWK enc k w0 blk off dk wr2) ∧ Hid (getF dk = rotF (getF d) t m (m + 1)))
      case atStart => exact ⟨m, d, rfl, hjb, Nat.le_refl _, by omega, rfl, S1, Lib.hid (rotF_same _ _ _).symm⟩
      case round =>
        clear S1
        obtain ⟨t, dk, rfl, hat, hti, hkx, hds, S3, HR⟩ := hrel
        by_cases hlt2 : i < t
        · obtain ⟨u, rfl⟩ : ∃ u, t = u + 1 := ⟨t - 1, by omega⟩
          have hlt2z : (i : Int) < (u : Int) + 1 := by omega
          have HR2 : Hid (getF (swp dk (u + 1) u) = rotF (getF d) u m (m + 1)) := Lib.hid (getF_down hds hti (by omega) HR.out)
          go_wp2_with fail
          have ea2 : ((u : Int) + 1).toNat = u + 1 := by omega
          have pa2 : (0 : Int) ≤ (u : Int) + 1 := by omega
          have ba2 : (u : Int) + 1 < (d.size : Int) := by omega
          have ra2 : IntKind.i64.wrap ((u : Int) + 1) = (u : Int) + 1 := by rw [IntKind.wrap_i64]; omega
          have ec2 : ((u : Int)).toNat = u := by omega
          have pc2 : (0 : Int) ≤ (u : Int) := by omega
          have bc2 : (u : Int) < (d.size : Int) := by omega
          have rc2 : IntKind.i64.wrap ((u : Int)) = (u : Int) := by rw [IntKind.wrap_i64]; omega
          have S4 : Aside (SWK enc k w0 blk off (swp dk (u + 1) (u)) ((wr.drew.setCells blk (off + (u + 1) * k) (enc dk[u]!)).setCells blk (off + (u) * k) (enc dk[u + 1]!))) := S3.out.swapped R (u + 1) (u) (by omega) (by omega)
          have l2a := S3.out.ld1 R (hds.trans HS8.out) P (u + 1) (by omega)
          have l2b := S3.out.ld1 R (hds.trans HS8.out) P (u) (by omega)
          have s2a := S3.out.st1 R (hds.trans HS8.out) P (u + 1) (by omega) dk[u]!
          have s2b := S3.out.st2 R (hds.trans HS8.out) P (u + 1) (u) (by omega) (by omega) dk[u]! dk[u + 1]!
          have n2a : (enc dk[u + 1]!).length = k := R.hk _
          have n2b : (enc dk[u]!).length = k := R.hk _
          generalize enc dk[u + 1]! = cI2 at S4 l2a s2b n2a
          generalize enc dk[u]! = cJ2 at S4 l2b s2a s2b n2b
          clear S3
          go_big_region_o
          clear l2a l2b s2a s2b
          generalize (wr.drew.setCells blk (off + (u + 1) * k) cJ2).setCells blk (off + (u) * k) cI2 = w4 at S4 ⊢
          go_wp2
          go_roundg (u - i)
          case measure => omega
          case rel => exact ⟨u, swp dk (u + 1) u, by first | rfl | go_num | (congr 1; omega), by omega, by omega, Nat.le_refl _, by rw [size_swp]; exact hds, S4, HR2⟩
        · have hlt2z : ¬ (i : Int) < (t : Int) := by omega
          have hti2 : t = i := by omega
          go_wp2_with fail
          (try simp only [Exit.inBlock, Exit.then]); refine bodyPost_ret (results_none rfl _ _ _) rfl ?_
          exact ⟨rfl, dk, merged_one_right HSW.out hds hb hai hjb (by rw [HR.out, hti2]) HSo.out HI.out.1 HI.out.2, S3.out⟩

end Go.Proofs.Ythajgoigmkkbgaa

namespace Go.Proofs.Ythajgoigmkkbgaa
open Go.Shelf Go.RowKit Go.Lib Go.Sort
variable {P : Program} {α : Type} [Inhabited α]

section
omit [Inhabited α]
theorem rot_sort1 {lt : α → α → Bool} {f : Nat → α} {a m st en : Nat} (h : sortF lt f a m) (_h1 : st ≤ m) : sortF lt (rotF f st m en) a st := fun i j g1 g2 g3 => by
  unfold rotF; rw [if_pos (by omega : j < st ∨ en ≤ j), if_pos (by omega : i < st ∨ en ≤ i)]; exact h i j g1 g2 (by omega)
theorem rot_sort2 {lt : α → α → Bool} {f : Nat → α} {m b st en mid : Nat} (h : sortF lt f m b) (_h1 : st ≤ m) (h2 : m ≤ en) (h3 : en ≤ b) (h4 : st + (en - m) = mid) : sortF lt (rotF f st m en) st mid := fun i j g1 g2 g3 => by
  unfold rotF; rw [if_neg (by omega : ¬ (j < st ∨ en ≤ j)), if_neg (by omega : ¬ (i < st ∨ en ≤ i)), if_pos (by omega), if_pos (by omega)]; exact h _ _ (by omega) (by omega) (by omega)
theorem rot_sort3 {lt : α → α → Bool} {f : Nat → α} {a m st en mid : Nat} (h : sortF lt f a m) (h0 : a ≤ st) (_h1 : st ≤ m) (h2 : m ≤ en) (h4 : st + (en - m) = mid) : sortF lt (rotF f st m en) mid en := fun i j g1 g2 g3 => by
  unfold rotF; rw [if_neg (by omega : ¬ (j < st ∨ en ≤ j)), if_neg (by omega : ¬ (i < st ∨ en ≤ i)), if_neg (by omega), if_neg (by omega)]; exact h _ _ (by omega) (by omega) (by omega)
theorem rot_sort4 {lt : α → α → Bool} {f : Nat → α} {m b st en : Nat} (h : sortF lt f m b) (h2 : m ≤ en) : sortF lt (rotF f st m en) en b := fun i j g1 g2 g3 => by
  unfold rotF; rw [if_pos (by omega : j < st ∨ en ≤ j), if_pos (by omega : i < st ∨ en ≤ i)]; exact h _ _ (by omega) (by omega) (by omega)
theorem sortF_part {lt : α → α → Bool} {f : Nat → α} {a b a' b' : Nat} (h : sortF lt f a b) (h1 : a ≤ a') (h2 : b' ≤ b) : sortF lt f a' b' := fun i j g1 g2 g3 => h i j (by omega) g2 (by omega)
theorem sortF_congr {lt : α → α → Bool} {f f' : Nat → α} {a b : Nat} (h : sortF lt f a b) (he : ∀ i, a ≤ i → i < b → f' i = f i) : sortF lt f' a b := fun i j g1 g2 g3 => by rw [he i g1 (by omega), he j (by omega) g3]; exact h i j g1 g2 g3
end

set_option maxHeartbeats 8000000 in
set_option maxRecDepth 1000000 in
/-- symMergeCmpFunc where both stretches have more than one element, under its own contract at less. -/
theorem symMerge_mid (L : StbLays P) (k : Nat) (aE : ∀ w, (isAgg 74).run P w = .ok true w) (zE : ∀ w, (Go.sizeOf 74).run P w = .ok k w) (enc : α → List Value) (cf : α → α → Int) (hS : SWO (ltOf cf)) (g : Nat) (cb : Array Value) (blk off cap : Nat) (d0 : Array α) (w0 : World)
    (eg : ∀ args w, (callFunc g args).run P w = .ok (.enter g args) w) (hcmp : CmpLays P g cb enc k cf blk off d0.size w0) (R : RowK enc k w0 blk off d0)
    (a m b : Nat) (d : Array α) (w : World) (hs : d.size = d0.size) (S : SWK enc k w0 blk off d w) (ham : a + 1 < m) (hmb : m + 1 < b) (hb : b ≤ d.size) (hsz : d.size ≤ 4000) (so1 : sortF (ltOf cf) (getF d) a m) (so2 : sortF (ltOf cf) (getF d) m b)
    (IH : ∀ (a' m' b' : Nat) (d1 : Array α) (w1 : World), b' - a' < b - a → d1.size = d.size → SWK enc k w0 blk off d1 w1 → a' < m' → m' < b' → b' ≤ d.size → sortF (ltOf cf) (getF d1) a' m' → sortF (ltOf cf) (getF d1) m' b' → Calls P 83 #[.slice (some ⟨blk, off, none⟩) d.size cap, .int .i64 a', .int .i64 m', .int .i64 b', .func (.func g) #[] cb] w1 fun e w' => e = .returned (.tuple #[]) ∧ ∃ d', Merged (ltOf cf) a' b' d1 d' ∧ SWK enc k w0 blk off d' w') :
    Calls P 83 #[.slice (some ⟨blk, off, none⟩) d.size cap, .int .i64 a, .int .i64 m, .int .i64 b, .func (.func g) #[] cb] w fun e w' => e = .returned (.tuple #[]) ∧ ∃ d', Merged (ltOf cf) a b d d' ∧ SWK enc k w0 blk off d' w' := by
  have HRot : Hid (∀ (x y z : Nat) (w1 : World), SWK enc k w0 blk off d w1 → x < y → y < z → z ≤ d.size → Calls P 85 #[.slice (some ⟨blk, off, none⟩) d.size cap, .int .i64 x, .int .i64 y, .int .i64 z, .func (.func g) #[] cb] w1 fun e w' => e = .returned (.tuple #[]) ∧ ∃ d', d'.size = d.size ∧ getF d' = rotF (getF d) x y z ∧ SWK enc k w0 blk off d' w') := Lib.hid (fun x y z w1 h1 h2 h3 h4 => rotate_any L k aE zE enc g cb blk off cap x y z d0 d w0 w1 R hs h1 h2 h3 h4 hsz)
  have e55 : ∀ args w, (callFunc 85 args).run P w = .ok (.enter 85 args) w := enters_of L.f_rot (by kernel_rfl) rfl
  have e51 : ∀ args w, (callFunc 83 args).run P w = .ok (.enter 83 args) w := enters_of L.f_sym (by kernel_rfl) rfl
  have HIH := Lib.hid IH
  clear IH
  have mixed := L.mixed; have t0 := L.t0; have a0 := L.a0; have z0 := L.z0; have v0 := L.v0; have t3 := L.t3; have a3 := L.a3; have z3 := L.z3; have v3 := L.v3; have t4 := L.t4; have a4 := L.a4; have z4 := L.z4; have v4 := L.v4; have t22 := L.t22; have a22 := L.a22; have z22 := L.z22; have v22 := L.v22; have t46 := L.t46; have a46 := L.a46; have z46 := L.z46; have v46 := L.v46; have t80 := L.t80; have a80 := L.a80; have z80 := L.z80; have v80 := L.v80
  have u22 := run_underlying L.t22
  have FG := L.f_sym
  have HC : Aside _ := hcmp
  have S0 : Aside (SWK enc k w0 blk off d w) := S
  have HS8 := Lib.hid hs
  clear S hcmp hs
  have HSo1 := Lib.hid so1
  have HSo2 := Lib.hid so2
  have HSW := Lib.hid hS
  clear so1 so2 hS
  have q1 : ((m : Int) - (a : Int) == 1) = false := by rw [beq_eq_false_iff_ne]; omega
  have q2 : ((b : Int) - (m : Int) == 1) = false := by rw [beq_eq_false_iff_ne]; omega
  obtain ⟨mid, hmid⟩ : ∃ mid : Nat, (a + b) / 2 = mid := ⟨_, rfl⟩
  have hm1 : 2 * mid ≤ a + b := by omega
  have hm2 : a + b ≤ 2 * mid + 1 := by omega
  have hmz : ((a : Int) + (b : Int)) / 2 = (mid : Int) := by omega
  clear hmid
  go_enter FG, Try.ntmps83
  go_upto_if 140 with fail
  go_cut [20, 21] from 138 (fun s r wc => ∃ lo hi : Nat, s = .int .i64 lo ∧ r = .int .i64 hi ∧ a ≤ lo ∧ lo ≤ hi ∧ hi ≤ m ∧ mid + m ≤ lo + b ∧ hi ≤ mid ∧ (lo = a ∨ lo + b = mid + m) ∧ (hi = m ∨ hi = mid) ∧ wc = w)
  case first =>
    by_cases hc : mid < m
    · have hcz : (mid : Int) < (m : Int) := by omega
      go_wp2_with fail
      go_meet
      case rel => exact ⟨mid + m - b, mid, by congr 1; omega, rfl, by omega, by omega, by omega, by omega, Nat.le_refl _, Or.inr (by omega), Or.inr rfl, rfl⟩
    · have hcz : ¬ (mid : Int) < (m : Int) := by omega
      go_wp2_with fail
      go_meet
      case rel => exact ⟨a, m, rfl, rfl, Nat.le_refl _, by omega, Nat.le_refl _, by omega, by omega, Or.inl rfl, Or.inl rfl, rfl⟩
  case rest =>
    obtain ⟨lo, hi, rfl, rfl, hlo1, hlo2, hhi1, hlo3, hhi2, hloE, hhiE, rfl⟩ := hcut
    go_wp2_with fail
    go_loopg [20, 21] (hi - lo) (fun kx s10 s11 wr => ∃ i j : Nat, s10 = .int .i64 i ∧ s11 = .int .i64 j ∧ lo ≤ i ∧ i ≤ j ∧ j ≤ hi ∧ j - i ≤ kx ∧ Aside (SWK enc k w0 blk off d wr) ∧ Hid ((∀ c, lo ≤ c → c < i → ltOf cf (getF d (mid + m - 1 - c)) (getF d c) = false) ∧ (∀ c, j ≤ c → c < hi → ltOf cf (getF d (mid + m - 1 - c)) (getF d c) = true)))
    case atStart => exact ⟨lo, hi, rfl, rfl, Nat.le_refl _, hlo2, Nat.le_refl _, Nat.le_refl _, S0, Lib.hid ⟨fun y h1 h2 => by omega, fun y h1 h2 => by omega⟩⟩
    case round =>
      clear S0
      obtain ⟨i, j, rfl, rfl, hai, hij, hjb, hkx, S1, HI⟩ := hrel
      by_cases hlt : i < j
      · have hltz : (i : Int) < (j : Int) := by omega
        obtain ⟨h, hh⟩ : ∃ h : Nat, (i + j) / 2 = h := ⟨_, rfl⟩
        have hih : i ≤ h := by omega
        have hhj : h < j := by omega
        have hhz : ((i : Int) + (j : Int)) / 2 = (h : Int) := by omega
        clear hh
        obtain ⟨v, hv⟩ : ∃ v : Nat, mid + m - 1 - h = v := ⟨_, rfl⟩
        have hvm1 : m ≤ v := by omega
        have hvm2 : v < b := by omega
        have hvz : (mid : Int) + (m : Int) - 1 - (h : Int) = (v : Int) := by omega
        have HV : Hid (v + h + 1 = mid + m) := Lib.hid (by omega)
        clear hv
        go_wp2_with fail
        cases hL : ltOf cf d[v]! d[h]! with
        | false =>
          have ea1 : ((v : Int)).toNat = v := by omega
          have pa1 : (0 : Int) ≤ (v : Int) := by omega
          have ba1 : (v : Int) < (d.size : Int) := by omega
          have ra1 : IntKind.i64.wrap ((v : Int)) = (v : Int) := by rw [IntKind.wrap_i64]; omega
          have ec1 : ((h : Int)).toNat = h := by omega
          have pc1 : (0 : Int) ≤ (h : Int) := by omega
          have bc1 : (h : Int) < (d.size : Int) := by omega
          have rc1 : IntKind.i64.wrap ((h : Int)) = (h : Int) := by rw [IntKind.wrap_i64]; omega
          obtain ⟨x1, hx1⟩ : ∃ x, x = d[v]! := ⟨_, rfl⟩
          obtain ⟨y1, hy1⟩ : ∃ x, x = d[h]! := ⟨_, rfl⟩
          have l1a := S1.out.ld R HS8.out P (v) (by omega)
          have l1b := S1.out.ld R HS8.out P (h) (by omega)
          rw [← hx1] at l1a
          rw [← hy1] at l1b
          have hc1 := S1.out.cmp HC.out HS8.out x1 y1
          have hv1 : ¬ cf x1 y1 < 0 := by rw [hx1, hy1]; exact of_decide_eq_false hL
          have hd1 : decide (cf x1 y1 < 0) = false := decide_eq_false hv1
          clear hx1 hy1
          go_wp2_with fail
          go_quiet_grown (first | (go_at_fn g; refine Calls.grown_of (hc1 _ _)))
          have S2 : Aside (SWK enc k w0 blk off d (grow (wr.drewN nq) osq)) := S1.out.grown nq osq
          clear l1a l1b hc1 S1
          generalize grow (wr.drewN nq) osq = w2 at S2 ⊢
          clear nq osq
          go_wp2_with fail
          go_roundg (j - (h + 1))
          case measure => omega
          case rel =>
            have I2 : Hid ((∀ c, lo ≤ c → c < h + 1 → ltOf cf (getF d (mid + m - 1 - c)) (getF d c) = false) ∧ (∀ c, j ≤ c → c < hi → ltOf cf (getF d (mid + m - 1 - c)) (getF d c) = true)) := Lib.hid ⟨fun y h1 h2 => by
              have hV := HV.out
              by_cases c : y = h
              · subst c; rw [show mid + m - 1 - y = v from by omega]; exact hL
              · exact HSW.out.ntrans _ _ _ (HSW.out.ntrans _ _ _ (HSo2.out v (mid + m - 1 - y) hvm1 (by omega) (by omega)) hL) (HSo1.out y h (by omega) (by omega) (by omega)), HI.out.2⟩
            exact ⟨h + 1, j, by go_num, rfl, by omega, by omega, hjb, Nat.le_refl _, S2, I2⟩
        | true =>
          have ea1 : ((v : Int)).toNat = v := by omega
          have pa1 : (0 : Int) ≤ (v : Int) := by omega
          have ba1 : (v : Int) < (d.size : Int) := by omega
          have ra1 : IntKind.i64.wrap ((v : Int)) = (v : Int) := by rw [IntKind.wrap_i64]; omega
          have ec1 : ((h : Int)).toNat = h := by omega
          have pc1 : (0 : Int) ≤ (h : Int) := by omega
          have bc1 : (h : Int) < (d.size : Int) := by omega
          have rc1 : IntKind.i64.wrap ((h : Int)) = (h : Int) := by rw [IntKind.wrap_i64]; omega
          obtain ⟨x1, hx1⟩ : ∃ x, x = d[v]! := ⟨_, rfl⟩
          obtain ⟨y1, hy1⟩ : ∃ x, x = d[h]! := ⟨_, rfl⟩
          have l1a := S1.out.ld R HS8.out P (v) (by omega)
          have l1b := S1.out.ld R HS8.out P (h) (by omega)
          rw [← hx1] at l1a
          rw [← hy1] at l1b
          have hc1 := S1.out.cmp HC.out HS8.out x1 y1
          have hv1 : cf x1 y1 < 0 := by rw [hx1, hy1]; exact of_decide_eq_true hL
          have hd1 : decide (cf x1 y1 < 0) = true := decide_eq_true hv1
          clear hx1 hy1
          go_wp2_with fail
          go_quiet_grown (first | (go_at_fn g; refine Calls.grown_of (hc1 _ _)))
          have S2 : Aside (SWK enc k w0 blk off d (grow (wr.drewN nq) osq)) := S1.out.grown nq osq
          clear l1a l1b hc1 S1
          generalize grow (wr.drewN nq) osq = w2 at S2 ⊢
          clear nq osq
          go_wp2_with fail
          go_roundg (h - i)
          case measure => omega
          case rel =>
            have I2 : Hid ((∀ c, lo ≤ c → c < i → ltOf cf (getF d (mid + m - 1 - c)) (getF d c) = false) ∧ (∀ c, h ≤ c → c < hi → ltOf cf (getF d (mid + m - 1 - c)) (getF d c) = true)) := Lib.hid ⟨HI.out.1, fun y h1 h2 => by
              have hV := HV.out
              by_cases c : y = h
              · subst c; rw [show mid + m - 1 - y = v from by omega]; exact hL
              · exact SWO.lt_le HSW.out (SWO.le_lt HSW.out (HSo2.out (mid + m - 1 - y) v (by omega) (by omega) (by omega)) hL) (HSo1.out h y (by omega) (by omega) (by omega))⟩
            exact ⟨i, h, rfl, rfl, hai, hih, by omega, Nat.le_refl _, S2, I2⟩
      · have hltz : ¬ (i : Int) < (j : Int) := by omega
        have hji : j = i := by omega
        rw [hji] at HI hjb
        clear hij hkx
        obtain ⟨en, hen⟩ : ∃ en : Nat, mid + m - i = en := ⟨_, rfl⟩
        have hen1 : m ≤ en := by omega
        have hen2 : en ≤ b := by omega
        have hen3 : i + (en - m) = mid := by omega
        have henz : (mid : Int) + (m : Int) - (i : Int) = (en : Int) := by omega
        have hX : Hid (a < i → en < b → ltOf cf (getF d en) (getF d (i - 1)) = false) := Lib.hid (fun h1 h2 => by
          have := HI.out.1 (i - 1) (by omega) (by omega)
          rw [show mid + m - 1 - (i - 1) = en from by omega] at this
          exact this)
        have hY : Hid (i < m → m < en → ltOf cf (getF d (en - 1)) (getF d i) = true) := Lib.hid (fun h1 h2 => by
          have := HI.out.2 i (Nat.le_refl _) (by omega)
          rw [show mid + m - 1 - i = en - 1 from by omega] at this
          exact this)
        have hia : a ≤ i := by omega
        have him : i ≤ m := by omega
        clear hen HI hlt hloE hhiE hji
        have HEnd : Hid (∀ d1 d2 d3, d1.size = d.size → getF d1 = rotF (getF d) i m en → Merged (ltOf cf) a mid d1 d2 → Merged (ltOf cf) mid b d2 d3 → Merged (ltOf cf) a b d d3) := Lib.hid (fun d1 d2 d3 g1 g2 g3 g4 => merged_halves HSW.out (by omega) (by omega) hb hia him hen1 hen2 hen3 HSo1.out HSo2.out hX.out hY.out g1 g2 g3 g4)
        go_upto_region 39 with fail
        go_cut [185] from 178 (fun v wx => v = .bool (decide (i < m ∧ m < en)) ∧ wx = wr)
        case first =>
          by_cases hc1 : i < m
          · have c1 : (i : Int) < (m : Int) := by omega
            have c1' : decide ((i : Int) < (m : Int)) = true := by rw [decide_eq_true_iff]; exact c1
            by_cases hc2 : m < en
            · have c2 : (m : Int) < (en : Int) := by omega
              go_wp2_with fail
              go_meet
              case rel => exact ⟨by rw [decide_eq_true (⟨hc1, hc2⟩ : i < m ∧ m < en)], rfl⟩
            · have c2 : ¬ (m : Int) < (en : Int) := by omega
              go_wp2_with fail
              go_meet
              case rel => exact ⟨by rw [decide_eq_false (fun h : i < m ∧ m < en => hc2 h.2)], rfl⟩
          · have c1 : ¬ (i : Int) < (m : Int) := by omega
            go_wp2_with fail
            go_meet
            case rel => exact ⟨by rw [decide_eq_false (fun h : i < m ∧ m < en => hc1 h.1)], rfl⟩
        case rest =>
          obtain ⟨rfl, rfl⟩ := hcut
          go_upto_if 185 with fail
          go_cut [20] from 178 (fun s wc => s = .int .i64 i ∧ ∃ d1, d1.size = d.size ∧ Hid (getF d1 = rotF (getF d) i m en) ∧ Aside (SWK enc k w0 blk off d1 wc))
          case first =>
            by_cases hc : i < m ∧ m < en
            · rw [decide_eq_true hc]
              have HR := Lib.hid (HRot.out i m en _ S1.out hc.1 hc.2 (by omega))
              clear hc
              go_wp2_with (go_at_fn 85; refine HR.out.mono ?_; rintro e w1 ⟨rfl, d1, hd1, he1, hS1⟩; have HD1 := Lib.hid he1; have S2 : Aside _ := hS1; clear he1 hS1)
              go_meet
              case rel => exact ⟨rfl, d1, hd1, HD1, S2⟩
            · rw [decide_eq_false hc]
              have hR : Hid (getF d = rotF (getF d) i m en) := Lib.hid (by
                by_cases hc1 : i < m
                · rw [show en = m from by omega, rotF_end]
                · rw [show i = m from by omega, rotF_same])
              clear hc
              go_wp2_with fail
              go_meet
              case rel => exact ⟨rfl, d, rfl, hR, S1⟩
          case rest =>
            clear S1
            obtain ⟨rfl, d1, hd1, HD1, S2⟩ := hcut
            go_upto_region 41 with fail
            go_cut [199] from 192 (fun v wx => v = .bool (decide (a < i ∧ i < mid)) ∧ wx = wc)
            case first =>
              by_cases hc1 : a < i
              · have c1 : (a : Int) < (i : Int) := by omega
                have c1' : decide ((a : Int) < (i : Int)) = true := by rw [decide_eq_true_iff]; exact c1
                by_cases hc2 : i < mid
                · have c2 : (i : Int) < (mid : Int) := by omega
                  go_wp2_with fail
                  go_meet
                  case rel => exact ⟨by rw [decide_eq_true (⟨hc1, hc2⟩ : a < i ∧ i < mid)], rfl⟩
                · have c2 : ¬ (i : Int) < (mid : Int) := by omega
                  go_wp2_with fail
                  go_meet
                  case rel => exact ⟨by rw [decide_eq_false (fun h : a < i ∧ i < mid => hc2 h.2)], rfl⟩
              · have c1 : ¬ (a : Int) < (i : Int) := by omega
                go_wp2_with fail
                go_meet
                case rel => exact ⟨by rw [decide_eq_false (fun h : a < i ∧ i < mid => hc1 h.1)], rfl⟩
            case rest =>
              obtain ⟨rfl, rfl⟩ := hcut
              go_upto_if 199 with fail
              go_cut [20] from 192 (fun s wc => s = .int .i64 i ∧ ∃ d2, Hid (Merged (ltOf cf) a mid d1 d2) ∧ Aside (SWK enc k w0 blk off d2 wc))
              case first =>
                by_cases hc : a < i ∧ i < mid
                · rw [decide_eq_true hc]
                  have HR := Lib.hid (HIH.out a i mid d1 _ (by omega) hd1 S2.out hc.1 hc.2 (by omega) (by rw [HD1.out]; exact rot_sort1 HSo1.out him) (by rw [HD1.out]; exact rot_sort2 HSo2.out him hen1 hen2 hen3))
                  clear hc
                  go_wp2_with (go_at_fn 83; refine HR.out.mono ?_; rintro e w1 ⟨rfl, d2, hd2, hS2⟩; have HD2 := Lib.hid hd2; have S3 : Aside _ := hS2; clear hd2 hS2)
                  go_meet
                  case rel => exact ⟨rfl, d2, HD2, S3⟩
                · rw [decide_eq_false hc]
                  have HM : Hid (Merged (ltOf cf) a mid d1 d1) := Lib.hid (Merged.none_ (by
                    rw [HD1.out]
                    by_cases hc1 : a < i
                    · rw [show mid = i from by omega]; exact rot_sort1 HSo1.out him
                    · rw [show a = i from by omega]; exact rot_sort2 HSo2.out him hen1 hen2 hen3))
                  clear hc
                  go_wp2_with fail
                  go_meet
                  case rel => exact ⟨rfl, d1, HM, S2⟩
              case rest =>
                clear S2
                obtain ⟨rfl, d2, HM2, S3⟩ := hcut
                have hd2 : d2.size = d.size := by rw [HM2.out.size, hd1]
                have HS3 : Hid (sortF (ltOf cf) (getF d2) mid en) := Lib.hid (sortF_congr (by rw [HD1.out]; exact rot_sort3 HSo1.out hia him hen1 hen3) (fun x h1 h2 => HM2.out.out x (Or.inr h1)))
                have HS4 : Hid (sortF (ltOf cf) (getF d2) en b) := Lib.hid (sortF_congr (by rw [HD1.out]; exact rot_sort4 HSo2.out hen1) (fun x h1 h2 => HM2.out.out x (Or.inr (by omega))))
                go_upto_region 43 with fail
                go_cut [213] from 206 (fun v wx => v = .bool (decide (mid < en ∧ en < b)) ∧ wx = wc)
                case first =>
                  by_cases hc1 : mid < en
                  · have c1 : (mid : Int) < (en : Int) := by omega
                    have c1' : decide ((mid : Int) < (en : Int)) = true := by rw [decide_eq_true_iff]; exact c1
                    by_cases hc2 : en < b
                    · have c2 : (en : Int) < (b : Int) := by omega
                      go_wp2_with fail
                      go_meet
                      case rel => exact ⟨by rw [decide_eq_true (⟨hc1, hc2⟩ : mid < en ∧ en < b)], rfl⟩
                    · have c2 : ¬ (en : Int) < (b : Int) := by omega
                      go_wp2_with fail
                      go_meet
                      case rel => exact ⟨by rw [decide_eq_false (fun h : mid < en ∧ en < b => hc2 h.2)], rfl⟩
                  · have c1 : ¬ (mid : Int) < (en : Int) := by omega
                    go_wp2_with fail
                    go_meet
                    case rel => exact ⟨by rw [decide_eq_false (fun h : mid < en ∧ en < b => hc1 h.1)], rfl⟩
                case rest =>
                  obtain ⟨rfl, rfl⟩ := hcut
                  by_cases hc : mid < en ∧ en < b
                  · rw [decide_eq_true hc]
                    have HR := Lib.hid (HIH.out mid en b d2 _ (by omega) hd2 S3.out hc.1 hc.2 hb HS3.out HS4.out)
                    clear hc
                    go_wp2_with (go_at_fn 83; refine HR.out.mono ?_; rintro e w1 ⟨rfl, d3, hd3, hS3⟩; have HM3 := Lib.hid (HEnd.out d1 d2 d3 hd1 HD1.out HM2.out hd3); have S4 : Aside _ := hS3; clear hd3 hS3)
                    go_end0
                    exact ⟨rfl, d3, HM3.out, S4.out⟩
                  · rw [decide_eq_false hc]
                    have HM3 := Lib.hid (HEnd.out d1 d2 d2 hd1 HD1.out HM2.out (Merged.none_ (by
                      by_cases hc1 : mid < en
                      · rw [show b = en from by omega]; exact HS3.out
                      · rw [show mid = en from by omega]; exact HS4.out)))
                    clear hc
                    go_wp2_with fail
                    go_end0
                    exact ⟨rfl, d2, HM3.out, S3.out⟩

end Go.Proofs.Ythajgoigmkkbgaa

namespace Go.Proofs.Ythajgoigmkkbgaa
open Go.Sort
variable {α : Type} [Inhabited α]

theorem sort_kept {lt : α → α → Bool} {d d' : Array α} {a b x y : Nat} (M : Merged lt a b d d') (h : sortF lt (getF d) x y) (hd : y ≤ a ∨ b ≤ x) : sortF lt (getF d') x y := fun i j g1 g2 g3 => by
  rw [M.out i (by omega), M.out j (by omega)]; exact h i j g1 g2 g3
omit [Inhabited α] in
theorem sort_part {lt : α → α → Bool} {f : Nat → α} {a b a' b' : Nat} (h : sortF lt f a b) (h1 : a ≤ a') (h2 : b' ≤ b) : sortF lt f a' b' := fun i j g1 g2 g3 => h i j (by omega) g2 (by omega)
theorem mul_next {u c B : Nat} (h : u < c) : u * B + B ≤ c * B := by have := Nat.mul_le_mul_right B (show u + 1 ≤ c from h); rwa [Nat.add_mul, Nat.one_mul] at this

def InsInv (lt : α → α → Bool) (f : Nat → α) (t : Nat) : Prop := ∀ u, u < t → sortF lt f (u * 20) (u * 20 + 20)
def Blk (lt : α → α → Bool) (f : Nat → α) (B n : Nat) : Prop := ∀ u, sortF lt f (u * B) (min (u * B + B) n)
def MrgInv (lt : α → α → Bool) (f : Nat → α) (B c n : Nat) : Prop := (∀ u, u < c → sortF lt f (u * (2 * B)) (u * (2 * B) + 2 * B)) ∧ ∀ u, 2 * c ≤ u → sortF lt f (u * B) (min (u * B + B) n)

theorem ins_step {lt : α → α → Bool} {d d' : Array α} {t : Nat} (h : InsInv lt (getF d) t) (M : Merged lt (t * 20) (t * 20 + 20) d d') : InsInv lt (getF d') (t + 1) := fun u hu => by
  by_cases e : u = t
  · subst e; exact M.sorted
  · exact sort_kept M (h u (by omega)) (Or.inl (by omega))
theorem ins_fin {lt : α → α → Bool} {d d' : Array α} {t n : Nat} (h : InsInv lt (getF d) t) (M : Merged lt (t * 20) n d d') (h1 : t * 20 ≤ n) (h2 : n < t * 20 + 20) : Blk lt (getF d') 20 n := fun u => by
  rcases Nat.lt_trichotomy u t with e | e | e
  · rw [Nat.min_eq_left (by omega)]; exact sort_kept M (h u e) (Or.inl (by omega))
  · subst e; rw [Nat.min_eq_right (by omega)]; exact M.sorted
  · intro i j g1 g2 g3; omega
omit [Inhabited α] in
theorem mrg_start {lt : α → α → Bool} {f : Nat → α} {B n : Nat} (h : Blk lt f B n) : MrgInv lt f B 0 n := ⟨fun u hu => by omega, fun u _ => h u⟩
theorem dbl {c B x : Nat} (hx : x = c * (2 * B)) : 2 * c * B = x ∧ (2 * c + 1) * B = x + B ∧ (c + 1) * (2 * B) = x + 2 * B ∧ (2 * c + 2) * B = x + 2 * B := by
  subst hx
  have h1 : 2 * c * B = c * (2 * B) := by rw [Nat.mul_comm 2 c, Nat.mul_assoc]
  refine ⟨h1, by rw [Nat.add_mul, h1, Nat.one_mul], by rw [Nat.add_mul, Nat.one_mul], by rw [Nat.add_mul, h1]⟩
omit [Inhabited α] in
theorem mrg_pre {lt : α → α → Bool} {f : Nat → α} {B c n x y : Nat} (hx : x = c * (2 * B)) (h : MrgInv lt f B c n) (hy : y ≤ x + 2 * B) (hyn : y ≤ n) : sortF lt f x (min (x + B) y) ∧ sortF lt f (x + B) y := by
  obtain ⟨e1, e2, _, _⟩ := dbl hx
  have h1 := h.2 (2 * c) (Nat.le_refl _)
  have h2 := h.2 (2 * c + 1) (by omega)
  rw [e1] at h1
  rw [e2] at h2
  exact ⟨sort_part h1 (Nat.le_refl _) (by omega), sort_part h2 (Nat.le_refl _) (by omega)⟩
theorem mrg_step {lt : α → α → Bool} {d d' : Array α} {B c n x : Nat} (hx : x = c * (2 * B)) (h : MrgInv lt (getF d) B c n) (M : Merged lt x (x + 2 * B) d d') : MrgInv lt (getF d') B (c + 1) n := by
  obtain ⟨e1, e2, e3, e4⟩ := dbl hx
  refine ⟨fun u hu => ?_, fun u hu => ?_⟩
  · by_cases e : u = c
    · subst e; rw [← hx]; exact M.sorted
    · exact sort_kept M (h.1 u (by omega)) (Or.inl (by rw [hx]; exact mul_next (by omega)))
  · refine sort_kept M (h.2 u (by omega)) (Or.inr ?_)
    rw [← e4]; exact Nat.mul_le_mul_right B (by omega)
theorem mrg_fin {lt : α → α → Bool} {d d' : Array α} {B c n x : Nat} (hx : x = c * (2 * B)) (h : MrgInv lt (getF d) B c n) (M : Merged lt x n d d') (h1 : x ≤ n) (h2 : n < x + 2 * B) : Blk lt (getF d') (2 * B) n := fun u => by
  obtain ⟨e1, e2, e3, e4⟩ := dbl hx
  rcases Nat.lt_trichotomy u c with e | e | e
  · have := mul_next (B := 2 * B) e
    rw [← hx] at this
    rw [Nat.min_eq_left (by omega)]; exact sort_kept M (h.1 u e) (Or.inl this)
  · subst e; rw [← hx, Nat.min_eq_right (by omega)]; exact M.sorted
  · have := Nat.mul_le_mul_right (2 * B) (show c + 1 ≤ u from e)
    rw [e3] at this
    intro i j g1 g2 g3; omega
theorem mrg_none {lt : α → α → Bool} {d : Array α} {B c n x : Nat} (hx : x = c * (2 * B)) (h : MrgInv lt (getF d) B c n) (h1 : x ≤ n) (h2 : n ≤ x + B) (hB : 0 < B) : Blk lt (getF d) (2 * B) n := by
  obtain ⟨e1, _, _, _⟩ := dbl hx
  have h3 := h.2 (2 * c) (Nat.le_refl _)
  rw [e1, Nat.min_eq_right h2] at h3
  exact mrg_fin hx h (Merged.none_ h3) h1 (by omega)
omit [Inhabited α] in
theorem blk_all {lt : α → α → Bool} {f : Nat → α} {B n : Nat} (h : Blk lt f B n) (hn : n ≤ B) : sortF lt f 0 n := by
  have := h 0
  rw [Nat.zero_mul, Nat.zero_add, Nat.min_eq_right hn] at this
  exact this
end Go.Proofs.Ythajgoigmkkbgaa

namespace Go.Proofs.Ythajgoigmkkbgaa
open Go.Shelf Go.RowKit Go.Lib Go.Sort
variable {P : Program} {α : Type} [Inhabited α]

/-- symMergeCmpFunc: two sorted stretches become one. -/
theorem symMerge_any (L : StbLays P) (k : Nat) (aE : ∀ w, (isAgg 74).run P w = .ok true w) (zE : ∀ w, (Go.sizeOf 74).run P w = .ok k w) (enc : α → List Value) (cf : α → α → Int) (hS : SWO (ltOf cf)) (g : Nat) (cb : Array Value) (blk off cap : Nat) (d0 : Array α) (w0 : World)
    (eg : ∀ args w, (callFunc g args).run P w = .ok (.enter g args) w) (hcmp : CmpLays P g cb enc k cf blk off d0.size w0) (R : RowK enc k w0 blk off d0) : ∀ (N a m b : Nat) (d : Array α) (w : World), b - a ≤ N → d.size = d0.size → SWK enc k w0 blk off d w → a < m → m < b → b ≤ d.size → d.size ≤ 4000 → sortF (ltOf cf) (getF d) a m → sortF (ltOf cf) (getF d) m b →
    Calls P 83 #[.slice (some ⟨blk, off, none⟩) d.size cap, .int .i64 a, .int .i64 m, .int .i64 b, .func (.func g) #[] cb] w fun e w' => e = .returned (.tuple #[]) ∧ ∃ d', Merged (ltOf cf) a b d d' ∧ SWK enc k w0 blk off d' w' := by
  intro N
  induction N with
  | zero => intro a m b d w h1 h2 h3 h4 h5; omega
  | succ N ih =>
    intro a m b d w h1 h2 h3 h4 h5 h6 h7 s1 s2
    by_cases e1 : m = a + 1
    · subst e1
      have := symMerge_left L k aE zE enc cf hS g cb blk off cap d0 w0 eg hcmp R a b d w h2 h3 h5 h6 h7 s2
      rw [show (((a + 1 : Nat)) : Int) = (a : Int) + 1 from by omega]
      exact this
    · by_cases e2 : b = m + 1
      · subst e2
        have := symMerge_right L k aE zE enc cf hS g cb blk off cap d0 w0 eg hcmp R a m d w h2 h3 (by omega) h6 h7 s1
        rw [show (((m + 1 : Nat)) : Int) = (m : Int) + 1 from by omega]
        exact this
      · exact symMerge_mid L k aE zE enc cf hS g cb blk off cap d0 w0 eg hcmp R a m b d w h2 h3 (by omega) (by omega) h6 h7 s1 s2 (fun a' m' b' d1 w1 g1 g2 g3 g4 g5 g6 g7 g8 => by
          have := ih a' m' b' d1 w1 (by omega) (by omega) g3 g4 g5 (by omega) (by omega) g7 g8
          rw [g2] at this
          exact this)

set_option maxHeartbeats 8000000 in
set_option maxRecDepth 1000000 in
/-- stableCmpFunc: in order, equals in their order. -/
theorem stable_any (L : StbLays P) (k : Nat) (aE : ∀ w, (isAgg 74).run P w = .ok true w) (zE : ∀ w, (Go.sizeOf 74).run P w = .ok k w) (enc : α → List Value) (cf : α → α → Int) (hS : SWO (ltOf cf)) (g : Nat) (cb : Array Value) (blk off cap : Nat) (d0 : Array α) (w0 : World)
    (eg : ∀ args w, (callFunc g args).run P w = .ok (.enter g args) w) (hcmp : CmpLays P g cb enc k cf blk off d0.size w0) (R : RowK enc k w0 blk off d0) (hsz : d0.size ≤ 4000)
    (hins : ∀ (a b : Nat) (d : Array α) (w : World), d.size = d0.size → SWK enc k w0 blk off d w → a ≤ b → b ≤ d0.size → Calls P 82 #[.slice (some ⟨blk, off, none⟩) d0.size cap, .int .i64 a, .int .i64 b, .func (.func g) #[] cb] w fun e w' => e = .returned (.tuple #[]) ∧ ∃ d', Merged (ltOf cf) a b d d' ∧ SWK enc k w0 blk off d' w') :
    Calls P 78 #[.slice (some ⟨blk, off, none⟩) d0.size cap, .int .i64 d0.size, .func (.func g) #[] cb] w0 fun e w' => e = .returned (.tuple #[]) ∧ ∃ d', d'.size = d0.size ∧ Stb (ltOf cf) d0.size (getF d0) (getF d') ∧ sortF (ltOf cf) (getF d') 0 d0.size ∧ SWK enc k w0 blk off d' w' := by
  have mixed := L.mixed; have t0 := L.t0; have a0 := L.a0; have z0 := L.z0; have v0 := L.v0; have t3 := L.t3; have a3 := L.a3; have z3 := L.z3; have v3 := L.v3; have t4 := L.t4; have a4 := L.a4; have z4 := L.z4; have v4 := L.v4; have t22 := L.t22; have a22 := L.a22; have z22 := L.z22; have v22 := L.v22; have t46 := L.t46; have a46 := L.a46; have z46 := L.z46; have v46 := L.v46; have t80 := L.t80; have a80 := L.a80; have z80 := L.z80; have v80 := L.v80
  have u22 := run_underlying L.t22
  have e50 : ∀ args w, (callFunc 82 args).run P w = .ok (.enter 82 args) w := enters_of L.f_ins (by kernel_rfl) rfl
  have e51 : ∀ args w, (callFunc 83 args).run P w = .ok (.enter 83 args) w := enters_of L.f_sym (by kernel_rfl) rfl
  have S0 : Aside (SWK enc k w0 blk off d0 w0) := SWK.start R.hH
  obtain ⟨n, hn⟩ : ∃ n, d0.size = n := ⟨_, rfl⟩
  have HSym : Hid (∀ (x y z : Nat) (d : Array α) (w : World), d.size = n → SWK enc k w0 blk off d w → x < y → y < z → z ≤ n → sortF (ltOf cf) (getF d) x y → sortF (ltOf cf) (getF d) y z → Calls P 83 #[.slice (some ⟨blk, off, none⟩) n cap, .int .i64 x, .int .i64 y, .int .i64 z, .func (.func g) #[] cb] w fun e w' => e = .returned (.tuple #[]) ∧ ∃ d', Merged (ltOf cf) x z d d' ∧ SWK enc k w0 blk off d' w') := Lib.hid (fun x y z d w h1 h2 h3 h4 h5 h6 h7 => by
    have := symMerge_any L k aE zE enc cf hS g cb blk off cap d0 w0 eg hcmp R (z - x) x y z d w (Nat.le_refl _) (by omega) h2 h3 h4 (by omega) (by omega) h6 h7
    rw [h1] at this
    exact this)
  rw [hn] at hins hsz ⊢
  have HIns := Lib.hid hins
  have HN := Lib.hid hn
  clear hins hcmp hS eg aE zE R hn
  have FG := L.f_stb
  go_enter FG, Try.ntmps78
  go_wp2
  go_loopg [7, 8] (n + 20) (fun kx s7 s8 wr => ∃ (t x : Nat) (dk : Array α), s7 = .int .i64 x ∧ s8 = .int .i64 ((x : Int) + 20) ∧ Hid (x = t * 20) ∧ x ≤ n ∧ n - x ≤ kx ∧ dk.size = n ∧ Hid (InsInv (ltOf cf) (getF dk) t) ∧ Hid (Stb (ltOf cf) n (getF d0) (getF dk)) ∧ Aside (SWK enc k w0 blk off dk wr))
  case atStart => exact ⟨0, 0, d0, rfl, rfl, Lib.hid rfl, Nat.zero_le _, by omega, HN.out, Lib.hid (fun u hu => by omega), Lib.hid (Stb.refl _ _ _), S0⟩
  case round =>
    clear S0
    obtain ⟨t, x, dk, rfl, rfl, HX, hxn, hkx, hds, HI, HB, S1⟩ := hrel
    by_cases hle : x + 20 ≤ n
    · have hlez : (x : Int) + 20 ≤ (n : Int) := by omega
      have HC : Hid (Calls P 82 #[.slice (some ⟨blk, off, none⟩) n cap, .int .i64 x, .int .i64 ((x : Int) + 20), .func (.func g) #[] cb] wr fun e w' => e = .returned (.tuple #[]) ∧ ∃ d', Merged (ltOf cf) x (x + 20) dk d' ∧ SWK enc k w0 blk off d' w') := Lib.hid (by
        have := HIns.out x (x + 20) dk wr hds S1.out (by omega) hle
        rw [show ((x + 20 : Nat) : Int) = (x : Int) + 20 from by omega] at this
        exact this)
      go_wp2_with (go_at_fn 82; refine HC.out.mono ?_; rintro e w1 ⟨rfl, d1, hd1, hS1⟩; have HD1 := Lib.hid hd1; have S2 : Aside _ := hS1; clear hd1 hS1)
      go_roundg (n - (x + 20))
      case measure => omega
      case rel => exact ⟨t + 1, x + 20, d1, by first | rfl | go_num | (congr 1), by first | rfl | go_num | (congr 1; omega), Lib.hid (by have := HX.out; omega), hle, Nat.le_refl _, by rw [HD1.out.size, hds], Lib.hid (by have := ins_step HI.out (by rw [← HX.out]; exact HD1.out); exact this), Lib.hid (HB.out.trans (by have := HD1.out.stb; rw [hds] at this; exact this)), S2⟩
    · have hlez : ¬ (x : Int) + 20 ≤ (n : Int) := by omega
      have HC := Lib.hid (HIns.out x n dk wr hds S1.out hxn (Nat.le_refl _))
      go_wp2_with (go_at_fn 82; refine HC.out.mono ?_; rintro e w1 ⟨rfl, d1, hd1, hS1⟩; have HD1 := Lib.hid hd1; have S2 : Aside _ := hS1; clear hd1 hS1)
      have HBk : Hid (Blk (ltOf cf) (getF d1) 20 n) := Lib.hid (ins_fin HI.out (by rw [← HX.out]; exact HD1.out) (by have := HX.out; omega) (by have := HX.out; omega))
      have HB1 : Hid (Stb (ltOf cf) n (getF d0) (getF d1)) := Lib.hid (HB.out.trans (by have := HD1.out.stb; rw [hds] at this; exact this))
      have hds1 : d1.size = n := by rw [HD1.out.size, hds]
      clear HC HD1 S1 HI HB hlez hle hkx hxn
      go_loopg [6] n (fun kx s6 wr2 => ∃ (B : Nat) (dk : Array α), s6 = .int .i64 B ∧ 0 < B ∧ B ≤ 8020 ∧ n - B ≤ kx ∧ dk.size = n ∧ Hid (Blk (ltOf cf) (getF dk) B n) ∧ Hid (Stb (ltOf cf) n (getF d0) (getF dk)) ∧ Aside (SWK enc k w0 blk off dk wr2))
      case atStart => exact ⟨20, d1, rfl, by omega, by omega, by omega, hds1, HBk, HB1, S2⟩
      case round =>
        clear S2 HBk HB1 hds1
        obtain ⟨B, dk, rfl, hB0, hB1, hkB, hds, HBk, HB, S1⟩ := hrel
        by_cases hlt : B < n
        · have hltz : (B : Int) < (n : Int) := by omega
          go_wp2_with fail
          go_loopg [7, 8] (n + 1) (fun kx s7 s8 wr3 => ∃ (c x : Nat) (dj : Array α), s7 = .int .i64 x ∧ s8 = .int .i64 ((x : Int) + 2 * (B : Int)) ∧ Hid (x = c * (2 * B)) ∧ x ≤ n ∧ n + 1 - x ≤ kx ∧ dj.size = n ∧ Hid (MrgInv (ltOf cf) (getF dj) B c n) ∧ Hid (Stb (ltOf cf) n (getF d0) (getF dj)) ∧ Aside (SWK enc k w0 blk off dj wr3))
          case atStart => exact ⟨0, 0, dk, rfl, by first | rfl | (congr 1; omega), Lib.hid (by rw [Nat.zero_mul]), Nat.zero_le _, by omega, hds, Lib.hid (mrg_start HBk.out), HB, S1⟩
          case round =>
            clear S1 HB HBk hds
            obtain ⟨c, x, dj, rfl, rfl, HX, hxn, hkx, hds, HI, HB, S1⟩ := hrel
            by_cases hle : x + 2 * B ≤ n
            · have hlez : (x : Int) + 2 * (B : Int) ≤ (n : Int) := by omega
              have HC : Hid (Calls P 83 #[.slice (some ⟨blk, off, none⟩) n cap, .int .i64 x, .int .i64 ((x : Int) + (B : Int)), .int .i64 ((x : Int) + 2 * (B : Int)), .func (.func g) #[] cb] wr fun e w' => e = .returned (.tuple #[]) ∧ ∃ d', Merged (ltOf cf) x (x + 2 * B) dj d' ∧ SWK enc k w0 blk off d' w') := Lib.hid (by
                obtain ⟨p1, p2⟩ := mrg_pre HX.out HI.out (y := x + 2 * B) (Nat.le_refl _) hle
                rw [Nat.min_eq_left (by omega)] at p1
                have := HSym.out x (x + B) (x + 2 * B) dj wr hds S1.out (by omega) (by omega) hle p1 p2
                rw [show ((x + B : Nat) : Int) = (x : Int) + (B : Int) from by omega, show ((x + 2 * B : Nat) : Int) = (x : Int) + 2 * (B : Int) from by omega] at this
                exact this)
              go_wp2_with (go_at_fn 83; refine HC.out.mono ?_; rintro e w1 ⟨rfl, d2, hd2, hS2⟩; have HD2 := Lib.hid hd2; have S2 : Aside _ := hS2; clear hd2 hS2)
              go_roundg (n + 1 - (x + 2 * B))
              case measure => omega
              case rel => exact ⟨c + 1, x + 2 * B, d2, by first | rfl | go_num | (congr 1; omega), by first | rfl | go_num | (congr 1; omega), Lib.hid (dbl HX.out).2.2.1.symm, hle, Nat.le_refl _, by rw [HD2.out.size, hds], Lib.hid (mrg_step HX.out HI.out HD2.out), Lib.hid (HB.out.trans (by have := HD2.out.stb; rw [hds] at this; exact this)), S2⟩
            · have hlez : ¬ (x : Int) + 2 * (B : Int) ≤ (n : Int) := by omega
              by_cases hm : x + B < n
              · have hmz : (x : Int) + (B : Int) < (n : Int) := by omega
                have HC : Hid (Calls P 83 #[.slice (some ⟨blk, off, none⟩) n cap, .int .i64 x, .int .i64 ((x : Int) + (B : Int)), .int .i64 n, .func (.func g) #[] cb] wr fun e w' => e = .returned (.tuple #[]) ∧ ∃ d', Merged (ltOf cf) x n dj d' ∧ SWK enc k w0 blk off d' w') := Lib.hid (by
                  obtain ⟨p1, p2⟩ := mrg_pre HX.out HI.out (y := n) (by omega) (Nat.le_refl _)
                  rw [Nat.min_eq_left (by omega)] at p1
                  have := HSym.out x (x + B) n dj wr hds S1.out (by omega) (by omega) (Nat.le_refl _) p1 p2
                  rw [show ((x + B : Nat) : Int) = (x : Int) + (B : Int) from by omega] at this
                  exact this)
                go_wp2_with (go_at_fn 83; refine HC.out.mono ?_; rintro e w1 ⟨rfl, d2, hd2, hS2⟩; have HD2 := Lib.hid hd2; have S2 : Aside _ := hS2; clear hd2 hS2)
                go_roundg (n - 2 * B)
                case measure => omega
                case rel => exact ⟨2 * B, d2, by first | rfl | go_num | (congr 1; omega), by omega, by omega, Nat.le_refl _, by rw [HD2.out.size, hds], Lib.hid (mrg_fin HX.out HI.out HD2.out hxn (by omega)), Lib.hid (HB.out.trans (by have := HD2.out.stb; rw [hds] at this; exact this)), S2⟩
              · have hmz : ¬ (x : Int) + (B : Int) < (n : Int) := by omega
                go_wp2_with fail
                go_roundg (n - 2 * B)
                case measure => omega
                case rel => exact ⟨2 * B, dj, by first | rfl | go_num | (congr 1; omega), by omega, by omega, Nat.le_refl _, hds, Lib.hid (mrg_none HX.out HI.out hxn (by omega) hB0), HB, S1⟩
        · have hltz : ¬ (B : Int) < (n : Int) := by omega
          go_wp2_with fail
          go_end0
          exact ⟨rfl, dk, hds, HB.out, blk_all HBk.out (by omega), S1.out⟩

end Go.Proofs.Ythajgoigmkkbgaa
