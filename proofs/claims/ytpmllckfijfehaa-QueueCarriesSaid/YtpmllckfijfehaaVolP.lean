/- Volumes, plain: what the functions of the package vols and the document's answer tell, as functions on lists; facts on them. No program in sight. -/
namespace Go.Proofs.Ytpmllckfijfehaa

/-- A volume: its ID, its blocks. -/
abbrev Vl := Int × List ByteArray
/-- A write. -/
structure Wr where
  vol : Int
  block : Int
  data : ByteArray

def shortB (s : ByteArray) : Bool := decide (s.size ≤ 8)
def sizeB (n : Int) : Bool := decide (1 ≤ n ∧ n ≤ 32)
def shapeB (id n : Int) : Bool := decide (1 ≤ id ∧ id ≤ 255 ∧ 1 ≤ n ∧ n ≤ 32)
def volOk (v : Vl) : Bool := shapeB v.1 v.2.length && v.2.all shortB
def goodFrom : Int → List Vl → Bool
  | _, [] => true
  | last, v :: r => decide (last < v.1) && (volOk v && goodFrom v.1 r)
def rightB (vs : List Vl) : Bool := decide (vs.length ≤ 4) && goodFrom 0 vs

theorem shapeB_iff (id n : Int) : shapeB id n = true ↔ 1 ≤ id ∧ id ≤ 255 ∧ 1 ≤ n ∧ n ≤ 32 := by simp [shapeB]
theorem goodFrom_cons (last : Int) (v : Vl) (r : List Vl) : goodFrom last (v :: r) = true ↔ last < v.1 ∧ volOk v = true ∧ goodFrom v.1 r = true := by simp [goodFrom]
theorem rightB_iff (vs : List Vl) : rightB vs = true ↔ vs.length ≤ 4 ∧ goodFrom 0 vs = true := by simp [rightB]
theorem volOk_iff (v : Vl) : volOk v = true ↔ (1 ≤ v.1 ∧ v.1 ≤ 255 ∧ 1 ≤ v.2.length ∧ v.2.length ≤ 32) ∧ ∀ s ∈ v.2, s.size ≤ 8 := by
  simp [volOk, shapeB, shortB]; omega

/-! ### Where a volume stands -/

def findAt : List Vl → Int → Nat
  | [], _ => 0
  | v :: r, id => if id ≤ v.1 then 0 else findAt r id + 1
def hasAt : List Vl → Int → Bool
  | [], _ => false
  | v :: r, id => if id ≤ v.1 then v.1 == id else hasAt r id

theorem findAt_le (vs : List Vl) (id : Int) : findAt vs id ≤ vs.length := by
  induction vs with
  | nil => simp [findAt]
  | cons v r ih => unfold findAt; split <;> simp; omega
theorem hasAt_lt {vs : List Vl} {id : Int} (h : hasAt vs id = true) : findAt vs id < vs.length := by
  induction vs with
  | nil => simp [hasAt] at h
  | cons v r ih =>
    by_cases h1 : id ≤ v.1
    · rw [findAt, if_pos h1]; simp
    · rw [hasAt, if_neg h1] at h
      have := ih h
      rw [findAt, if_neg h1]
      simp; omega
theorem hasAt_id {vs : List Vl} {id : Int} (h : hasAt vs id = true) : (vs[findAt vs id]'(hasAt_lt h)).1 = id := by
  induction vs with
  | nil => simp [hasAt] at h
  | cons v r ih =>
    by_cases h1 : id ≤ v.1
    · have e : findAt (v :: r) id = 0 := by unfold findAt; rw [if_pos h1]
      unfold hasAt at h
      rw [if_pos h1] at h
      simp only [e, List.getElem_cons_zero]
      simpa using h
    · have e : findAt (v :: r) id = findAt r id + 1 := by rw [findAt, if_neg h1]
      unfold hasAt at h
      rw [if_neg h1] at h
      simp only [e, List.getElem_cons_succ]
      exact ih h

/-! ### What a block holds -/

def inB (bs : List ByteArray) (block : Int) : Bool := decide (0 ≤ block ∧ block < bs.length)
def gotE : List Vl → Int → Int → Int
  | [], _, _ => 8
  | v :: r, vol, block => if v.1 = vol then (if inB v.2 block = true then 0 else 10) else gotE r vol block
def gotS : List Vl → Int → Int → ByteArray
  | [], _, _ => ByteArray.empty
  | v :: r, vol, block => if v.1 = vol then (if inB v.2 block = true then v.2.getD block.toNat ByteArray.empty else ByteArray.empty) else gotS r vol block
def gtE (vs : List Vl) (vol block : Int) : Int := if rightB vs = true then gotE vs vol block else 1
def gtS (vs : List Vl) (vol block : Int) : ByteArray := if rightB vs = true then gotS vs vol block else ByteArray.empty

/-- How the program looks a block up. -/
def locE (vs : List Vl) (vol block : Int) : Int := if hasAt vs vol = true then (if inB (vs.getD (findAt vs vol) (0, [])).2 block = true then 0 else 10) else 8
def locI (vs : List Vl) (vol block : Int) : Nat := if locE vs vol block = 0 then findAt vs vol else 0

theorem goodFrom_lt {vs : List Vl} {last : Int} (h : goodFrom last vs = true) : ∀ v ∈ vs, last < v.1 := by
  induction vs generalizing last with
  | nil => intro v hv; cases hv
  | cons u r ih =>
    obtain ⟨h1, _, h3⟩ := (goodFrom_cons _ _ _).1 h
    intro v hv
    rcases List.mem_cons.1 hv with rfl | hv
    · exact h1
    · have := ih h3 v hv; omega
theorem goodFrom_ok {vs : List Vl} {last : Int} (h : goodFrom last vs = true) : ∀ v ∈ vs, volOk v = true := by
  induction vs generalizing last with
  | nil => intro v hv; cases hv
  | cons u r ih =>
    obtain ⟨_, h2, h3⟩ := (goodFrom_cons _ _ _).1 h
    intro v hv
    rcases List.mem_cons.1 hv with rfl | hv
    · exact h2
    · exact ih h3 v hv
theorem goodFrom_less {vs : List Vl} {a b : Int} (h : goodFrom a vs = true) (hb : b ≤ a) : goodFrom b vs = true := by
  cases vs with
  | nil => rfl
  | cons u r =>
    obtain ⟨h1, h2, h3⟩ := (goodFrom_cons _ _ _).1 h
    exact (goodFrom_cons _ _ _).2 ⟨by omega, h2, h3⟩

theorem gotE_none {vs : List Vl} {id block : Int} (h : ∀ v ∈ vs, v.1 ≠ id) : gotE vs id block = 8 ∧ gotS vs id block = ByteArray.empty := by
  induction vs with
  | nil => exact ⟨rfl, rfl⟩
  | cons u r ih =>
    have h1 := h u List.mem_cons_self
    have h2 := ih (fun v hv => h v (List.mem_cons_of_mem _ hv))
    unfold gotE gotS
    rw [if_neg h1, if_neg h1]
    exact h2

theorem gotE_loc {vs : List Vl} {last : Int} (h : goodFrom last vs = true) (id block : Int) : gotE vs id block = locE vs id block := by
  induction vs generalizing last with
  | nil => rfl
  | cons u r ih =>
    obtain ⟨_, _, h3⟩ := (goodFrom_cons _ _ _).1 h
    have hr := ih h3
    by_cases h1 : id ≤ u.1
    · have e1 : findAt (u :: r) id = 0 := by rw [findAt, if_pos h1]
      have e2 : hasAt (u :: r) id = (u.1 == id) := by rw [hasAt, if_pos h1]
      unfold locE
      rw [gotE, e1, e2]
      by_cases h2 : u.1 = id
      · simp [h2]
      · rw [if_neg h2, if_neg (by simp [h2])]
        exact (gotE_none (fun v hv => by have := goodFrom_lt h3 v hv; omega)).1
    · have e1 : findAt (u :: r) id = findAt r id + 1 := by rw [findAt, if_neg h1]
      have e2 : hasAt (u :: r) id = hasAt r id := by rw [hasAt, if_neg h1]
      unfold locE at hr ⊢
      rw [gotE, e1, e2, if_neg (by omega), hr]
      rfl
theorem gotS_loc {vs : List Vl} {last : Int} (h : goodFrom last vs = true) (id block : Int) :
    gotS vs id block = if locE vs id block = 0 then (vs.getD (findAt vs id) (0, [])).2.getD block.toNat ByteArray.empty else ByteArray.empty := by
  induction vs generalizing last with
  | nil => rfl
  | cons u r ih =>
    obtain ⟨_, _, h3⟩ := (goodFrom_cons _ _ _).1 h
    have hr := ih h3
    by_cases h1 : id ≤ u.1
    · have e1 : findAt (u :: r) id = 0 := by rw [findAt, if_pos h1]
      have e2 : hasAt (u :: r) id = (u.1 == id) := by rw [hasAt, if_pos h1]
      unfold locE
      rw [gotS, e1, e2]
      by_cases h2 : u.1 = id
      · by_cases h4 : inB u.2 block = true
        · simp [h2, h4]
        · simp [h2, h4]
      · rw [if_neg h2, if_neg (by simp [h2])]
        exact (gotE_none (block := block) (fun v hv => by have := goodFrom_lt h3 v hv; omega)).2
    · have e1 : findAt (u :: r) id = findAt r id + 1 := by rw [findAt, if_neg h1]
      have e2 : hasAt (u :: r) id = hasAt r id := by rw [hasAt, if_neg h1]
      unfold locE at hr ⊢
      rw [gotS, e1, e2, if_neg (by omega), hr]
      rfl

/-! ### Writes -/

def chk (vs : List Vl) : List Wr → Int
  | [] => 0
  | w :: r => if gotE vs w.vol w.block = 0 then (if shortB w.data = true then chk vs r else 5) else gotE vs w.vol w.block
def checkE (vs : List Vl) (ws : List Wr) : Int := if rightB vs = true then chk vs ws else 1
def put1 (vs : List Vl) (w : Wr) : List Vl := vs.modify (findAt vs w.vol) (fun v => (v.1, v.2.set w.block.toNat w.data))
def applyV (vs : List Vl) (ws : List Wr) : List Vl := if checkE vs ws = 0 then ws.foldl put1 vs else []

/-! ### Shapes -/

def blankB (n : Nat) : List ByteArray := List.replicate n ByteArray.empty
def addE (vs : List Vl) (id n : Int) : Int := if rightB vs = true ∧ shapeB id n = true then (if hasAt vs id = true then 9 else if vs.length = 4 then 6 else 0) else 1
def addV (vs : List Vl) (id n : Int) : List Vl := if addE vs id n = 0 then vs.take (findAt vs id) ++ (id, blankB n.toNat) :: vs.drop (findAt vs id) else []
def dropE (vs : List Vl) (id : Int) : Int := if rightB vs = true then (if hasAt vs id = true then 0 else 8) else 1
def dropV (vs : List Vl) (id : Int) : List Vl := if dropE vs id = 0 then vs.take (findAt vs id) ++ vs.drop (findAt vs id + 1) else []
def resized (bs : List ByteArray) (n : Nat) : List ByteArray := bs.take n ++ blankB (n - bs.length)
def resE (vs : List Vl) (id n : Int) : Int := if rightB vs = true ∧ sizeB n = true then (if hasAt vs id = true then 0 else 8) else 1
def resV (vs : List Vl) (id n : Int) : List Vl := if resE vs id n = 0 then vs.set (findAt vs id) (id, resized (vs.getD (findAt vs id) (0, [])).2 n.toNat) else []

def sizesOf (vs : List Vl) : List Int := vs.flatMap (fun v => [v.1, (v.2.length : Int)])
def sizesV (vs : List Vl) : List Int := if rightB vs = true then sizesOf vs else []

def sameB (a b : List Vl) : Bool := rightB a && rightB b && decide (a = b)

end Go.Proofs.Ytpmllckfijfehaa
