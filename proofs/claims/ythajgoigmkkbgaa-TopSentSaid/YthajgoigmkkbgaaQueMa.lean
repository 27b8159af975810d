/- Queues of delta sets, plain: what the package queue and the document's answer tell, as functions on lists. No program in sight. Queues in memory: where the sets of a queue lie ('SetsAt'), and what a call that hands back a queue leaves ('QuEnd'). Queues, plain: how the code and the document's answer tell whether a queue is right, set by set. Queues: contracts of tail and Right. Queues: which blocks turn ('QBlk', 'QuAt.turned'); contracts of New and Add. Queues: contract of Add. -/
import Derived.Test.YthajgoigmkkbgaaVolP
import Derived.Test.YthajgoigmkkbgaaFoldJ
import Derived.Test.YthajgoigmkkbgaaMem
namespace Go.Proofs.Ythajgoigmkkbgaa

/-- A delta set; a queue. -/
structure DSet where
  frm : Int
  to_ : Int
  ws : List Wr
structure Qu where
  sets : List DSet
  opn : List Wr
  frm : Int
  to_ : Int
def okN (n : Int) : Bool := decide (0 ≤ n ∧ n ≤ 1099511627776)
theorem okN_iff (n : Int) : okN n = true ↔ 0 ≤ n ∧ n ≤ 1099511627776 := by simp [okN]
noncomputable def foldedB (ws : List Wr) : Bool := @decide (foldW ws = ws) (Classical.propDecidable _)
theorem foldedB_iff (ws : List Wr) : foldedB ws = true ↔ foldW ws = ws := by unfold foldedB; exact @decide_eq_true_iff _ (Classical.propDecidable _)
theorem folded_fold (ws : List Wr) : foldedB (foldW ws) = true := (foldedB_iff _).2 (foldW_twice ws)
theorem folded_nil : foldedB [] = true := (foldedB_iff _).2 rfl

noncomputable def setOk (s : DSet) : Bool := (okN s.frm && okN s.to_) && (decide (s.frm < s.to_) && foldedB s.ws)
theorem setOk_iff (s : DSet) : setOk s = true ↔ (0 ≤ s.frm ∧ s.frm ≤ 1099511627776) ∧ (0 ≤ s.to_ ∧ s.to_ ≤ 1099511627776) ∧ s.frm < s.to_ ∧ foldW s.ws = s.ws := by
  unfold setOk
  rw [Bool.and_eq_true, Bool.and_eq_true, Bool.and_eq_true, okN_iff, okN_iff, decide_eq_true_iff, foldedB_iff]
  exact ⟨fun h => ⟨h.1.1, h.1.2, h.2.1, h.2.2⟩, fun h => ⟨⟨h.1, h.2.1⟩, h.2.2.1, h.2.2.2⟩⟩
/-- The sets follow one another up to a place. -/
def chainTo : List DSet → Int → Prop
  | [], _ => True
  | [s], e => s.to_ = e
  | s :: t :: r, e => s.to_ = t.frm ∧ chainTo (t :: r) e
def quOk (q : Qu) : Prop := (∀ s ∈ q.sets, setOk s = true) ∧ chainTo q.sets q.frm ∧ okN q.frm = true ∧ okN q.to_ = true ∧ q.frm ≤ q.to_ ∧ foldW q.opn = q.opn ∧ (q.frm = q.to_ → q.opn = [])
noncomputable def quRight (q : Qu) : Bool := @decide (quOk q) (Classical.propDecidable _)
theorem quRight_iff (q : Qu) : quRight q = true ↔ quOk q := by unfold quRight; exact @decide_eq_true_iff _ (Classical.propDecidable _)

def quAdd (q : Qu) (ws : List Wr) : Qu := { q with opn := foldW (q.opn ++ ws), to_ := q.to_ + 1 }
def quCut (q : Qu) : Qu := ⟨q.sets ++ [⟨q.frm, q.to_, q.opn⟩], [], q.to_, q.to_⟩
def quDone (q : Qu) (seq : Int) : Qu := { q with sets := q.sets.filter (fun s => decide (seq < s.to_)) }
def quTail (q : Qu) : Int := match q.sets with
  | [] => q.frm
  | s :: _ => s.frm
def quJoined (q : Qu) : List Wr := q.sets.flatMap (·.ws) ++ q.opn
def quAll (q : Qu) : List Wr := foldW (quJoined q)
def quNew (seq : Int) : Qu := ⟨[], [], seq, seq⟩
def quNone : Qu := ⟨[], [], 0, 0⟩

theorem new_ok {seq : Int} (h : okN seq = true) : quOk (quNew seq) := ⟨by simp [quNew], trivial, h, h, Int.le_refl _, rfl, fun _ => rfl⟩
theorem add_ok {q : Qu} (h : quOk q) (ht : q.to_ < 1099511627776) (ws : List Wr) : quOk (quAdd q ws) := by
  obtain ⟨h1, h2, h3, h4, h5, h6, h7⟩ := h
  rw [okN_iff] at h4
  exact ⟨h1, h2, h3, by rw [okN_iff]; show 0 ≤ q.to_ + 1 ∧ q.to_ + 1 ≤ 1099511627776; omega, by show q.frm ≤ q.to_ + 1; omega, foldW_twice _, fun e => by have : q.frm = q.to_ + 1 := e; omega⟩
theorem chain_snoc : ∀ (l : List DSet) (e : Int) (s : DSet), chainTo l e → s.frm = e → chainTo (l ++ [s]) s.to_
  | [], _, _, _, _ => rfl
  | [x], e, s, h, he => ⟨by have : x.to_ = e := h; rw [this, he], rfl⟩
  | x :: y :: r, e, s, h, he => ⟨h.1, chain_snoc (y :: r) e s h.2 he⟩
theorem cut_ok {q : Qu} (h : quOk q) (hne : q.frm ≠ q.to_) : quOk (quCut q) := by
  obtain ⟨h1, h2, h3, h4, h5, h6, h7⟩ := h
  refine ⟨fun s hs => ?_, chain_snoc _ _ _ h2 rfl, h4, h4, Int.le_refl _, rfl, fun _ => rfl⟩
  rcases List.mem_append.1 hs with hs | hs
  · exact h1 s hs
  · obtain rfl := List.mem_singleton.1 hs
    rw [setOk_iff]
    exact ⟨(okN_iff _).1 h3, (okN_iff _).1 h4, by show q.frm < q.to_; omega, h6⟩
theorem chain_tail {s : DSet} {r : List DSet} {e : Int} (h : chainTo (s :: r) e) : chainTo r e := by
  cases r with
  | nil => trivial
  | cons t u => exact h.2
/-- In a chain each set behind one ends behind it. -/
theorem chain_less {e : Int} : ∀ (l : List DSet), (∀ s ∈ l, setOk s = true) → chainTo l e → l.Pairwise (fun a b => a.to_ < b.to_)
  | [], _, _ => List.Pairwise.nil
  | [x], _, _ => List.pairwise_singleton _ _
  | x :: y :: r, h, hc => by
    have ih := chain_less (y :: r) (fun s hs => h s (List.mem_cons_of_mem _ hs)) hc.2
    have hy := (setOk_iff y).1 (h y (by simp))
    have hxy : x.to_ = y.frm := hc.1
    refine List.Pairwise.cons (fun b hb => ?_) ih
    rcases List.mem_cons.1 hb with rfl | hb
    · omega
    · have := (List.pairwise_cons.1 ih).1 b hb; omega
theorem filter_all {l : List DSet} {n : Int} (h : ∀ s ∈ l, n < s.to_) : l.filter (fun s => decide (n < s.to_)) = l := List.filter_eq_self.2 fun s hs => by simpa using h s hs
theorem chain_filter {e n : Int} : ∀ (l : List DSet), (∀ s ∈ l, setOk s = true) → chainTo l e → chainTo (l.filter (fun s => decide (n < s.to_))) e
  | [], _, _ => trivial
  | x :: r, h, hc => by
    have hp := chain_less (x :: r) h hc
    by_cases hx : n < x.to_
    · rw [filter_all]
      · exact hc
      · intro s hs
        rcases List.mem_cons.1 hs with rfl | hs
        · exact hx
        · have := (List.pairwise_cons.1 hp).1 s hs; omega
    · rw [List.filter_cons_of_neg (by simpa using hx)]
      exact chain_filter r (fun s hs => h s (List.mem_cons_of_mem _ hs)) (chain_tail hc)
theorem done_ok {q : Qu} (h : quOk q) (seq : Int) : quOk (quDone q seq) := by
  obtain ⟨h1, h2, h3, h4, h5, h6, h7⟩ := h
  exact ⟨fun s hs => h1 s (List.mem_filter.1 hs).1, chain_filter q.sets h1 h2, h3, h4, h5, h6, h7⟩
theorem done_done (q : Qu) (a b : Int) : quDone (quDone q a) b = quDone q (max a b) := by
  unfold quDone
  simp only [List.filter_filter]
  congr 1
  refine List.filter_congr fun s _ => ?_
  rw [Bool.eq_iff_iff]
  simp
  omega

/-! ### What the sets carry -/

/-- Writes in two parts. -/
theorem apply_two {vs : List Vl} {a b : List Wr} (h1 : checkE vs a = 0) (h2 : checkE (applyV vs a) b = 0) : checkE vs (a ++ b) = 0 ∧ applyV vs (a ++ b) = applyV (applyV vs a) b := by
  obtain ⟨r1, c1, r2⟩ := right_apply h1
  rw [applyV_ok h1] at h2
  have c2 : chk vs b = 0 := by
    rw [checkE_right r2] at h2
    rw [← chk_shapes (shapes_foldl a vs) b]; exact h2
  have c3 : checkE vs (a ++ b) = 0 := by rw [checkE_right r1, chk_append, if_pos c1]; exact c2
  refine ⟨c3, ?_⟩
  rw [applyV_ok c3, applyV_ok h1, applyV_ok h2, List.foldl_append]
theorem apply_parts {vs : List Vl} {a b : List Wr} (h : checkE vs (a ++ b) = 0) : checkE vs a = 0 ∧ checkE (applyV vs a) b = 0 ∧ applyV vs (a ++ b) = applyV (applyV vs a) b := by
  obtain ⟨r1, c, _⟩ := right_apply h
  rw [chk_append] at c
  have c1 : chk vs a = 0 := by by_cases hc : chk vs a = 0; exact hc; rw [if_neg hc] at c; exact c
  rw [if_pos c1] at c
  have h1 : checkE vs a = 0 := by rw [checkE_right r1]; exact c1
  have r2 := (right_apply h1).2.2
  have h2 : checkE (applyV vs a) b = 0 := by
    rw [applyV_ok h1, checkE_right r2, chk_shapes (shapes_foldl a vs) b]; exact c
  exact ⟨h1, h2, (apply_two h1 h2).2⟩

/-- What is here, what waits, and what is there fit together. -/
def Carries (q : Qu) (there now : List Vl) : Prop := checkE there (quJoined q) = 0 ∧ applyV there (quJoined q) = now
theorem carries_new {vs : List Vl} (h : rightB vs = true) : Carries (quNew 0) vs vs := by
  have h0 : checkE vs [] = 0 := by rw [checkE_right h]; rfl
  exact ⟨h0, by show applyV vs [] = vs; rw [applyV_ok h0]; rfl⟩
theorem carries_all {q : Qu} {there now : List Vl} (h : Carries q there now) : checkE there (quAll q) = 0 ∧ applyV there (quAll q) = now := by
  obtain ⟨h1, h2⟩ := fold_does h.1
  exact ⟨h1, h2.trans h.2⟩
theorem carries_add {q : Qu} {there now : List Vl} {ws : List Wr} (h : Carries q there now) (hw : checkE now ws = 0) : Carries (quAdd q ws) there (applyV now ws) := by
  obtain ⟨h1, h2⟩ := h
  obtain ⟨a1, a2, a3⟩ := apply_parts (a := q.sets.flatMap (·.ws)) (b := q.opn) h1
  have e : applyV (applyV there (q.sets.flatMap (·.ws))) q.opn = now := by rw [← a3]; exact h2
  obtain ⟨b1, b2⟩ := apply_two a2 (by rw [e]; exact hw)
  obtain ⟨c1, c2⟩ := fold_does b1
  obtain ⟨d1, d2⟩ := apply_two a1 c1
  exact ⟨d1, by show applyV there (q.sets.flatMap (·.ws) ++ foldW (q.opn ++ ws)) = _; rw [d2, c2, b2, e]⟩
theorem carries_cut {q : Qu} {there now : List Vl} (h : Carries q there now) : Carries (quCut q) there now := by
  have e : quJoined (quCut q) = quJoined q := by simp [quJoined, quCut]
  unfold Carries; rw [e]; exact h
/-- A set taken off. -/
theorem take_sets {q : Qu} (h : quOk q) {s : DSet} {r : List DSet} (hs : q.sets = s :: r) : (quDone q s.to_).sets = r := by
  obtain ⟨h1, h2, -⟩ := h
  rw [hs] at h1 h2
  have hp := chain_less (s :: r) h1 h2
  show q.sets.filter _ = r
  rw [hs, List.filter_cons_of_neg (by simp)]
  exact filter_all (fun t ht => (List.pairwise_cons.1 hp).1 t ht)
theorem take_tail {q : Qu} (h : quOk q) {s : DSet} {r : List DSet} (hs : q.sets = s :: r) : quTail (quDone q s.to_) = s.to_ := by
  have e := take_sets h hs
  obtain ⟨h1, h2, -⟩ := h
  rw [hs] at h1 h2
  unfold quTail
  rw [e]
  cases r with
  | nil => exact h2.symm
  | cons t u => exact h2.1.symm
theorem take_less {q : Qu} (h : quOk q) {s : DSet} {r : List DSet} (hs : q.sets = s :: r) : quTail q = s.frm ∧ s.frm < s.to_ := by
  obtain ⟨h1, -⟩ := h
  refine ⟨by unfold quTail; rw [hs], ((setOk_iff s).1 (h1 s (by rw [hs]; simp))).2.2.1⟩
theorem carries_take {q : Qu} (hq : quOk q) {there now : List Vl} (h : Carries q there now) {s : DSet} {r : List DSet} (hs : q.sets = s :: r) :
    checkE there s.ws = 0 ∧ Carries (quDone q s.to_) (applyV there s.ws) now := by
  obtain ⟨h1, h2⟩ := h
  have e1 : quJoined q = s.ws ++ (r.flatMap (·.ws) ++ q.opn) := by simp [quJoined, hs]
  have e2 : quJoined (quDone q s.to_) = r.flatMap (·.ws) ++ q.opn := by unfold quJoined; rw [take_sets hq hs]; rfl
  rw [e1] at h1 h2
  obtain ⟨a1, a2, a3⟩ := apply_parts h1
  exact ⟨a1, by rw [e2]; exact a2, by rw [e2, ← a3]; exact h2⟩
theorem tail_add (q : Qu) (ws : List Wr) : quTail (quAdd q ws) = quTail q := rfl
theorem tail_cut (q : Qu) : quTail (quCut q) = quTail q := by
  unfold quTail quCut
  cases q.sets <;> rfl
/-- What waits after so many commits is within bounds. -/
theorem to_add (q : Qu) (ws : List Wr) : (quAdd q ws).to_ = q.to_ + 1 := rfl
theorem to_cut (q : Qu) : (quCut q).to_ = q.to_ ∧ (quCut q).frm = q.to_ := ⟨rfl, rfl⟩
theorem to_done (q : Qu) (n : Int) : (quDone q n).to_ = q.to_ ∧ (quDone q n).frm = q.frm := ⟨rfl, rfl⟩
/-- What waits when what was queued is right. -/
theorem waits_ok {q : Qu} (h : quOk q) : quTail q ≤ q.to_ := by
  obtain ⟨h1, h2, h3, h4, h5, -⟩ := h
  have key : ∀ (l : List DSet) (e : Int), (∀ s ∈ l, setOk s = true) → chainTo l e → (match l with | [] => e | s :: _ => s.frm) ≤ e := by
    intro l
    induction l with
    | nil => intro e _ _; exact Int.le_refl _
    | cons x r ih =>
      intro e ho hc
      have hx := (setOk_iff x).1 (ho x (by simp))
      cases r with
      | nil => have : x.to_ = e := hc; show x.frm ≤ e; omega
      | cons y u =>
        have h2 := ih e (fun s hs => ho s (List.mem_cons_of_mem _ hs)) hc.2
        have h3 : x.to_ = y.frm := hc.1
        have h4 : y.frm ≤ e := h2
        show x.frm ≤ e
        omega
  have := key q.sets q.frm h1 h2
  unfold quTail
  omega
end Go.Proofs.Ythajgoigmkkbgaa

namespace Go.Proofs.Ythajgoigmkkbgaa
open Go.Shelf Go.RowKit Go.Lib Go.Sort

/-- A set as it lies: with the address and the capacity of its writes. -/
structure SetV where
  frm : Int
  to_ : Int
  ws : List Wr
  a : Option Addr
  c : Nat
def SetV.set (x : SetV) : DSet := ⟨x.frm, x.to_, x.ws⟩
def plainS (l : List SetV) : List DSet := l.map SetV.set
theorem plainS_length (l : List SetV) : (plainS l).length = l.length := List.length_map ..
theorem plainS_append (l m : List SetV) : plainS (l ++ m) = plainS l ++ plainS m := List.map_append
def svCells : List SetV → List Value
  | [] => []
  | x :: l => .int .i64 x.frm :: .int .i64 x.to_ :: .slice x.a x.ws.length x.c :: svCells l
theorem svCells_length (l : List SetV) : (svCells l).length = l.length * 3 := by
  induction l with
  | nil => rfl
  | cons x l ih => simp [svCells, ih]; omega
theorem svCells_append (a b : List SetV) : svCells (a ++ b) = svCells a ++ svCells b := by
  induction a with
  | nil => rfl
  | cons x a ih => simp [svCells, ih]
theorem svCells_at {l : List SetV} {k : Nat} (hk : k < l.length) : (svCells l)[k * 3]? = some (.int .i64 l[k].frm) ∧ (svCells l)[k * 3 + 1]? = some (.int .i64 l[k].to_) ∧ (svCells l)[k * 3 + 2]? = some (.slice l[k].a l[k].ws.length l[k].c) := by
  induction l generalizing k with
  | nil => simp at hk
  | cons x l ih =>
    cases k with
    | zero => exact ⟨rfl, rfl, rfl⟩
    | succ k =>
      have := ih (k := k) (by simpa using hk)
      rw [show (k + 1) * 3 = k * 3 + 1 + 1 + 1 from by omega]
      simpa [svCells] using this
theorem svCells_one (l : List SetV) : ∀ u ∈ svCells l, u.oneCell' = true := by
  induction l with
  | nil => intro u hu; simp [svCells] at hu
  | cons x l ih =>
    intro u hu
    simp only [svCells, List.mem_cons] at hu
    rcases hu with rfl | rfl | rfl | hu
    · rfl
    · rfl
    · rfl
    · exact ih u hu

/-- The sets l lie where a slice's address says, and their writes where the sets say, below block B. -/
def SetsAt (w : World) (B : Nat) (A : Option Addr) (l : List SetV) : Prop :=
  Lies w B A (svCells l) ∧ ∀ x ∈ l, WrsAt w B x.a x.ws ∧ (x.a = none → x.c = 0)
theorem SetsAt.nil (w : World) (B : Nat) (A : Option Addr) : SetsAt w B A [] := ⟨.inl rfl, by simp⟩
theorem SetsAt.below {w w' : World} {B : Nat} {A : Option Addr} {l : List SetV} (h : SetsAt w B A l) (hb : Below B w w') : SetsAt w' B A l := ⟨h.1.below hb, fun x hx => ⟨(h.2 x hx).1.below hb, (h.2 x hx).2⟩⟩
theorem SetsAt.more {w : World} {B B' : Nat} {A : Option Addr} {l : List SetV} (h : SetsAt w B A l) (hB : B ≤ B') : SetsAt w B' A l := ⟨h.1.more hB, fun x hx => ⟨(h.2 x hx).1.more hB, (h.2 x hx).2⟩⟩
theorem SetsAt.next {w w' : World} {A : Option Addr} {l : List SetV} (h : SetsAt w w.heap.size A l) (hb : Below w.heap.size w w') : SetsAt w' w'.heap.size A l := (h.below hb).more hb.size
/-- One set, in a later world. -/
theorem SetsAt.at_ {w w' : World} {B : Nat} {A : Option Addr} {l : List SetV} (h : SetsAt w B A l) (hb : Below B w w') {i : Nat} (hi : i < l.length) :
    ∃ b off, A = some ⟨b, off, none⟩ ∧ b < B ∧ w'.cell? ⟨b, off + i * 3, none⟩ = some (.int .i64 l[i].frm) ∧ w'.cell? ⟨b, off + i * 3 + 1, none⟩ = some (.int .i64 l[i].to_) ∧ w'.cell? ⟨b, off + i * 3 + 2, none⟩ = some (.slice l[i].a l[i].ws.length l[i].c) ∧ WrsAt w' B l[i].a l[i].ws ∧ (l[i].a = none → l[i].c = 0) := by
  obtain ⟨h1, h2⟩ := h.below hb
  have hl := svCells_length l
  obtain ⟨b, off, hA, hlt, hc⟩ := h1.at_ (by intro e; rw [e] at hl; simp at hl; omega)
  obtain ⟨g1, g2, g3⟩ := svCells_at hi
  rw [List.getElem?_eq_getElem (by omega)] at g1 g2 g3
  obtain ⟨h3, h4⟩ := h2 _ (List.getElem_mem hi)
  refine ⟨b, off, hA, hlt, ?_, ?_, ?_, h3, h4⟩
  · rw [hc (i * 3) (by omega)]; exact g1
  · rw [Nat.add_assoc, hc (i * 3 + 1) (by omega)]; exact g2
  · rw [Nat.add_assoc, hc (i * 3 + 2) (by omega)]; exact g3

/-- A queue as it lies. -/
structure QuV where
  A : Option Addr
  c : Nat
  sets : List SetV
  A2 : Option Addr
  c2 : Nat
  opn : List Wr
  frm : Int
  to_ : Int
def QuV.qu (q : QuV) : Qu := ⟨plainS q.sets, q.opn, q.frm, q.to_⟩
def QuV.val (q : QuV) : Value := .agg #[.slice q.A q.sets.length q.c, .slice q.A2 q.opn.length q.c2, .int .i64 q.frm, .int .i64 q.to_]
structure QuAt (w : World) (B : Nat) (q : QuV) : Prop where
  sets : SetsAt w B q.A q.sets
  opn : WrsAt w B q.A2 q.opn
  nil : q.A = none → q.c = 0
  nil2 : q.A2 = none → q.c2 = 0
theorem QuAt.below {w w' : World} {B : Nat} {q : QuV} (h : QuAt w B q) (hb : Below B w w') : QuAt w' B q := ⟨h.1.below hb, h.2.below hb, h.3, h.4⟩
theorem QuAt.more {w : World} {B B' : Nat} {q : QuV} (h : QuAt w B q) (hB : B ≤ B') : QuAt w B' q := ⟨h.1.more hB, h.2.more hB, h.3, h.4⟩
theorem QuAt.next {w w' : World} {q : QuV} (h : QuAt w w.heap.size q) (hb : Below w.heap.size w w') : QuAt w' w'.heap.size q := (h.below hb).more hb.size
/-- How great a queue is. -/
structure QuSm (q : QuV) : Prop where
  sets : q.sets.length ≤ 40
  each : ∀ x ∈ q.sets, x.ws.length ≤ 400
  opn : q.opn.length ≤ 400
def quvNone : QuV := ⟨none, 0, [], none, 0, [], 0, 0⟩
theorem quvNone_at (w : World) (B : Nat) : QuAt w B quvNone := ⟨SetsAt.nil _ _ _, .inl rfl, fun _ => rfl, fun _ => rfl⟩
/-- What a call that hands back a queue leaves; one that tells an error, too. -/
def QuEnd (u : Qu) (w : World) (e : Ending) (w' : World) : Prop := ∃ q : QuV, q.qu = u ∧ e = .returned q.val ∧ QuAt w' w'.heap.size q ∧ Below w.heap.size w w'
def QuErr (u : Qu) (n : Int) (w : World) (e : Ending) (w' : World) : Prop := ∃ q : QuV, q.qu = u ∧ e = .returned (.tuple #[q.val, .int .i64 n]) ∧ QuAt w' w'.heap.size q ∧ Below w.heap.size w w'
theorem QuErr.none_ (n : Int) {w w' : World} (hb : Below w.heap.size w w') : QuErr quNone n w (.returned (.tuple #[.agg #[.slice none 0 0, .slice none 0 0, .int .i64 0, .int .i64 0], .int .i64 n])) w' := ⟨quvNone, rfl, rfl, quvNone_at _ _, hb⟩
end Go.Proofs.Ythajgoigmkkbgaa

namespace Go.Proofs.Ythajgoigmkkbgaa

theorem foldedB_no {l : List Wr} (h : foldW l ≠ l) : foldedB l = false := by rw [Bool.eq_false_iff]; exact fun e => h ((foldedB_iff _).1 e)
/-- The end of a row of sets that begins at a place, if all is right. -/
noncomputable def goR : List DSet → Int → Option Int
  | [], n => some n
  | s :: r, n => if s.frm = n ∧ s.frm < s.to_ ∧ foldedB s.ws = true then goR r s.to_ else none
theorem goR_step {s : DSet} {r : List DSet} {n : Int} (h1 : s.frm = n) (h2 : s.frm < s.to_) (h3 : foldW s.ws = s.ws) : goR (s :: r) n = goR r s.to_ := by rw [goR, if_pos ⟨h1, h2, (foldedB_iff _).2 h3⟩]
theorem goR_no {s : DSet} {r : List DSet} {n : Int} (h : ¬ (s.frm = n ∧ s.frm < s.to_ ∧ foldW s.ws = s.ws)) : goR (s :: r) n = none := by rw [goR, if_neg (by rw [foldedB_iff]; exact h)]
theorem goR_some : ∀ {l : List DSet} {n e : Int}, goR l n = some e → n ≤ e ∧ (∀ s ∈ l, n ≤ s.frm ∧ s.to_ ≤ e ∧ s.frm < s.to_ ∧ foldW s.ws = s.ws) ∧ chainTo l e ∧ (∀ s r, l = s :: r → s.frm = n) ∧ (l = [] → n = e)
  | [], n, e, h => by
    have : n = e := by simpa [goR] using h
    exact ⟨by omega, by simp, trivial, by simp, fun _ => this⟩
  | s :: r, n, e, h => by
    by_cases hc : s.frm = n ∧ s.frm < s.to_ ∧ foldW s.ws = s.ws
    · obtain ⟨h1, h2, h3⟩ := hc
      rw [goR_step h1 h2 h3] at h
      obtain ⟨g1, g2, g3, g4, g5⟩ := goR_some h
      refine ⟨by omega, ?_, ?_, ?_, by simp⟩
      · intro x hx
        rcases List.mem_cons.1 hx with rfl | hx
        · exact ⟨by omega, g1, h2, h3⟩
        · obtain ⟨k1, k2, k3, k4⟩ := g2 x hx
          exact ⟨by omega, k2, k3, k4⟩
      · cases r with
        | nil => exact g5 rfl
        | cons t u => exact ⟨(g4 t u rfl).symm, g3⟩
      · intro x y hxy; cases hxy; exact h1
    · rw [goR_no hc] at h; cases h
theorem goR_of : ∀ {l : List DSet} {e : Int}, (∀ s ∈ l, setOk s = true) → chainTo l e → ∀ s r, l = s :: r → goR l s.frm = some e
  | [], _, _, _, _, _, h => by cases h
  | [x], e, ho, hc, s, r, h => by
    cases h
    have hx := (setOk_iff x).1 (ho x (by simp))
    rw [goR_step rfl hx.2.2.1 hx.2.2.2]
    have : x.to_ = e := hc
    simp [goR, this]
  | x :: y :: u, e, ho, hc, s, r, h => by
    cases h
    have hx := (setOk_iff x).1 (ho x (by simp))
    rw [goR_step rfl hx.2.2.1 hx.2.2.2, show x.to_ = y.frm from hc.1]
    exact goR_of (fun s hs => ho s (List.mem_cons_of_mem _ hs)) hc.2 y u rfl
theorem goR_of' {l : List DSet} {e : Int} (ho : ∀ s ∈ l, setOk s = true) (hc : chainTo l e) (f : Int) (hf : l = [] → f = e) (hf2 : ∀ s r, l = s :: r → f = s.frm) : goR l f = some e := by
  cases l with
  | nil => rw [hf rfl]; rfl
  | cons s r => rw [hf2 s r rfl]; exact goR_of ho hc s r rfl
/-- As the code tells it. -/
theorem quRight_code (q : Qu) : quRight q = true ↔ 0 ≤ quTail q ∧ q.frm ≤ q.to_ ∧ q.to_ ≤ 1099511627776 ∧ goR q.sets (quTail q) = some q.frm ∧ foldW q.opn = q.opn ∧ (q.frm < q.to_ ∨ q.opn = []) := by
  rw [quRight_iff]
  constructor
  · rintro ⟨h1, h2, h3, h4, h5, h6, h7⟩
    rw [okN_iff] at h3 h4
    have hg : goR q.sets (quTail q) = some q.frm := by
      refine goR_of' h1 h2 _ (fun e => ?_) (fun s r e => ?_)
      · unfold quTail; rw [e]
      · unfold quTail; rw [e]
    refine ⟨?_, h5, h4.2, hg, h6, ?_⟩
    · cases hs : q.sets with
      | nil => unfold quTail; rw [hs]; exact h3.1
      | cons s r => unfold quTail; rw [hs]; exact ((setOk_iff s).1 (h1 s (by rw [hs]; simp))).1.1
    · by_cases he : q.frm = q.to_
      · exact Or.inr (h7 he)
      · exact Or.inl (by omega)
  · rintro ⟨h1, h2, h3, h4, h5, h6⟩
    obtain ⟨g1, g2, g3, g4, g5⟩ := goR_some h4
    refine ⟨fun s hs => ?_, g3, ?_, ?_, h2, h5, fun e => ?_⟩
    · obtain ⟨k1, k2, k3, k4⟩ := g2 s hs
      rw [setOk_iff]
      exact ⟨⟨by omega, by omega⟩, ⟨by omega, by omega⟩, k3, k4⟩
    · rw [okN_iff]; omega
    · rw [okN_iff]; omega
    · rcases h6 with h6 | h6
      · omega
      · exact h6
theorem quRight_false {q : Qu} (h : ¬ (0 ≤ quTail q ∧ q.frm ≤ q.to_ ∧ q.to_ ≤ 1099511627776 ∧ goR q.sets (quTail q) = some q.frm ∧ foldW q.opn = q.opn ∧ (q.frm < q.to_ ∨ q.opn = []))) : quRight q = false := by
  rw [Bool.eq_false_iff]; exact fun e => h ((quRight_code q).1 e)

/-! ### As the document's answer tells it -/

theorem chain_iff : ∀ (l : List DSet) (e : Int), chainTo l e ↔ (∀ i, (h : i + 1 < l.length) → l[i].to_ = l[i + 1].frm) ∧ ∀ (_ : 0 < l.length), l[l.length - 1].to_ = e
  | [], e => ⟨fun _ => ⟨fun i h => by simp at h, fun h => by simp at h⟩, fun _ => trivial⟩
  | [s], e => ⟨fun h => ⟨fun i h => by simp at h, fun _ => h⟩, fun h => h.2 (by simp)⟩
  | s :: t :: r, e => by
    have ih := chain_iff (t :: r) e
    constructor
    · rintro ⟨h1, h2⟩
      obtain ⟨g1, g2⟩ := ih.1 h2
      refine ⟨fun i h => ?_, fun _ => ?_⟩
      · cases i with
        | zero => exact h1
        | succ i => exact g1 i (by simpa using h)
      · have := g2 (by simp)
        simpa using this
    · rintro ⟨g1, g2⟩
      refine ⟨g1 0 (by simp), ih.2 ⟨fun i h => ?_, fun _ => ?_⟩⟩
      · have := g1 (i + 1) (by simpa using h)
        simpa using this
      · have := g2 (by simp)
        simpa using this
/-- What makes a queue wrong, in the document's order. -/
theorem doc_set {q : Qu} {i : Nat} (hi : i < q.sets.length) (h : setOk q.sets[i] = false) : quRight q = false := by
  rw [Bool.eq_false_iff]; intro e
  have := ((quRight_iff q).1 e).1 _ (List.getElem_mem hi)
  rw [h] at this; cases this
theorem doc_step {q : Qu} {i : Nat} (hi : i + 1 < q.sets.length) (h : q.sets[i].to_ ≠ q.sets[i + 1].frm) : quRight q = false := by
  rw [Bool.eq_false_iff]; intro e
  exact h (((chain_iff _ _).1 ((quRight_iff q).1 e).2.1).1 i hi)
theorem doc_last {q : Qu} {i : Nat} (hi : q.sets.length = i + 1) (h : (q.sets[i]'(by omega)).to_ ≠ q.frm) : quRight q = false := by
  rw [Bool.eq_false_iff]; intro e
  have := ((chain_iff _ _).1 ((quRight_iff q).1 e).2.1).2 (by omega)
  apply h
  rw [← this]
  congr 2
  omega
theorem doc_rest {q : Qu} (h : ¬ (okN q.frm = true ∧ okN q.to_ = true ∧ q.frm ≤ q.to_ ∧ foldW q.opn = q.opn ∧ (q.frm < q.to_ ∨ q.opn = []))) : quRight q = false := by
  rw [Bool.eq_false_iff]; intro e
  obtain ⟨h1, h2, h3, h4, h5, h6, h7⟩ := (quRight_iff q).1 e
  refine h ⟨h3, h4, h5, h6, ?_⟩
  by_cases hn : q.frm = q.to_
  · exact Or.inr (h7 hn)
  · exact Or.inl (by omega)
theorem doc_ok {q : Qu} (h1 : ∀ i, (h : i < q.sets.length) → setOk q.sets[i] = true) (h2 : ∀ i, (h : i + 1 < q.sets.length) → q.sets[i].to_ = q.sets[i + 1].frm) (h3 : ∀ i, (h : q.sets.length = i + 1) → (q.sets[i]'(by omega)).to_ = q.frm)
    (h4 : okN q.frm = true) (h5 : okN q.to_ = true) (h6 : q.frm ≤ q.to_) (h7 : foldW q.opn = q.opn) (h8 : q.frm < q.to_ ∨ q.opn = []) : quRight q = true := by
  rw [quRight_iff]
  refine ⟨fun s hs => ?_, (chain_iff _ _).2 ⟨h2, fun hp => ?_⟩, h4, h5, h6, h7, fun e => ?_⟩
  · obtain ⟨i, hi, rfl⟩ := List.getElem_of_mem hs
    exact h1 i hi
  · exact h3 (q.sets.length - 1) (by omega)
  · rcases h8 with h8 | h8
    · omega
    · exact h8
end Go.Proofs.Ythajgoigmkkbgaa

namespace Go.Proofs.Ythajgoigmkkbgaa
open Go.Shelf Go.RowKit Go.Lib Go.Sort

/-- A queue, boxed: its four cells, in all later worlds. -/
structure QuBox (V : World) (H : Nat) (A : Option Addr) (n c : Nat) (A2 : Option Addr) (n2 c2 : Nat) (f t : Int) : Prop where
  c0 : ∀ p : LatW V, p.wd.cell? ⟨H, 0, none⟩ = some (.slice A n c)
  c1 : ∀ p : LatW V, p.wd.cell? ⟨H, 1, none⟩ = some (.slice A2 n2 c2)
  c2 : ∀ p : LatW V, p.wd.cell? ⟨H, 2, none⟩ = some (.int .i64 f)
  c3 : ∀ p : LatW V, p.wd.cell? ⟨H, 3, none⟩ = some (.int .i64 t)
theorem QuBox.of {V : World} {H : Nat} {A : Option Addr} {n c : Nat} {A2 : Option Addr} {n2 c2 : Nat} {f t : Int} {ty : TypeId} (h : V.heap[H]? = some (.cells #[.slice A n c, .slice A2 n2 c2, .int .i64 f, .int .i64 t] ty (0, 0))) : QuBox V H A n c A2 n2 c2 f t := by
  have hlt : H < V.heap.size := (Array.getElem?_eq_some_iff.1 h).1
  exact ⟨fun p => p.cell (by rw [Lib.cell_of_heap h]; rfl) hlt, fun p => p.cell (by rw [Lib.cell_of_heap h]; rfl) hlt, fun p => p.cell (by rw [Lib.cell_of_heap h]; rfl) hlt, fun p => p.cell (by rw [Lib.cell_of_heap h]; rfl) hlt⟩

set_option maxRecDepth 100000 in
theorem tail_any {w : World} {q : QuV} (h : QuAt w w.heap.size q) : Calls Try.prog 40 #[q.val] w fun e w' => e = .returned (.int .i64 (quTail q.qu)) ∧ Below w.heap.size w w' := by
  obtain ⟨A, c, l, A2, c2, ws, f, t⟩ := q
  have HBV := Lib.hid (below_one w (.cells #[.slice A l.length c, .slice A2 ws.length c2, .int .i64 f, .int .i64 t] 27 (0, 0)))
  show Calls _ _ #[.agg #[.slice A l.length c, .slice A2 ws.length c2, .int .i64 f, .int .i64 t]] w _
  cases l with
  | nil =>
    rw [show quTail (QuV.qu ⟨A, c, [], A2, c2, ws, f, t⟩) = f from rfl]
    go_enter Try.func40, Try.ntmps40
    go_wp2_with fail
    go_ret
    exact ⟨rfl, HBV.out⟩
  | cons x l =>
    rw [show quTail (QuV.qu ⟨A, c, x :: l, A2, c2, ws, f, t⟩) = x.frm from rfl]
    obtain ⟨b, off, hA, hlt, x1, -⟩ := h.sets.at_ HBV.out (i := 0) (by simp)
    simp only [Nat.zero_mul, Nat.add_zero, List.getElem_cons_zero] at x1 hA
    subst hA
    obtain ⟨n, hn⟩ : ∃ n, (x :: l).length = n + 1 := ⟨l.length, rfl⟩
    rw [hn] at x1 HBV ⊢
    have hz : ((n : Int) + 1 == 0) = false := by rw [beq_eq_false_iff_ne]; omega
    have hp : (0 : Int) < (n : Int) + 1 := by omega
    clear h hn hlt
    go_enter Try.func40, Try.ntmps40
    go_wp2_with fail
    go_ret
    exact ⟨rfl, HBV.out⟩

theorem QuAt.lat {w V : World} {q : QuV} (h : QuAt w w.heap.size q) (hb : Below w.heap.size w V) (z : LatW V) : QuAt z.wd z.wd.heap.size q := (h.next hb).next z.bel
theorem eqW_fold (l : List Wr) : eqW l (foldW l) = true ↔ foldW l = l := by
  constructor
  · intro e
    by_cases h : l = foldW l
    · exact h.symm
    · rw [eqW_ne h] at e; cases e
  · intro e
    rw [e]; exact eqW_self _

set_option maxHeartbeats 4000000 in
set_option maxRecDepth 100000 in
theorem QRight_any {w : World} {q : QuV} (h : QuAt w w.heap.size q) (hs : q.sets.length ≤ 9223372036854775807) (he : ∀ x ∈ q.sets, x.ws.length ≤ 4000) (ho : q.opn.length ≤ 4000) :
    Calls Try.prog 19 #[q.val] w fun e w' => e = .returned (.bool (quRight q.qu)) ∧ Below w.heap.size w w' := by
  have HC := Lib.hid (@quRight_code q.qu)
  have HF := Lib.hid (@quRight_false q.qu)
  obtain ⟨A, c, l, A2, c2, ws, f, t⟩ := q
  show Calls _ _ #[.agg #[.slice A l.length c, .slice A2 ws.length c2, .int .i64 f, .int .i64 t]] w _
  have HBV := Lib.hid (below_one w (.cells #[.slice A l.length c, .slice A2 ws.length c2, .int .i64 f, .int .i64 t] 27 (0, 0)))
  have HX := Lib.hid (QuBox.of (heap_new w (.cells #[.slice A l.length c, .slice A2 ws.length c2, .int .i64 f, .int .i64 t] 27 (0, 0))))
  have HT : Hid (LatCalls Try.prog (w.alloc (.cells #[.slice A l.length c, .slice A2 ws.length c2, .int .i64 f, .int .i64 t] 27 (0, 0))) 40 #[.agg #[.slice A l.length c, .slice A2 ws.length c2, .int .i64 f, .int .i64 t]] (.int .i64 (quTail (QuV.qu ⟨A, c, l, A2, c2, ws, f, t⟩)))) := Lib.hid (LatCalls.of fun z => tail_any (h.lat HBV.out z))
  have HO : Hid (LatCalls Try.prog (w.alloc (.cells #[.slice A l.length c, .slice A2 ws.length c2, .int .i64 f, .int .i64 t] 27 (0, 0))) 43 #[.slice A2 ws.length c2] (.bool (eqW ws (foldW ws)))) := Lib.hid (LatCalls.of fun z => Folded_any (h.lat HBV.out z).opn ho)
  have HS := Lib.hid (fun z => (h.lat HBV.out z).sets)
  have HE := Lib.hid he
  change Hid (quRight (QuV.qu ⟨A, c, l, A2, c2, ws, f, t⟩) = true ↔ 0 ≤ quTail (QuV.qu ⟨A, c, l, A2, c2, ws, f, t⟩) ∧ f ≤ t ∧ t ≤ 1099511627776 ∧ goR (plainS l) (quTail (QuV.qu ⟨A, c, l, A2, c2, ws, f, t⟩)) = some f ∧ foldW ws = ws ∧ (f < t ∨ ws = [])) at HC
  change Hid (¬ (0 ≤ quTail (QuV.qu ⟨A, c, l, A2, c2, ws, f, t⟩) ∧ f ≤ t ∧ t ≤ 1099511627776 ∧ goR (plainS l) (quTail (QuV.qu ⟨A, c, l, A2, c2, ws, f, t⟩)) = some f ∧ foldW ws = ws ∧ (f < t ∨ ws = [])) → quRight (QuV.qu ⟨A, c, l, A2, c2, ws, f, t⟩) = false) at HF
  generalize quRight (QuV.qu ⟨A, c, l, A2, c2, ws, f, t⟩) = G at HC HF ⊢
  generalize quTail (QuV.qu ⟨A, c, l, A2, c2, ws, f, t⟩) = T at HC HF HT
  simp only at hs
  obtain ⟨n, hn⟩ : ∃ n, l.length = n := ⟨_, rfl⟩
  have HN := Lib.hid hn
  obtain ⟨m, hm⟩ : ∃ m, ws.length = m := ⟨_, rfl⟩
  have HM := Lib.hid hm
  rw [hn, hm] at HBV HX HT HO HS ⊢
  rw [hn] at hs
  clear h he ho hn hm
  go_enter Try.func19, Try.ntmps19
  go_wp2_with fail
  generalize w.alloc (.cells #[.slice A n c, .slice A2 m c2, .int .i64 f, .int .i64 t] 27) = V at HBV HX HT HO HS ⊢
  have x0 := HX.out.c0
  have x1 := HX.out.c1
  have x2 := HX.out.c2
  have x3 := HX.out.c3
  have HEnd : Hid (∀ z : LatW V, Below w.heap.size w z.wd) := Lib.hid (fun z => lat_end HBV.out z)
  clear HBV
  generalize w.heap.size = H at x0 x1 x2 x3 ⊢
  obtain ⟨z0, hz0⟩ := LatW.start V
  rw [← hz0]
  clear hz0
  cases g1 : decide (T < 0) with
  | true =>
    have hG : G = false := HF.out (fun e => by have := of_decide_eq_true g1; omega)
    go_wp2_with (first | (go_at_call 40; refine (HT.out.at_ _).mono ?_; rintro e w9 ⟨rfl, z9, rfl⟩))
    go_ret
    exact ⟨by first | (rw [hG]; rfl) | rfl, HEnd.out _⟩
  | false =>
  cases g2 : decide (t < f) with
  | true =>
    have hG : G = false := HF.out (fun e => by have := of_decide_eq_true g2; omega)
    go_wp2_with (first | (go_at_call 40; refine (HT.out.at_ _).mono ?_; rintro e w9 ⟨rfl, z9, rfl⟩))
    go_ret
    exact ⟨by first | (rw [hG]; rfl) | rfl, HEnd.out _⟩
  | false =>
  cases g3 : decide ((1099511627776 : Int) < t) with
  | true =>
    have hG : G = false := HF.out (fun e => by have := of_decide_eq_true g3; omega)
    go_wp2_with (first | (go_at_call 40; refine (HT.out.at_ _).mono ?_; rintro e w9 ⟨rfl, z9, rfl⟩))
    go_ret
    exact ⟨by first | (rw [hG]; rfl) | rfl, HEnd.out _⟩
  | false =>
  obtain ⟨R, hR⟩ : ∃ R, goR (plainS l) T = R := ⟨_, rfl⟩
  have HR := Lib.hid hR
  rw [hR] at HC HF
  clear hR
  have HG0 : Hid (R ≠ some f → G = false) := Lib.hid (fun h => HF.out (fun e => h e.2.2.2.1))
  have HG1 : Hid (¬ foldW ws = ws → G = false) := Lib.hid (fun h => HF.out (fun e => h e.2.2.2.2.1))
  have HG2 : Hid (¬ (f < t ∨ ws = []) → G = false) := Lib.hid (fun h => HF.out (fun e => h e.2.2.2.2.2))
  have HG3 : Hid (R = some f → foldW ws = ws → (f < t ∨ ws = []) → G = true) := Lib.hid (fun h1 h2 h3 => HC.out.2 ⟨by have := of_decide_eq_false g1; omega, by have := of_decide_eq_false g2; omega, by have := of_decide_eq_false g3; omega, h1, h2, h3⟩)
  clear HF HC
  go_wp2_with (first | (go_at_call 40; refine (HT.out.at_ _).mono ?_; rintro e w9 ⟨rfl, z9, rfl⟩))
  clear g1 g2 g3
  go_loopg [3, 26] n (fun kx s3 s26 wr => ∃ (k : Nat) (a : Int), s26 = .int .i64 k ∧ s3 = .int .i64 a ∧ k ≤ n ∧ n - k ≤ kx ∧ Hid (goR (plainS (l.drop k)) a = R) ∧ Hid (∃ z : LatW V, wr = z.wd))
  case atStart => exact ⟨0, T, rfl, rfl, Nat.zero_le _, by omega, Lib.hid (by rw [List.drop_zero]; exact HR.out), Lib.hid ⟨_, rfl⟩⟩
  case round =>
    obtain ⟨k, a, rfl, rfl, hk, hkx, HG, HZ⟩ := hrel
    obtain ⟨z, rfl⟩ := HZ.out
    clear HZ
    by_cases hlt : k < n
    · have hltz : (k : Int) < (n : Int) := by omega
      have hkl : k < l.length := by rw [HN.out]; exact hlt
      obtain ⟨b, off, hA, hbl, y1, y2, y3, y4, -⟩ := (HS.out z).at_ (Below.refl _ _) hkl
      have HD : Hid (plainS (l.drop k) = l[k].set :: plainS (l.drop (k + 1))) := Lib.hid (by rw [List.drop_eq_getElem_cons hkl]; rfl)
      have HL := Lib.hid (HE.out l[k] (List.getElem_mem hkl))
      obtain ⟨x, hx⟩ : ∃ x, l[k] = x := ⟨_, rfl⟩
      rw [hx] at y1 y2 y3 y4 HD HL
      clear hx hkl
      obtain ⟨xf, xt, xw, xa, xc⟩ := x
      simp only at y1 y2 y3 y4
      have HY := Lib.hid y4
      have HNo : Hid (¬ (xf = a ∧ xf < xt ∧ foldW xw = xw) → G = false) := Lib.hid (fun h => HG0.out (by
        have h1 := HG.out
        rw [HD.out, goR_no h] at h1
        rw [← h1]; simp))
      subst hA
      clear y4
      cases e1 : (xf != a) with
      | true =>
        have hG : G = false := HNo.out (fun e => by rw [bne_iff_ne] at e1; exact e1 e.1)
        go_wp2_with fail
        go_ret
        exact ⟨by first | (rw [hG]; rfl) | rfl, (HEnd.out z).trans ((below_one _ _).mono (HEnd.out z).size)⟩
      | false =>
      cases e2 : decide (xt ≤ xf) with
      | true =>
        have hG : G = false := HNo.out (fun e => by have := of_decide_eq_true e2; omega)
        go_wp2_with fail
        go_ret
        exact ⟨by first | (rw [hG]; rfl) | rfl, (HEnd.out z).trans ((below_one _ _).mono (HEnd.out z).size)⟩
      | false =>
      have hla := HL.out
      simp only at hla
      obtain ⟨zn, hzn0⟩ := z.made (.cells #[.int .i64 xf, .int .i64 xt, .slice xa xw.length xc] 42 (0, 0))
      have hzn := Lib.hid hzn0
      clear hzn0
      have HFx := Lib.hid (Folded_any (c := xc) (HY.out.next (below_one z.wd (.cells #[.int .i64 xf, .int .i64 xt, .slice xa xw.length xc] 42 (0, 0)))) hla)
      cases e3 : eqW xw (foldW xw) with
      | false =>
        have hG : G = false := HNo.out (fun e => by rw [(eqW_fold xw).2 e.2.2] at e3; cases e3)
        rw [e3] at HFx
        obtain ⟨nx, hnx⟩ : ∃ nx, xw.length = nx := ⟨_, rfl⟩
        rw [hnx] at y3 HFx hzn
        clear hnx hla
        go_wp2_with (first | (go_at_call 43; refine HFx.out.mono ?_; rintro e w5 ⟨rfl, hb5⟩; replace hb5 := Lib.hid hb5))
        go_ret
        exact ⟨by first | (rw [hG]; rfl) | rfl, (HEnd.out z).trans (((below_one _ _).mono (HEnd.out z).size).trans (hb5.out.mono (Nat.le_trans (HEnd.out z).size (below_one _ _).size)))⟩
      | true =>
        have HK : Hid (goR (plainS (l.drop (k + 1))) xt = R) := Lib.hid (by
          have h1 := HG.out
          have h9 : xf = a := by simpa using e1
          have h8 : xf < xt := by have := of_decide_eq_false e2; omega
          rw [HD.out, goR_step (s := SetV.set ⟨xf, xt, xw, xa, xc⟩) h9 h8 ((eqW_fold xw).1 e3)] at h1
          exact h1)
        have HCs : Hid (∀ w', Below (z.wd.alloc (.cells #[.int .i64 xf, .int .i64 xt, .slice xa xw.length xc] 42 (0, 0))).heap.size (z.wd.alloc (.cells #[.int .i64 xf, .int .i64 xt, .slice xa xw.length xc] 42 (0, 0))) w' → w'.cell? ⟨z.wd.heap.size, 1, none⟩ = some (.int .i64 xt)) := Lib.hid (fun w' hb => by
          rw [hb.cell (p := ⟨z.wd.heap.size, 1, none⟩) (by simp), Lib.cell_of_heap (heap_new _ _)]; rfl)
        rw [e3] at HFx
        obtain ⟨nx, hnx⟩ : ∃ nx, xw.length = nx := ⟨_, rfl⟩
        rw [hnx] at y3 HFx hzn HCs
        clear hnx hla
        go_wp2_with (first | (go_at_call 43; refine HFx.out.mono ?_; rintro e w5 ⟨rfl, hb5⟩; have x5 := HCs.out _ hb5; replace hb5 := Lib.hid hb5))
        go_roundg (n - (k + 1))
        case measure => omega
        case rel => exact ⟨k + 1, xt, by go_num, rfl, by omega, Nat.le_refl _, HK, Lib.hid (by rw [hzn.out] at hb5; exact zn.later hb5.out)⟩
    · have hltz : ¬ (k : Int) < (n : Int) := by omega
      have hRa : R = some a := by have := HG.out; rw [List.drop_of_length_le (by rw [HN.out]; omega)] at this; exact this.symm
      cases e1 : (f == a) with
      | false =>
        have hG : G = false := HG0.out (fun e => by rw [hRa] at e; cases e; simp at e1)
        go_wp2_with fail
        go_ret
        exact ⟨by first | (rw [hG]; rfl) | rfl, HEnd.out _⟩
      | true =>
      have hfa : f = a := by simpa using e1
      cases e2 : eqW ws (foldW ws) with
      | false =>
        have hG : G = false := HG1.out (fun e => by rw [(eqW_fold ws).2 e] at e2; cases e2)
        rw [e2] at HO
        clear hfa
        go_wp2_with (first | (go_at_call 43; refine (HO.out.at_ _).mono ?_; rintro e w5 ⟨rfl, z5, rfl⟩))
        go_ret
        exact ⟨by first | (rw [hG]; rfl) | rfl, HEnd.out _⟩
      | true =>
      rw [e2] at HO
      cases e3 : decide (f < t) with
      | true =>
        have hG : G = true := HG3.out (by rw [hRa, hfa]) ((eqW_fold ws).1 e2) (Or.inl (of_decide_eq_true e3))
        clear hfa
        go_wp2_with (first | (go_at_call 43; refine (HO.out.at_ _).mono ?_; rintro e w5 ⟨rfl, z5, rfl⟩))
        go_ret
        exact ⟨by first | (rw [hG]; rfl) | rfl, HEnd.out _⟩
      | false =>
        have hG : G = ((m : Int) == 0) := by
          cases e4 : ((m : Int) == 0) with
          | true => exact HG3.out (by rw [hRa, hfa]) ((eqW_fold ws).1 e2) (Or.inr (List.eq_nil_of_length_eq_zero (by
            rw [HM.out]
            have h4 : (m : Int) = 0 := by simpa using e4
            omega)))
          | false =>
            refine HG2.out (fun e => ?_)
            rcases e with e | e
            · exact absurd e (of_decide_eq_false e3)
            · have := HM.out; rw [e] at this; subst this; simp at e4
        clear hfa
        go_wp2_with (first | (go_at_call 43; refine (HO.out.at_ _).mono ?_; rintro e w5 ⟨rfl, z5, rfl⟩))
        go_ret
        exact ⟨by first | (rw [hG]; rfl) | rfl, HEnd.out _⟩
end Go.Proofs.Ythajgoigmkkbgaa

namespace Go.Proofs.Ythajgoigmkkbgaa
open Go.Shelf Go.RowKit Go.Lib Go.Sort

/-- A block that holds a queue. -/
def QBlk (w : World) (H : Nat) : Prop := ∃ (A : Option Addr) (n c : Nat) (A2 : Option Addr) (n2 c2 : Nat) (f t : Int) (ty : TypeId), w.heap[H]? = some (.cells #[.slice A n c, .slice A2 n2 c2, .int .i64 f, .int .i64 t] ty (0, 0))
theorem QBlk.cells {w : World} {H : Nat} (h : QBlk w H) : ∃ (A : Option Addr) (n c : Nat) (A2 : Option Addr) (n2 c2 : Nat) (f t : Int), ∀ j, w.cell? ⟨H, j, none⟩ = (#[Value.slice A n c, .slice A2 n2 c2, .int .i64 f, .int .i64 t] : Array Value)[j]? := by
  obtain ⟨A, n, c, A2, n2, c2, f, t, ty, h⟩ := h
  exact ⟨A, n, c, A2, n2, c2, f, t, fun j => by rw [Lib.cell_of_heap h]⟩
theorem cell_in4 {w : World} {H : Nat} {vs : Array Value} (h : ∀ j, w.cell? ⟨H, j, none⟩ = vs[j]?) (hs : vs.size = 4) {j : Nat} {v : Value} (hv : w.cell? ⟨H, j, none⟩ = some v) : j < 4 := by
  rw [h j] at hv
  have := (Array.getElem?_eq_some_iff.1 hv).1
  omega
theorem QBlk.not3 {w : World} {H o : Nat} (h : QBlk w H) {a b : Int} {v : Value} (h0 : w.cell? ⟨H, o, none⟩ = some (.int .i64 a)) (h1 : w.cell? ⟨H, o + 1, none⟩ = some (.int .i64 b)) (h2 : w.cell? ⟨H, o + 2, none⟩ = some v) : False := by
  obtain ⟨A, n, c, A2, n2, c2, f, t, hc⟩ := h.cells
  have h4 : o + 2 < 4 := cell_in4 hc rfl h2
  rw [hc] at h0 h1
  match o, h4 with
  | 0, _ => simp at h0
  | 1, _ => simp at h0
theorem WrsAt.off {w : World} {B H : Nat} {A : Option Addr} {us : List Wr} (h : WrsAt w B A us) (hq : QBlk w H) {b off : Nat} (hA : A = some ⟨b, off, none⟩) (hne : us ≠ []) : b ≠ H := by
  rintro rfl
  rcases h with h | ⟨b', off', hA', hlt, hc⟩
  · exact hne h
  · rw [hA] at hA'; cases hA'
    obtain ⟨g0, g1, g2⟩ := hc 0 (List.length_pos_iff.2 hne)
    exact hq.not3 g0 g1 g2
theorem WrsAt.turned {F : Nat → Prop} {w w' : World} {B : Nat} {A : Option Addr} {us : List Wr} (h : WrsAt w B A us) (hm : Moves F w w') (hF : ∀ k, F k → QBlk w k) : WrsAt w' B A us := by
  refine WrsAt.of_lies (h.lies.moves hm fun b off hA hn hFb => ?_)
  exact h.off (hF b hFb) hA (fun e => hn (by rw [e]; rfl)) rfl
theorem SetsAt.turned {F : Nat → Prop} {w w' : World} {B : Nat} {A : Option Addr} {l : List SetV} (h : SetsAt w B A l) (hm : Moves F w w') (hF : ∀ k, F k → QBlk w k) : SetsAt w' B A l := by
  refine ⟨h.1.moves hm fun b off hA hn hFb => ?_, fun x hx => ⟨(h.2 x hx).1.turned hm hF, (h.2 x hx).2⟩⟩
  have hne : 0 < l.length := by cases l with
    | nil => exact absurd rfl hn
    | cons x l => simp
  obtain ⟨b', off', hA', _, g0, g1, g2, _⟩ := h.at_ (Below.refl _ _) hne
  rw [hA] at hA'; cases hA'
  simp only [Nat.zero_mul, Nat.add_zero] at g0 g1 g2
  exact (hF b hFb).not3 g0 g1 g2
theorem QuAt.turned {F : Nat → Prop} {w w' : World} {B : Nat} {q : QuV} (h : QuAt w B q) (hm : Moves F w w') (hF : ∀ k, F k → QBlk w k) : QuAt w' B q := ⟨h.1.turned hm hF, h.2.turned hm hF, h.3, h.4⟩
theorem QBlk.of {w : World} {H : Nat} {A : Option Addr} {n c : Nat} {A2 : Option Addr} {n2 c2 : Nat} {f t : Int} {ty : TypeId} (h : w.heap[H]? = some (.cells #[.slice A n c, .slice A2 n2 c2, .int .i64 f, .int .i64 t] ty (0, 0))) : QBlk w H := ⟨A, n, c, A2, n2, c2, f, t, ty, h⟩

/-- A block, in all later worlds. -/
theorem LatW.blk {V : World} (z : LatW V) {H : Nat} {o : Obj} (h : V.heap[H]? = some o) : z.wd.heap[H]? = some o := (z.bel.block H (Array.getElem?_eq_some_iff.1 h).1).trans h
/-- The four cells of a block, and that they may be written. -/
structure Four (w : World) (H : Nat) (a b c d : Value) (ty : TypeId) : Prop where
  blk : w.heap[H]? = some (.cells #[a, b, c, d] ty (0, 0))
theorem Four.c0 {w : World} {H : Nat} {a b c d : Value} {ty : TypeId} (h : Four w H a b c d ty) : w.cell? ⟨H, 0, none⟩ = some a := by rw [Lib.cell_of_heap h.blk]; rfl
theorem Four.c1 {w : World} {H : Nat} {a b c d : Value} {ty : TypeId} (h : Four w H a b c d ty) : w.cell? ⟨H, 1, none⟩ = some b := by rw [Lib.cell_of_heap h.blk]; rfl
theorem Four.c2 {w : World} {H : Nat} {a b c d : Value} {ty : TypeId} (h : Four w H a b c d ty) : w.cell? ⟨H, 2, none⟩ = some c := by rw [Lib.cell_of_heap h.blk]; rfl
theorem Four.c3 {w : World} {H : Nat} {a b c d : Value} {ty : TypeId} (h : Four w H a b c d ty) : w.cell? ⟨H, 3, none⟩ = some d := by rw [Lib.cell_of_heap h.blk]; rfl
theorem Four.fr {w : World} {H : Nat} {a b c d : Value} {ty : TypeId} (h : Four w H a b c d ty) (j : Nat) : w.frozen? ⟨H, j, none⟩ = false := Lib.frozen_of_heap h.blk j
theorem Four.set {w : World} {H : Nat} {a b c d : Value} {ty : TypeId} (h : Four w H a b c d ty) (a' b' c' d' : Value) : Four ((((w.setCell ⟨H, 0, none⟩ a').setCell ⟨H, 1, none⟩ b').setCell ⟨H, 2, none⟩ c').setCell ⟨H, 3, none⟩ d') H a' b' c' d' ty := ⟨row_set (row_set (row_set (row_set h.blk 0 _) 1 _) 2 _) 3 _⟩
theorem Four.set1 {w : World} {H : Nat} {a b c d : Value} {ty : TypeId} (h : Four w H a b c d ty) (b' : Value) : Four (w.setCell ⟨H, 1, none⟩ b') H a b' c d ty := ⟨row_set h.blk 1 _⟩
theorem Four.set0 {w : World} {H : Nat} {a b c d : Value} {ty : TypeId} (h : Four w H a b c d ty) (b' : Value) : Four (w.setCell ⟨H, 0, none⟩ b') H b' b c d ty := ⟨row_set h.blk 0 _⟩
theorem Four.set2 {w : World} {H : Nat} {a b c d : Value} {ty : TypeId} (h : Four w H a b c d ty) (b' : Value) : Four (w.setCell ⟨H, 2, none⟩ b') H a b b' d ty := ⟨row_set h.blk 2 _⟩
theorem Four.set3 {w : World} {H : Nat} {a b c d : Value} {ty : TypeId} (h : Four w H a b c d ty) (b' : Value) : Four (w.setCell ⟨H, 3, none⟩ b') H a b c b' ty := ⟨row_set h.blk 3 _⟩
theorem Four.far {w : World} {H : Nat} {a b c d : Value} {ty : TypeId} (h : Four w H a b c d ty) {p : Addr} (hp : H ≠ p.block) (v : Value) : Four (w.setCell p v) H a b c d ty := ⟨(Below.heap_setCell _ _ _ _ hp).trans h.blk⟩
theorem Four.lat {V : World} {H : Nat} {a b c d : Value} {ty : TypeId} (h : Four V H a b c d ty) (z : LatW V) : Four z.wd H a b c d ty := ⟨z.blk h.blk⟩
theorem Four.new (w : World) (a b c d : Value) (ty : TypeId) : Four (w.alloc (.cells #[a, b, c, d] ty (0, 0))) w.heap.size a b c d ty := ⟨heap_new _ _⟩
theorem Moves.four {F : Nat → Prop} {a w : World} (h : Moves F a w) {H : Nat} (hp : F H) (v0 v1 v2 v3 : Value) : Moves F a ((((w.setCell ⟨H, 0, none⟩ v0).setCell ⟨H, 1, none⟩ v1).setCell ⟨H, 2, none⟩ v2).setCell ⟨H, 3, none⟩ v3) :=
  (((h.setCell (p := ⟨H, 0, none⟩) hp _).setCell (p := ⟨H, 1, none⟩) hp _).setCell (p := ⟨H, 2, none⟩) hp _).setCell (p := ⟨H, 3, none⟩) hp _
theorem Below.four {w w' : World} (h : Below w.heap.size w w') {H : Nat} (hp : w.heap.size ≤ H) (v0 v1 v2 v3 : Value) : Below w.heap.size w ((((w'.setCell ⟨H, 0, none⟩ v0).setCell ⟨H, 1, none⟩ v1).setCell ⟨H, 2, none⟩ v2).setCell ⟨H, 3, none⟩ v3) :=
  (((h.setCell (p := ⟨H, 0, none⟩) hp _).setCell (p := ⟨H, 1, none⟩) hp _).setCell (p := ⟨H, 2, none⟩) hp _).setCell (p := ⟨H, 3, none⟩) hp _

noncomputable def newE (n : Int) : Int := if okN n = true then 0 else 1
noncomputable def newQ (n : Int) : Qu := if okN n = true then quNew n else quNone
set_option maxRecDepth 100000 in
theorem QNew_any (n : Int) (w : World) : Calls Try.prog 14 #[.int .i64 n] w (QuErr (newQ n) (newE n) w) := by
  cases g1 : decide (n < 0) with
  | true =>
    rw [show newQ n = quNone from by unfold newQ; rw [if_neg (by rw [okN_iff]; have := of_decide_eq_true g1; omega)], show newE n = 1 from by unfold newE; rw [if_neg (by rw [okN_iff]; have := of_decide_eq_true g1; omega)]]
    go_enter Try.func14, Try.ntmps14
    go_wp2_with fail
    exact bodyPost_ret (v := .tuple #[.agg #[.slice none 0 0, .slice none 0 0, .int .i64 0, .int .i64 0], .int .i64 1]) (by simp [results, Try.results14, go_sem]) rfl (QuErr.none_ _ (below_one _ _))
  | false =>
  cases g2 : decide ((1099511627776 : Int) < n) with
  | true =>
    rw [show newQ n = quNone from by unfold newQ; rw [if_neg (by rw [okN_iff]; have := of_decide_eq_true g2; omega)], show newE n = 1 from by unfold newE; rw [if_neg (by rw [okN_iff]; have := of_decide_eq_true g2; omega)]]
    go_enter Try.func14, Try.ntmps14
    go_wp2_with fail
    exact bodyPost_ret (v := .tuple #[.agg #[.slice none 0 0, .slice none 0 0, .int .i64 0, .int .i64 0], .int .i64 1]) (by simp [results, Try.results14, go_sem]) rfl (QuErr.none_ _ (below_one _ _))
  | false =>
    have hok : okN n = true := by rw [okN_iff]; have := of_decide_eq_false g1; have := of_decide_eq_false g2; omega
    rw [show newQ n = quNew n from by unfold newQ; rw [if_pos hok], show newE n = 0 from by unfold newE; rw [if_pos hok]]
    clear hok
    go_enter Try.func14, Try.ntmps14
    go_wp2_with fail
    exact bodyPost_ret (v := .tuple #[.agg #[.slice none 0 0, .slice none 0 0, .int .i64 n, .int .i64 n], .int .i64 0]) (by simp [results, Try.results14, go_sem]) rfl ⟨⟨none, 0, [], none, 0, [], n, n⟩, rfl, rfl, ⟨SetsAt.nil _ _ _, .inl rfl, fun _ => rfl, fun _ => rfl⟩, below_one _ _⟩
end Go.Proofs.Ythajgoigmkkbgaa

namespace Go.Proofs.Ythajgoigmkkbgaa
open Go.Shelf Go.RowKit Go.Lib Go.Sort

noncomputable def qaddE (q : Qu) : Int := if quRight q = true ∧ q.to_ ≠ 1099511627776 then 0 else 1
noncomputable def qaddQ (q : Qu) (ws : List Wr) : Qu := if quRight q = true ∧ q.to_ ≠ 1099511627776 then quAdd q ws else quNone
theorem qadd_no {q : Qu} (h : ¬ (quRight q = true ∧ q.to_ ≠ 1099511627776)) (ws : List Wr) : qaddE q = 1 ∧ qaddQ q ws = quNone := ⟨by unfold qaddE; rw [if_neg h], by unfold qaddQ; rw [if_neg h]⟩
theorem qadd_yes {q : Qu} (h : quRight q = true) (h2 : q.to_ ≠ 1099511627776) (ws : List Wr) : qaddE q = 0 ∧ qaddQ q ws = quAdd q ws := ⟨by unfold qaddE; rw [if_pos ⟨h, h2⟩], by unfold qaddQ; rw [if_pos ⟨h, h2⟩]⟩
/-- How great a queue may be that is gone through. -/
structure QuFine (q : QuV) : Prop where
  sets : q.sets.length ≤ 9223372036854775807
  each : ∀ x ∈ q.sets, x.ws.length ≤ 4000
  opn : q.opn.length ≤ 4000
theorem QuErr.mk_ {q : QuV} {u : Qu} {n : Int} {w w' : World} (h : QuAt w' w'.heap.size q) (hu : q.qu = u) (hb : Below w.heap.size w w') : QuErr u n w (.returned (.tuple #[q.val, .int .i64 n])) w' := ⟨q, hu, rfl, h, hb⟩

set_option maxHeartbeats 4000000 in
set_option maxRecDepth 100000 in
theorem QAdd_any {w : World} {q : QuV} {A3 : Option Addr} {c3 : Nat} {xs : List Wr} (h : QuAt w w.heap.size q) (hf : QuFine q) (h3 : WrsAt w w.heap.size A3 xs) (ho : q.opn.length ≤ 400) (hx : xs.length ≤ 400 ∧ (A3 = none → c3 = 0)) :
    Calls Try.prog 15 #[q.val, .slice A3 xs.length c3] w (QuErr (qaddQ q.qu xs) (qaddE q.qu) w) := by
  have HN := Lib.hid (@qadd_no q.qu)
  have HY := Lib.hid (@qadd_yes q.qu)
  have HT : Hid (quRight q.qu = true → 0 ≤ q.to_ ∧ q.to_ ≤ 1099511627776) := Lib.hid (fun e => (okN_iff _).1 ((quRight_iff _).1 e).2.2.2.1)
  obtain ⟨A, c, l, A2, c2, ws, f, t⟩ := q
  show Calls _ _ #[.agg #[.slice A l.length c, .slice A2 ws.length c2, .int .i64 f, .int .i64 t], .slice A3 xs.length c3] w _
  obtain ⟨V, hV⟩ : ∃ V, V = (w.alloc (.cells #[.slice A l.length c, .slice A2 ws.length c2, .int .i64 f, .int .i64 t] 27 (0, 0))).alloc (.cells #[.slice none 0 0, .slice none 0 0, .int .i64 0, .int .i64 0] 27 (0, 0)) := ⟨_, rfl⟩
  have HBV : Hid (Below w.heap.size w V) := Lib.hid (by rw [hV]; exact (below_one _ _).trans ((below_one _ _).mono (by simp)))
  have HF0 : Hid (Four V w.heap.size (.slice A l.length c) (.slice A2 ws.length c2) (.int .i64 f) (.int .i64 t) 27) := Lib.hid (by
    rw [hV]; exact ⟨by rw [(below_one _ _).block _ (by simp)]; exact heap_new _ _⟩)
  have HF1 : Hid (Four V (w.heap.size + 1) (.slice none 0 0) (.slice none 0 0) (.int .i64 0) (.int .i64 0) 27) := Lib.hid (by
    rw [hV]; have := Four.new (w.alloc (.cells #[.slice A l.length c, .slice A2 ws.length c2, .int .i64 f, .int .i64 t] 27 (0, 0))) (.slice none 0 0) (.slice none 0 0) (.int .i64 0) (.int .i64 0) 27
    simpa using this)
  have HV := Lib.hid hV
  have HR : Hid (LatCalls Try.prog V 19 #[.agg #[.slice A l.length c, .slice A2 ws.length c2, .int .i64 f, .int .i64 t]] (.bool (quRight (QuV.qu ⟨A, c, l, A2, c2, ws, f, t⟩)))) := Lib.hid (LatCalls.of fun z => QRight_any (h.lat HBV.out z) hf.sets hf.each hf.opn)
  have HM := Lib.hid (fun z : LatW V => Merge_any (h.lat HBV.out z).opn ((h3.next HBV.out).next z.bel) ⟨ho, (h.lat HBV.out z).nil2⟩ hx)
  have HQ := Lib.hid (fun z : LatW V => h.lat HBV.out z)
  have HEnd : Hid (∀ (z : LatW V) (A5 : Option Addr) (c5 : Nat) (w' : World), WrsAt z.wd z.wd.heap.size A5 (foldW (ws ++ xs)) → (A5 = none → c5 = 0) → Moves (fun k => k = w.heap.size ∨ k = w.heap.size + 1) z.wd w' → QuErr (quAdd (QuV.qu ⟨A, c, l, A2, c2, ws, f, t⟩) xs) 0 w (.returned (.tuple #[.agg #[.slice A l.length c, .slice A5 (foldW (ws ++ xs)).length c5, .int .i64 f, .int .i64 (t + 1)], .int .i64 0])) w') := Lib.hid (fun z A5 c5 w' h5 n5 hm => by
    have hq : QuAt z.wd z.wd.heap.size ⟨A, c, l, A5, c5, foldW (ws ++ xs), f, t + 1⟩ := ⟨(h.lat HBV.out z).sets, h5, (h.lat HBV.out z).nil, n5⟩
    have hq2 := (hq.turned hm (by rintro k (rfl | rfl); exact QBlk.of (HF0.out.lat z).blk; exact QBlk.of (HF1.out.lat z).blk)).more hm.size
    refine QuErr.mk_ hq2 rfl ?_
    have hz := lat_end HBV.out z
    exact hz.trans (hm.below hz.size (by rintro k (rfl | rfl) <;> omega)))
  clear hV h h3 hf
  change Hid (quRight (QuV.qu ⟨A, c, l, A2, c2, ws, f, t⟩) = true → 0 ≤ t ∧ t ≤ 1099511627776) at HT
  change Hid (¬ (quRight (QuV.qu ⟨A, c, l, A2, c2, ws, f, t⟩) = true ∧ t ≠ 1099511627776) → ∀ xs, _) at HN
  change Hid (quRight (QuV.qu ⟨A, c, l, A2, c2, ws, f, t⟩) = true → t ≠ 1099511627776 → ∀ xs, _) at HY
  generalize QuV.qu ⟨A, c, l, A2, c2, ws, f, t⟩ = U at HN HY HT HR HEnd ⊢
  generalize foldW (ws ++ xs) = us at HEnd HM
  generalize l.length = n at HF0 HR HEnd HV ⊢
  generalize ws.length = m at HF0 HR HM HV ⊢
  generalize xs.length = m3 at HM ⊢
  cases ok : quRight U with
  | false =>
    rw [ok] at HR
    rw [(HN.out (fun e => by rw [ok] at e; cases e.1) xs).1, (HN.out (fun e => by rw [ok] at e; cases e.1) xs).2]
    go_enter Try.func15, Try.ntmps15
    go_wp2_with fail
    rw [← HV.out]
    have x0 := fun z : LatW V => (HF0.out.lat z).c0
    have x1 := fun z : LatW V => (HF0.out.lat z).c1
    have x2 := fun z : LatW V => (HF0.out.lat z).c2
    have x3 := fun z : LatW V => (HF0.out.lat z).c3
    have xf := fun z : LatW V => (HF0.out.lat z).fr
    have y0 := fun z : LatW V => (HF1.out.lat z).c0
    have y1 := fun z : LatW V => (HF1.out.lat z).c1
    have y2 := fun z : LatW V => (HF1.out.lat z).c2
    have y3 := fun z : LatW V => (HF1.out.lat z).c3
    have yf := fun z : LatW V => (HF1.out.lat z).fr
    obtain ⟨z0, hz0⟩ := LatW.start V
    rw [← hz0]
    clear hz0
    go_wp2_with (first | (go_at_call 19; refine (HR.out.at_ _).mono ?_; rintro e w9 ⟨rfl, z9, rfl⟩))
    have HR1 := Lib.hid ((HF1.out.lat z9).set (.slice none 0 0) (.slice none 0 0) (.int .i64 0) (.int .i64 0))
    have HBl := Lib.hid (Below.four (lat_end HBV.out z9) (H := w.heap.size + 1) (by omega) (.slice none 0 0) (.slice none 0 0) (.int .i64 0) (.int .i64 0))
    generalize ((((z9.wd.setCell ⟨w.heap.size + 1, 0, none⟩ (.slice none 0 0)).setCell ⟨w.heap.size + 1, 1, none⟩ (.slice none 0 0)).setCell ⟨w.heap.size + 1, 2, none⟩ (.int .i64 0)).setCell ⟨w.heap.size + 1, 3, none⟩ (.int .i64 0)) = W3 at HR1 HBl ⊢
    have r0 := HR1.out.c0
    have r1 := HR1.out.c1
    have r2 := HR1.out.c2
    have r3 := HR1.out.c3
    exact bodyPost_ret (v := .tuple #[.agg #[.slice none 0 0, .slice none 0 0, .int .i64 0, .int .i64 0], .int .i64 1]) (by simp [results, Try.results15, go_sem, r0, r1, r2, r3]) rfl (QuErr.none_ _ HBl.out)
  | true =>
  rw [ok] at HR
  cases g1 : (t == 1099511627776) with
  | true =>
    have h9 : t = 1099511627776 := by simpa using g1
    rw [(HN.out (fun e => e.2 h9) xs).1, (HN.out (fun e => e.2 h9) xs).2]
    clear h9
    go_enter Try.func15, Try.ntmps15
    go_wp2_with fail
    rw [← HV.out]
    have x0 := fun z : LatW V => (HF0.out.lat z).c0
    have x1 := fun z : LatW V => (HF0.out.lat z).c1
    have x2 := fun z : LatW V => (HF0.out.lat z).c2
    have x3 := fun z : LatW V => (HF0.out.lat z).c3
    have xf := fun z : LatW V => (HF0.out.lat z).fr
    have y0 := fun z : LatW V => (HF1.out.lat z).c0
    have y1 := fun z : LatW V => (HF1.out.lat z).c1
    have y2 := fun z : LatW V => (HF1.out.lat z).c2
    have y3 := fun z : LatW V => (HF1.out.lat z).c3
    have yf := fun z : LatW V => (HF1.out.lat z).fr
    obtain ⟨z0, hz0⟩ := LatW.start V
    rw [← hz0]
    clear hz0
    go_wp2_with (first | (go_at_call 19; refine (HR.out.at_ _).mono ?_; rintro e w9 ⟨rfl, z9, rfl⟩))
    have HR1 := Lib.hid ((HF1.out.lat z9).set (.slice none 0 0) (.slice none 0 0) (.int .i64 0) (.int .i64 0))
    have HBl := Lib.hid (Below.four (lat_end HBV.out z9) (H := w.heap.size + 1) (by omega) (.slice none 0 0) (.slice none 0 0) (.int .i64 0) (.int .i64 0))
    generalize ((((z9.wd.setCell ⟨w.heap.size + 1, 0, none⟩ (.slice none 0 0)).setCell ⟨w.heap.size + 1, 1, none⟩ (.slice none 0 0)).setCell ⟨w.heap.size + 1, 2, none⟩ (.int .i64 0)).setCell ⟨w.heap.size + 1, 3, none⟩ (.int .i64 0)) = W3 at HR1 HBl ⊢
    have r0 := HR1.out.c0
    have r1 := HR1.out.c1
    have r2 := HR1.out.c2
    have r3 := HR1.out.c3
    exact bodyPost_ret (v := .tuple #[.agg #[.slice none 0 0, .slice none 0 0, .int .i64 0, .int .i64 0], .int .i64 1]) (by simp [results, Try.results15, go_sem, r0, r1, r2, r3]) rfl (QuErr.none_ _ HBl.out)
  | false =>
    have h9 : t ≠ 1099511627776 := by simpa using g1
    rw [(HY.out ok h9 xs).1, (HY.out ok h9 xs).2]
    have hw : IntKind.i64.wrap (t + 1) = t + 1 := by
      have h1 := HT.out ok
      rw [IntKind.wrap_i64]; omega
    have HW := Lib.hid hw
    clear h9 hw
    have hne : w.heap.size + 1 ≠ w.heap.size := by omega
    have hne2 : w.heap.size ≠ w.heap.size + 1 := by omega
    go_enter Try.func15, Try.ntmps15
    go_wp2_with fail
    rw [← HV.out]
    have x0 := fun z : LatW V => (HF0.out.lat z).c0
    have x1 := fun z : LatW V => (HF0.out.lat z).c1
    have x2 := fun z : LatW V => (HF0.out.lat z).c2
    have x3 := fun z : LatW V => (HF0.out.lat z).c3
    have xf := fun z : LatW V => (HF0.out.lat z).fr
    have y0 := fun z : LatW V => (HF1.out.lat z).c0
    have y1 := fun z : LatW V => (HF1.out.lat z).c1
    have y2 := fun z : LatW V => (HF1.out.lat z).c2
    have y3 := fun z : LatW V => (HF1.out.lat z).c3
    have yf := fun z : LatW V => (HF1.out.lat z).fr
    obtain ⟨z0, hz0⟩ := LatW.start V
    rw [← hz0]
    clear hz0
    have hw := HW.out
    go_wp2_with (first | (go_at_call 19; refine (HR.out.at_ _).mono ?_; rintro e w9 ⟨rfl, z9, rfl⟩) | (go_at_call 36; refine (HM.out _).mono ?_; rintro e w9 ⟨A5, c5, rfl, h5, n5, hb5⟩; replace h5 := Lib.hid h5; replace n5 := Lib.hid n5; obtain ⟨z5, hz5⟩ := z9.later hb5; subst hz5; clear hb5))
    have HR1 := Lib.hid ((((HF1.out.lat z5).far (p := ⟨w.heap.size, 1, none⟩) hne (.slice A5 us.length c5)).far (p := ⟨w.heap.size, 3, none⟩) hne (.int .i64 (t + 1))).set (.slice A n c) (.slice A5 us.length c5) (.int .i64 f) (.int .i64 (t + 1)))
    have HMv := Lib.hid ((((Moves.refl (fun k => k = w.heap.size ∨ k = w.heap.size + 1) z5.wd).setCell (p := ⟨w.heap.size, 1, none⟩) (Or.inl rfl) (.slice A5 us.length c5)).setCell (p := ⟨w.heap.size, 3, none⟩) (Or.inl rfl) (.int .i64 (t + 1))).four (H := w.heap.size + 1) (Or.inr rfl) (.slice A n c) (.slice A5 us.length c5) (.int .i64 f) (.int .i64 (t + 1)))
    have HEE := Lib.hid (HEnd.out z5 A5 c5 _ h5.out n5.out HMv.out)
    generalize ((((((z5.wd.setCell ⟨w.heap.size, 1, none⟩ (.slice A5 us.length c5)).setCell ⟨w.heap.size, 3, none⟩ (.int .i64 (t + 1))).setCell ⟨w.heap.size + 1, 0, none⟩ (.slice A n c)).setCell ⟨w.heap.size + 1, 1, none⟩ (.slice A5 us.length c5)).setCell ⟨w.heap.size + 1, 2, none⟩ (.int .i64 f)).setCell ⟨w.heap.size + 1, 3, none⟩ (.int .i64 (t + 1))) = W3 at HR1 HMv HEE ⊢
    have r0 := HR1.out.c0
    have r1 := HR1.out.c1
    have r2 := HR1.out.c2
    have r3 := HR1.out.c3
    exact bodyPost_ret (v := .tuple #[.agg #[.slice A n c, .slice A5 us.length c5, .int .i64 f, .int .i64 (t + 1)], .int .i64 0]) (by simp [results, Try.results15, go_sem, r0, r1, r2, r3]) rfl HEE.out
end Go.Proofs.Ythajgoigmkkbgaa
