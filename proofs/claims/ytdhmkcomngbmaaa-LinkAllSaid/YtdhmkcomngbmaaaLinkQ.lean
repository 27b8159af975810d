/- A line in memory: the block of its two ends, the rows of what is under way, of what was put and of what has come: how each act leaves them. The contract of (*ends).gone: a packet is taken off. The contract of (*ends).puts: an end puts a piece. -/
import Derived.Test.YtdhmkcomngbmaaaLinkG
import Derived.Test.YtdhmkcomngbmaaaLinkU
import Derived.Test.YtdhmkcomngbmaaaLinkK
namespace Go.Proofs.Ytdhmkcomngbmaaa
open Go.RowKit

def pkCells (ps : List Pk) : List Value := ps.flatMap (fun p => [.int .i64 (p.to_ : Int), .string (str p.s), .bool p.bad])
theorem pkCells_length (ps : List Pk) : (pkCells ps).length = ps.length * 3 := by
  unfold pkCells
  induction ps with
  | nil => rfl
  | cons p ps ih => rw [List.flatMap_cons, List.length_append, ih]; simp; omega
theorem pkCells_append (ps qs : List Pk) : pkCells (ps ++ qs) = pkCells ps ++ pkCells qs := by unfold pkCells; rw [List.flatMap_append]
theorem pkCells_one (ps : List Pk) : ∀ u ∈ pkCells ps, u.oneCell' = true := by
  intro u hu
  unfold pkCells at hu
  obtain ⟨p, _, hp⟩ := List.mem_flatMap.1 hu
  simp only [List.mem_cons, List.not_mem_nil, or_false] at hp
  rcases hp with rfl | rfl | rfl <;> rfl
theorem pkCells_at {ps : List Pk} {k : Nat} (h : k < ps.length) : (pkCells ps)[k * 3]? = some (.int .i64 (ps[k].to_ : Int)) ∧ (pkCells ps)[k * 3 + 1]? = some (.string (str ps[k].s)) ∧ (pkCells ps)[k * 3 + 2]? = some (.bool ps[k].bad) := by
  have e : ps = ps.take k ++ (ps[k] :: ps.drop (k + 1)) := by rw [← List.drop_eq_getElem_cons h, List.take_append_drop]
  have hl : (pkCells (ps.take k)).length = k * 3 := by rw [pkCells_length, List.length_take]; omega
  have e2 : pkCells ps = pkCells (ps.take k) ++ ([.int .i64 (ps[k].to_ : Int), .string (str ps[k].s), .bool ps[k].bad] ++ pkCells (ps.drop (k + 1))) := by
    conv => lhs; rw [e]
    rw [pkCells_append]
    rfl
  rw [e2]
  refine ⟨?_, ?_, ?_⟩ <;> (rw [List.getElem?_append_right (by omega), hl]; simp)

/-- Where a line's rows lie: 0: what is under way; 1, 2: what was put; 3, 4: what has come. -/
structure LnM where
  A : Nat → Option Addr
  c : Nat → Nat
  v : Nat → Value
def lnCells (l : Line) (m : LnM) : Array Value :=
  #[.int .i64 (l.st 0).x.ep, .int .i64 (l.st 0).x.ot, .int .i64 (l.st 0).x.fi, .slice (m.A 0) (l.st 0).x.out.length (m.c 0), .int .i64 (l.st 0).x.wa,
    .int .i64 (l.st 1).x.ep, .int .i64 (l.st 1).x.ot, .int .i64 (l.st 1).x.fi, .slice (m.A 1) (l.st 1).x.out.length (m.c 1), .int .i64 (l.st 1).x.wa,
    m.v 0, m.v 1, m.v 2, m.v 3, m.v 4]
structure LnAt (B H : Nat) (w : World) (l : Line) (m : LnM) : Prop where
  blk : w.heap[H]? = some (.cells (lnCells l m) 61 (0, 0))
  lo : H < B
  net : w.ownsRow B 65 3 (m.v 0) l.net.length (pkCells l.net)
  put : ∀ i, i < 2 → w.ownsRow B 9 1 (m.v (1 + i)) (l.st i).put.length ((l.st i).put.map txt)
  came : ∀ i, i < 2 → w.ownsRow B 9 1 (m.v (3 + i)) (l.st i).came.length ((l.st i).came.map txt)
  out : ∀ i, i < 2 → Strs w w.heap.size (m.A i) (l.st i).x.out ∧ (m.A i = none → m.c i = 0) ∧ (l.st i).x.out.length ≤ m.c i
  ins : ∀ i, i < 2 → ∀ a, m.A i = some a → a.block < w.heap.size
  dj : ∀ i j, i < 5 → j < 5 → i ≠ j → ∀ g, (m.v i).ownBlock = some g → (m.v j).ownBlock ≠ some g
  off : ∀ i j, i < 5 → j < 2 → ∀ g a, (m.v i).ownBlock = some g → m.A j = some a → a.block ≠ g
section
variable {B H : Nat} {w w' : World} {l l' : Line} {m : LnM}
theorem LnAt.lt (h : LnAt B H w l m) : H < w.heap.size := heap_lt h.blk
theorem LnAt.later (h : LnAt B H w l m) (hb : Below w.heap.size w w') : LnAt B H w' l m :=
  ⟨(hb.block H h.lt).trans h.blk, h.lo, own_kept h.net hb, fun i hi => own_kept (h.put i hi) hb, fun i hi => own_kept (h.came i hi) hb, fun i hi => ⟨(h.out i hi).1.next hb, (h.out i hi).2⟩, fun i hi a ha => Nat.lt_of_lt_of_le (h.ins i hi a ha) hb.size, h.dj, h.off⟩
theorem LnAt.row_lt (h : LnAt B H w l m) {k g : Nat} (hk : k < 5) (hg : (m.v k).ownBlock = some g) : B ≤ g ∧ g < w.heap.size := by
  match k, hk with
  | 0, _ => exact h.net.lt g hg
  | 1, _ => exact (h.put 0 (by omega)).lt g hg
  | 2, _ => exact (h.put 1 (by omega)).lt g hg
  | 3, _ => exact (h.came 0 (by omega)).lt g hg
  | 4, _ => exact (h.came 1 (by omega)).lt g hg
theorem LnAt.cell (h : LnAt B H w l m) (j : Nat) : w.cell? ⟨H, j, none⟩ = (lnCells l m)[j]? := Lib.cell_of_heap h.blk j
theorem LnAt.fr (h : LnAt B H w l m) (j : Nat) : w.frozen? ⟨H, j, none⟩ = false := Lib.frozen_of_heap h.blk j

/-- The pieces stay where only one row grows, which isn't theirs. -/
theorem Strs.grown {w w' : World} {Bx : Nat} {A : Option Addr} {xs : List (List UInt8)} {row : Option Nat} (h : Strs w Bx A xs) (hg : w.grownBy w' row) (hn : ∀ g a, row = some g → A = some a → a.block ≠ g) : Strs w' Bx A xs := by
  rcases h with h | ⟨b, off, hA, hlt, hc⟩
  · exact .inl h
  · by_cases hx : xs = []
    · exact .inl hx
    · refine .inr ⟨b, off, hA, hlt, fun i hi => ?_⟩
      have hbw : b < w.heap.size := World.block_lt_of_cell? w _ (hc i hi)
      have e := hg.block b hbw (fun e => hn b _ e.symm hA rfl)
      rw [World.cell?_of_block (w := w) (a := ⟨b, off + i, none⟩) e]
      exact hc i hi
/-- .. where a cell of the line's block is turned. -/
theorem Strs.setH {w : World} {Bx : Nat} {A : Option Addr} {xs : List (List UInt8)} {H j : Nat} (h : Strs w Bx A xs) {cs : Array Value} {ty : TypeId} (hb : w.heap[H]? = some (.cells cs ty (0, 0))) (hcs : ∀ (i : Nat) (s : ByteArray), cs[i]? ≠ some (Value.string s)) (v : Value) : Strs (w.setCell ⟨H, j, none⟩ v) Bx A xs := by
  rcases h with h | ⟨b, off, hA, hlt, hc⟩
  · exact .inl h
  · by_cases hx : xs = []
    · exact .inl hx
    · refine .inr ⟨b, off, hA, hlt, fun i hi => ?_⟩
      have hne : b ≠ H := by
        intro e
        subst e
        have h0 := hc i hi
        rw [Lib.cell_of_heap hb] at h0
        exact hcs _ _ h0
      rw [World.cell?_of_block (w := w) (a := ⟨b, off + i, none⟩) (Below.heap_setCell w ⟨H, j, none⟩ v b hne)]
      exact hc i hi
theorem own_notstr {w : World} {B : Nat} {e : TypeId} {size n : Nat} {v : Value} {xs : List Value} (h : w.ownsRow B e size v n xs) (s : ByteArray) : v ≠ .string s := by
  rcases h.2 with ⟨rfl, _⟩ | ⟨g, cap, cur, rfl, _⟩ <;> (intro e; cases e)
theorem LnAt.nostr (h : LnAt B H w l m) (i : Nat) (s : ByteArray) : (lnCells l m)[i]? ≠ some (.string s) := by
  intro e
  have n0 := own_notstr h.net s
  have n1 := own_notstr (h.put 0 (by omega)) s
  have n2 := own_notstr (h.put 1 (by omega)) s
  have n3 := own_notstr (h.came 0 (by omega)) s
  have n4 := own_notstr (h.came 1 (by omega)) s
  unfold lnCells at e
  rcases (show i = 0 ∨ i = 1 ∨ i = 2 ∨ i = 3 ∨ i = 4 ∨ i = 5 ∨ i = 6 ∨ i = 7 ∨ i = 8 ∨ i = 9 ∨ i = 10 ∨ i = 11 ∨ i = 12 ∨ i = 13 ∨ i = 14 ∨ 15 ≤ i by omega) with rfl | rfl | rfl | rfl | rfl | rfl | rfl | rfl | rfl | rfl | rfl | rfl | rfl | rfl | rfl | hi
  all_goals first
    | (simp only [List.getElem?_toArray, List.getElem?_cons_zero, List.getElem?_cons_succ, Option.some.injEq] at e; first | (cases e; done) | exact n0 e | exact n1 e | exact n2 e | exact n3 e | exact n4 e)
    | (rw [Array.getElem?_eq_none (by simpa using hi)] at e; cases e)
def updV (f : Nat → Value) (k : Nat) (u : Value) : Nat → Value := fun j => if j = k then u else f j
theorem updV_at (f : Nat → Value) (k : Nat) (u : Value) : updV f k u k = u := if_pos rfl
theorem updV_far (f : Nat → Value) {k j : Nat} (u : Value) (h : j ≠ k) : updV f k u j = f j := if_neg h
theorem lnCells_row (hx : ∀ i, i < 2 → (l'.st i).x = (l.st i).x) {k : Nat} (hk : k < 5) (u : Value) : (lnCells l m).setIfInBounds (10 + k) u = lnCells l' { m with v := updV m.v k u } := by
  unfold lnCells
  rw [hx 0 (by omega), hx 1 (by omega)]
  match k, hk with
  | 0, _ => rfl
  | 1, _ => rfl
  | 2, _ => rfl
  | 3, _ => rfl
  | 4, _ => rfl

/-- A row of the line grew, in place or into a new block: its cell is written. -/
theorem LnAt.grow (h : LnAt B H w l m) {k : Nat} {u : Value} (hk : k < 5) (hg : w.grownBy w' (m.v k).ownBlock) (hgb : ∀ g, u.ownBlock = some g → (m.v k).ownBlock = some g ∨ w.heap.size ≤ g)
    (hx : ∀ i, i < 2 → (l'.st i).x = (l.st i).x) (hnet : k ≠ 0 → l'.net = l.net) (hput : ∀ i, i < 2 → k ≠ 1 + i → (l'.st i).put = (l.st i).put) (hcame : ∀ i, i < 2 → k ≠ 3 + i → (l'.st i).came = (l.st i).came)
    (hn : k = 0 → w'.ownsRow B 65 3 u l'.net.length (pkCells l'.net))
    (hp : ∀ i, i < 2 → k = 1 + i → w'.ownsRow B 9 1 u (l'.st i).put.length ((l'.st i).put.map txt))
    (hc : ∀ i, i < 2 → k = 3 + i → w'.ownsRow B 9 1 u (l'.st i).came.length ((l'.st i).came.map txt)) :
    LnAt B H (w'.setCell ⟨H, 10 + k, none⟩ u) l' { m with v := updV m.v k u } := by
  have hHr : (some H : Option Nat) ≠ (m.v k).ownBlock := fun e => by have := h.row_lt hk e.symm; have := h.lo; omega
  have hb' : w'.heap[H]? = some (.cells (lnCells l m) 61 (0, 0)) := (hg.block H h.lt hHr).trans h.blk
  have hkeep : ∀ {e : TypeId} {size n' : Nat} {xs : List Value} (j : Nat), j < 5 → j ≠ k → w.ownsRow B e size (m.v j) n' xs → (w'.setCell ⟨H, 10 + k, none⟩ u).ownsRow B e size (m.v j) n' xs := fun j hj hjk ho => own_far15 (ho.kept hg (by
      cases hv : (m.v j).ownBlock with
      | none => exact .inl rfl
      | some q => right; intro e; exact h.dj j k hj hk hjk q hv e.symm)) h.lo _ _
  have hself : ∀ {e : TypeId} {size n' : Nat} {xs : List Value}, w'.ownsRow B e size u n' xs → (w'.setCell ⟨H, 10 + k, none⟩ u).ownsRow B e size u n' xs := fun ho => own_far15 ho h.lo _ _
  refine ⟨?_, h.lo, ?_, fun i hi => ?_, fun i hi => ?_, fun i hi => ?_, fun i hi a ha => ?_, fun i j hi hj hij q e1 e2 => ?_, fun i j hi hj q a e1 e2 => ?_⟩
  · rw [← lnCells_row hx hk]; exact row_set hb' _ _
  · show World.ownsRow _ B _ 3 (updV m.v k _ 0) _ _
    by_cases e : k = 0
    · subst e; rw [updV_at]; exact hself (hn rfl)
    · rw [updV_far _ _ (fun h => e h.symm), hnet e]; exact hkeep 0 (by omega) (fun h => e h.symm) h.net
  · show World.ownsRow _ B _ 1 (updV m.v k _ (1 + i)) _ _
    by_cases e : k = 1 + i
    · rw [← e, updV_at]; exact hself (hp i hi e)
    · rw [updV_far _ _ (fun h => e h.symm), hput i hi e]; exact hkeep (1 + i) (by omega) (fun h => e h.symm) (h.put i hi)
  · show World.ownsRow _ B _ 1 (updV m.v k _ (3 + i)) _ _
    by_cases e : k = 3 + i
    · rw [← e, updV_at]; exact hself (hc i hi e)
    · rw [updV_far _ _ (fun h => e h.symm), hcame i hi e]; exact hkeep (3 + i) (by omega) (fun h => e h.symm) (h.came i hi)
  · obtain ⟨o1, o2, o3⟩ := h.out i hi
    rw [hx i hi]
    refine ⟨?_, o2, o3⟩
    have := (o1.grown hg (fun q a e1 e2 => h.off k i hk hi q a e1 e2)).more (B' := w'.heap.size) hg.size
    have this : Strs w' w'.heap.size (m.A i) (l.st i).x.out := this
    have := Strs.setH this (j := 10 + k) hb' h.nostr u
    exact this.more (by simp [World.setCell])
  · have := h.ins i hi a ha
    have := hg.size
    have e : (w'.setCell ⟨H, 10 + k, none⟩ u).heap.size = w'.heap.size := by simp [World.setCell]
    rw [e]; omega
  · have e1' : (updV m.v k u i).ownBlock = some q := e1
    have e2' : (updV m.v k u j).ownBlock = some q := e2
    have hgk : ∀ g, u.ownBlock = some g → ∀ j, j < 5 → j ≠ k → (m.v j).ownBlock ≠ some g := fun g hu j hj hjk e => by
      rcases hgb g hu with e3 | e3
      · exact h.dj j k hj hk hjk g e e3
      · have := (h.row_lt hj e).2; omega
    by_cases ei : i = k
    · subst ei
      rw [updV_at] at e1'
      rw [updV_far _ _ (fun e => hij e.symm)] at e2'
      exact hgk q e1' j hj (fun e => hij e.symm) e2'
    · rw [updV_far _ _ ei] at e1'
      by_cases ej : j = k
      · subst ej
        rw [updV_at] at e2'
        exact hgk q e2' i hi ei e1'
      · rw [updV_far _ _ ej] at e2'
        exact h.dj i j hi hj hij q e1' e2'
  · have e1' : (updV m.v k u i).ownBlock = some q := e1
    by_cases ei : i = k
    · subst ei
      rw [updV_at] at e1'
      rcases hgb q e1' with e3 | e3
      · exact h.off i j hi hj q a e3 e2
      · have := h.ins j hj a e2
        omega
    · rw [updV_far _ _ ei] at e1'
      exact h.off i j hi hj q a e1' e2

/-! ### An end is written -/
def updN {α : Type} (f : Nat → α) (k : Nat) (u : α) : Nat → α := fun j => if j = k then u else f j
theorem updN_at {α : Type} (f : Nat → α) (k : Nat) (u : α) : updN f k u k = u := if_pos rfl
theorem updN_far {α : Type} (f : Nat → α) {k j : Nat} (u : α) (h : j ≠ k) : updN f k u j = f j := if_neg h
def endSet (w : World) (H o0 o1 o2 o3 o4 : Nat) (y : LEnd) (A : Option Addr) (c : Nat) : World := ((((w.setCell ⟨H, o0, none⟩ (.int .i64 y.ep)).setCell ⟨H, o1, none⟩ (.int .i64 y.ot)).setCell ⟨H, o2, none⟩ (.int .i64 y.fi)).setCell ⟨H, o3, none⟩ (.slice A y.out.length c)).setCell ⟨H, o4, none⟩ (.int .i64 y.wa)
theorem notstr_set {cs : Array Value} (h : ∀ (i : Nat) (s : ByteArray), cs[i]? ≠ some (Value.string s)) (j : Nat) {u : Value} (hu : ∀ s, u ≠ .string s) : ∀ (i : Nat) (s : ByteArray), (cs.setIfInBounds j u)[i]? ≠ some (Value.string s) := by
  intro i s e
  rw [Array.getElem?_setIfInBounds] at e
  split at e
  · split at e
    · injection e with e; exact hu s e
    · cases e
  · exact h i s e
theorem endSet_heap {w : World} {H : Nat} {cs : Array Value} {ty : TypeId} (hb : w.heap[H]? = some (.cells cs ty (0, 0))) (o0 o1 o2 o3 o4 : Nat) (y : LEnd) (A : Option Addr) (c : Nat) :
    (endSet w H o0 o1 o2 o3 o4 y A c).heap[H]? = some (.cells (((((cs.setIfInBounds o0 (.int .i64 y.ep)).setIfInBounds o1 (.int .i64 y.ot)).setIfInBounds o2 (.int .i64 y.fi)).setIfInBounds o3 (.slice A y.out.length c)).setIfInBounds o4 (.int .i64 y.wa)) ty (0, 0)) :=
  row_set (row_set (row_set (row_set (row_set hb o0 _) o1 _) o2 _) o3 _) o4 _
theorem Strs.endSet {w : World} {Bx : Nat} {A0 : Option Addr} {xs : List (List UInt8)} {H : Nat} (h : Strs w Bx A0 xs) {cs : Array Value} {ty : TypeId} (hb : w.heap[H]? = some (.cells cs ty (0, 0))) (hcs : ∀ (i : Nat) (s : ByteArray), cs[i]? ≠ some (Value.string s)) (o0 o1 o2 o3 o4 : Nat) (y : LEnd) (A : Option Addr) (c : Nat) : Strs (endSet w H o0 o1 o2 o3 o4 y A c) Bx A0 xs := by
  have b1 := row_set hb o0 (.int .i64 y.ep)
  have b2 := row_set b1 o1 (.int .i64 y.ot)
  have b3 := row_set b2 o2 (.int .i64 y.fi)
  have b4 := row_set b3 o3 (.slice A y.out.length c)
  have c1 := notstr_set hcs o0 (u := .int .i64 y.ep) (fun s e => by cases e)
  have c2 := notstr_set c1 o1 (u := .int .i64 y.ot) (fun s e => by cases e)
  have c3 := notstr_set c2 o2 (u := .int .i64 y.fi) (fun s e => by cases e)
  have c4 := notstr_set c3 o3 (u := .slice A y.out.length c) (fun s e => by cases e)
  exact Strs.setH (Strs.setH (Strs.setH (Strs.setH (Strs.setH h hb hcs _) b1 c1 _) b2 c2 _) b3 c3 _) b4 c4 _
theorem own_endSet {w : World} {B : Nat} {e : TypeId} {size n : Nat} {v : Value} {xs : List Value} (h : w.ownsRow B e size v n xs) {H : Nat} (hH : H < B) (o0 o1 o2 o3 o4 : Nat) (y : LEnd) (A : Option Addr) (c : Nat) : (endSet w H o0 o1 o2 o3 o4 y A c).ownsRow B e size v n xs :=
  own_far15 (own_far15 (own_far15 (own_far15 (own_far15 h hH o0 _) hH o1 _) hH o2 _) hH o3 _) hH o4 _
theorem endSet_size (w : World) (H o0 o1 o2 o3 o4 : Nat) (y : LEnd) (A : Option Addr) (c : Nat) : (endSet w H o0 o1 o2 o3 o4 y A c).heap.size = w.heap.size := by simp [Go.Proofs.Ytdhmkcomngbmaaa.endSet, World.setCell]
theorem below_endSet {Bx : Nat} {w0 w : World} (h : Below Bx w0 w) {H : Nat} (hH : Bx ≤ H) (o0 o1 o2 o3 o4 : Nat) (y : LEnd) (A : Option Addr) (c : Nat) : Below Bx w0 (endSet w H o0 o1 o2 o3 o4 y A c) :=
  ((((h.setCell (p := ⟨H, o0, none⟩) hH _).setCell (p := ⟨H, o1, none⟩) hH _).setCell (p := ⟨H, o2, none⟩) hH _).setCell (p := ⟨H, o3, none⟩) hH _).setCell (p := ⟨H, o4, none⟩) hH _

theorem LnAt.setEnd (h : LnAt B H w l m) {i : Nat} (hi : i < 2) (y : LEnd) (A' : Option Addr) (c' : Nat) (hs : Strs w w.heap.size A' y.out) (hn : A' = none → c' = 0) (hc : y.out.length ≤ c') (hin : ∀ a, A' = some a → a.block < w.heap.size) (hoff : ∀ k g a, k < 5 → (m.v k).ownBlock = some g → A' = some a → a.block ≠ g)
    (o0 o1 o2 o3 o4 : Nat) (ho : o0 = 5 * i ∧ o1 = 5 * i + 1 ∧ o2 = 5 * i + 2 ∧ o3 = 5 * i + 3 ∧ o4 = 5 * i + 4) :
    LnAt B H (endSet w H o0 o1 o2 o3 o4 y A' c') ⟨setS l.st i ⟨y, (l.st i).put, (l.st i).came⟩, l.net⟩ ⟨updN m.A i A', updN m.c i c', m.v⟩ := by
  have hput : ∀ j, (setS l.st i ⟨y, (l.st i).put, (l.st i).came⟩ j).put = (l.st j).put ∧ (setS l.st i ⟨y, (l.st i).put, (l.st i).came⟩ j).came = (l.st j).came := fun j => by
    unfold setS; split
    · rename_i e; rw [e]; exact ⟨rfl, rfl⟩
    · exact ⟨rfl, rfl⟩
  refine ⟨?_, h.lo, own_endSet h.net h.lo _ _ _ _ _ _ _ _, fun j hj => ?_, fun j hj => ?_, fun j hj => ?_, fun j hj a ha => ?_, h.dj, fun k j hk hj g a e1 e2 => ?_⟩
  · rw [endSet_heap h.blk]
    obtain ⟨rfl, rfl, rfl, rfl, rfl⟩ := ho
    match i, hi with
    | 0, _ => rfl
    | 1, _ => rfl
  · rw [(hput j).1]; exact own_endSet (h.put j hj) h.lo _ _ _ _ _ _ _ _
  · rw [(hput j).2]; exact own_endSet (h.came j hj) h.lo _ _ _ _ _ _ _ _
  · rw [endSet_size]
    by_cases e : j = i
    · subst e
      dsimp only
      rw [setS_at]
      show Strs _ _ (updN m.A j A' j) _ ∧ (updN m.A j A' j = none → updN m.c j c' j = 0) ∧ _ ≤ updN m.c j c' j
      rw [updN_at, updN_at]
      exact ⟨hs.endSet h.blk h.nostr _ _ _ _ _ _ _ _, hn, hc⟩
    · dsimp only
      rw [setS_far _ _ e]
      show Strs _ _ (updN m.A i A' j) _ ∧ (updN m.A i A' j = none → updN m.c i c' j = 0) ∧ _ ≤ updN m.c i c' j
      rw [updN_far _ _ e, updN_far _ _ e]
      obtain ⟨a1, a2, a3⟩ := h.out j hj
      exact ⟨a1.endSet h.blk h.nostr _ _ _ _ _ _ _ _, a2, a3⟩
  · rw [endSet_size]
    by_cases e : j = i
    · subst e
      have ha' : updN m.A j A' j = some a := ha
      rw [updN_at] at ha'; exact hin a ha'
    · have ha' : updN m.A i A' j = some a := ha
      rw [updN_far _ _ e] at ha'; exact h.ins j hj a ha'
  · by_cases e : j = i
    · subst e
      have e2' : updN m.A j A' j = some a := e2
      rw [updN_at] at e2'; exact hoff k g a hk e1 e2'
    · have e2' : updN m.A i A' j = some a := e2
      rw [updN_far _ _ e] at e2'; exact h.off k j hk hj g a e1 e2'
end

theorem own_form15Q {w : World} {base : Nat} {e : TypeId} {size : Nat} {v : Value} {n : Nat} {xs : List Value} (h : w.ownsRow base e size v n xs) : ∃ A c, v = .slice A n c := by
  rcases h.2 with ⟨rfl, rfl⟩ | ⟨g, cap, cur, rfl, _⟩
  · exact ⟨none, 0, rfl⟩
  · exact ⟨_, _, rfl⟩
theorem cell_three15 (w : World) (x y z : Value) (t : TypeId) : ∀ j u, [x, y, z][j]? = some u → (w.alloc (.cells #[x, y, z] t)).cell? ((⟨w.heap.size, 0, none⟩ : Addr).add j) = some u := by
  intro j u h
  rw [WideShapes.add_plain, Nat.zero_add, Lib.cell_of_heap (heap_new w _)]
  match j, h with
  | 0, h => simpa using h
  | 1, h => simpa using h
  | 2, h => simpa using h
theorem Try.infoPk : (Try.prog.info? 65).map (fun i => (i.zero, i.size, i.bytes)) = some (some (.agg #[.int .i64 0, .string ⟨#[]⟩, .bool false]), 3, 32) := by kernel_rfl

/-- What an act on the line leaves. -/
def LnEnd (B H : Nat) (l' : Line) (w : World) (e : Ending) (w' : World) : Prop := e = .returned (.tuple #[]) ∧ (∃ m', LnAt B H w' l' m') ∧ Below H w w'

set_option maxHeartbeats 4000000 in
set_option maxRecDepth 100000 in
theorem send_any {B H : Nat} {w : World} {l : Line} {m : LnM} (h : LnAt B H w l m) (hl : l.net.length ≤ 1000) (hB : B ≤ w.heap.size) (p : Pk) :
    Calls Try.prog 27 #[.pointer (some ⟨H, 0, none⟩), .agg #[.int .i64 (p.to_ : Int), .string (str p.s), .bool p.bad]] w (LnEnd B H (l.send p) w) := by
  obtain ⟨A0, c0, hv⟩ := own_form15Q h.net
  have hem : (str p.s).toList.isEmpty = decide (p.s = []) := str_same_none p.s
  have hb1 := below_one w (.cells #[.int .i64 (p.to_ : Int), .string (str p.s), .bool p.bad] 65)
  have HL := Lib.hid (h.later hb1)
  have hHlt := h.lt
  have hcell := (h.later hb1).cell 10
  have hfr := (h.later hb1).fr 10
  rw [show (lnCells l m)[10]? = some (m.v 0) from rfl, hv] at hcell
  have HB1 := Lib.hid (hb1.mono (Nat.le_of_lt hHlt))
  obtain ⟨V, hV⟩ : ∃ V, V = w.alloc (.cells #[.int .i64 (p.to_ : Int), .string (str p.s), .bool p.bad] 65) := ⟨_, rfl⟩
  have HPb : Hid (V.heap[w.heap.size]? = some (.cells #[.int .i64 (p.to_ : Int), .string (str p.s), .bool p.bad] 65 (0, 0))) := Lib.hid (by rw [hV]; exact heap_new _ _)
  rw [← hV] at HL hcell hfr HB1
  have HV := Lib.hid hV
  have hBV : B ≤ V.heap.size := by rw [hV]; simp; omega
  have hHV : H < V.heap.size := by rw [hV]; simp; omega
  have p0 : V.cell? ⟨w.heap.size, 0, none⟩ = some (.int .i64 (p.to_ : Int)) := by rw [Lib.cell_of_heap HPb.out]; rfl
  have p1 : V.cell? ⟨w.heap.size, 1, none⟩ = some (.string (str p.s)) := by rw [Lib.cell_of_heap HPb.out]; rfl
  have p2 : V.cell? ⟨w.heap.size, 2, none⟩ = some (.bool p.bad) := by rw [Lib.cell_of_heap HPb.out]; rfl
  clear hV h hb1
  by_cases hs : p.s = []
  · have hsd : (str p.s).toList.isEmpty = true := by rw [hem, decide_eq_true hs]
    have HE : Hid (l.send p = l) := Lib.hid (by unfold Line.send; rw [if_neg (fun e => e.1 hs)])
    clear hem hs
    go_enter Try.func27, Try.ntmps27
    go_upto_region 1 with fail
    rw [← HV.out]
    go_wp2
    go_end0
    exact ⟨rfl, ⟨m, by rw [HE.out]; exact HL.out⟩, HB1.out⟩
  · have hsd : (str p.s).toList.isEmpty = false := by rw [hem, decide_eq_false hs]
    by_cases hn : l.net.length < 200
    · have HE : Hid (l.send p = ⟨l.st, l.net ++ [p]⟩) := Lib.hid (by unfold Line.send; rw [if_pos ⟨hs, hn⟩])
      have hn2 : (l.net.length : Int) < 200 := by omega
      obtain ⟨i0, hi0, hz0, hz1, hz2⟩ := info_parts Try.infoPk
      have hOw := HL.out.net
      rw [hv] at hOw
      have HOd : Hid (V.drew.ownsRow B 65 3 (.slice A0 l.net.length c0) l.net.length (pkCells l.net)) := Lib.hid (own_drew hOw)
      have hsz : V.drew.heap.size = V.heap.size := rfl
      have hfit : l.net.length + 1 ≤ maxLen := by unfold maxLen; omega
      have hfit2 : (l.net.length + 1) * 32 ≤ 140737488355328 := by omega
      have HMv := Lib.hid hv
      clear hem hs hOw hv
      go_enter Try.func27, Try.ntmps27
      go_upto_region 1 with fail
      rw [← HV.out]
      go_upto_region 2 with fail
      have HLd := Lib.hid (HL.out.later ((Below.refl V.heap.size V).drew.alloc (Nat.le_refl _) (.cells #[.int .i64 (p.to_ : Int), .string (str p.s), .bool p.bad] 65)))
      have HRl := Lib.hid (fun q (e : (Value.slice A0 l.net.length c0).ownBlock = some q) => (HLd.out.row_lt (k := 0) (by omega) (by rw [HMv.out]; exact e)).1)
      go_region_law (refine step_append_lies _ (by rfl) (.tmp 19) (.tmp 21) 58 (by rfl) B 65 i0 (.agg #[.int .i64 0, .string ⟨#[]⟩, .bool false]) 3 32 Try.underlying58 hi0 hz0 hz1 hz2 rfl (by decide) (.slice A0 l.net.length c0) l.net.length (pkCells l.net) (by rfl) (HOd.out.alloc _) ⟨V.heap.size, 0, none⟩ 1 1 [.int .i64 (p.to_ : Int), .string (str p.s), .bool p.bad] (by rfl) (by rfl) (cell_three15 _ _ _ _ _) (by simp [Value.oneCell']) (by omega) hfit hfit2 (by simp; omega) (V.heap.size + 1) (by simp) ?_; intro g cap w6 hown hg hat hltg; have HH6 : Hid (w6.heap[H]? = some (.cells (lnCells l m) 61 (0, 0))) := Lib.hid ((hg.block H HLd.out.lt (fun e => by have := HRl.out H e.symm; have := HLd.out.lo; omega)).trans HLd.out.blk); have HOw6 := Lib.hid hown; have HG6 := Lib.hid hg; have HAt6 := Lib.hid hat; clear hown hg hat hltg; have x10 := Lib.cell_of_heap HH6.out 10; have xf10 := Lib.frozen_of_heap HH6.out 10; rw [show (lnCells l m)[10]? = some (m.v 0) from rfl, HMv.out] at x10)
      all_goals
        clear x10 xf10 hcell hfr
        go_wp2_with fail
        go_end0
        refine ⟨rfl, ?_, ?_⟩
        · rw [HE.out]
          exact ⟨_, HLd.out.grow (k := 0) (l' := ⟨l.st, l.net ++ [p]⟩) (by omega) (by rw [HMv.out]; exact HG6.out) (fun q hq => by
            rw [HMv.out]
            have hq' : g = q := by simpa [Value.ownBlock] using hq
            subst hq'
            rcases HAt6.out with e | e
            · exact .inl e
            · right; rw [e]; simp) (fun i _ => rfl) (fun e => absurd rfl e) (fun i _ _ => rfl) (fun i _ _ => rfl) (fun _ => by
            have := HOw6.out
            rw [List.length_append, pkCells_append]
            exact this) (fun i hi e => by omega) (fun i hi e => by omega)⟩
        · have hb6 : Below H V w6 := ((Below.refl H V).drew.alloc (Nat.le_of_lt hHV) _).grown HG6.out (by simp; omega) (fun q hq => by have := HRl.out q hq; have := HLd.out.lo; omega)
          exact (HB1.out.trans hb6).setCell (p := ⟨H, 10, none⟩) (Nat.le_refl _) _
    · have HE : Hid (l.send p = l) := Lib.hid (by unfold Line.send; rw [if_neg (fun e => hn e.2)])
      have hn2 : ¬ (l.net.length : Int) < 200 := by omega
      clear hem hs
      go_enter Try.func27, Try.ntmps27
      go_upto_region 1 with fail
      rw [← HV.out]
      go_wp2
      go_end0
      exact ⟨rfl, ⟨m, by rw [HE.out]; exact HL.out⟩, HB1.out⟩
end Go.Proofs.Ytdhmkcomngbmaaa

namespace Go.Proofs.Ytdhmkcomngbmaaa
open Go.RowKit

theorem pkCells_take (ps : List Pk) (k : Nat) (h : k ≤ ps.length) : pkCells (ps.take k) = (pkCells ps).take (k * 3) := by
  have e : pkCells ps = pkCells (ps.take k) ++ pkCells (ps.drop k) := by rw [← pkCells_append, List.take_append_drop]
  have hl : (pkCells (ps.take k)).length = k * 3 := by rw [pkCells_length, List.length_take]; omega
  rw [e, List.take_left' hl]
theorem pkCells_drop (ps : List Pk) (k : Nat) (h : k ≤ ps.length) : pkCells (ps.drop k) = (pkCells ps).drop (k * 3) := by
  have e : pkCells ps = pkCells (ps.take k) ++ pkCells (ps.drop k) := by rw [← pkCells_append, List.take_append_drop]
  have hl : (pkCells (ps.take k)).length = k * 3 := by rw [pkCells_length, List.length_take]; omega
  rw [e, List.drop_left' hl]
def pkVal (p : Pk) : Value := .agg #[.int .i64 (p.to_ : Int), .string (str p.s), .bool p.bad]
/-- A row of packets: where they lie, and each part of it. -/
theorem net_form {w : World} {B : Nat} {v : Value} {ps : List Pk} (h : w.ownsRow B 65 3 v ps.length (pkCells ps)) (hn : 0 < ps.length) :
    ∃ g cap, v = .slice (some ⟨g, 0, none⟩) ps.length cap ∧ B ≤ g ∧ g < w.heap.size ∧ ps.length ≤ cap ∧ (∀ i, (hi : i < (pkCells ps).length) → w.cell? ⟨g, i, none⟩ = some (pkCells ps)[i]) := by
  have hc : ∀ g, v.ownBlock = some g → ∀ i, (hi : i < (pkCells ps).length) → w.cell? ⟨g, i, none⟩ = some (pkCells ps)[i] := fun g hg i hi => by
    have := h.cells (g := g) hg i _ (List.getElem?_eq_getElem hi)
    rwa [WideShapes.add_plain, Nat.zero_add] at this
  rcases h.2 with ⟨_, h0⟩ | ⟨g, cap, cur, rfl, hb, hg, hn2, hm, hs, ht⟩
  · omega
  · exact ⟨g, cap, rfl, hb, heap_lt hg, by omega, hc g rfl⟩
theorem lies_part {w : World} {g : Nat} {ps : List Pk} (hg : g < w.heap.size) (hc : ∀ i, (hi : i < (pkCells ps).length) → w.cell? ⟨g, i, none⟩ = some (pkCells ps)[i]) (k m : Nat) (hk : k ≤ ps.length) :
    Lies w w.heap.size (some ⟨g, k * 3, none⟩) (pkCells ((ps.drop k).take m)) := by
  refine .inr ⟨g, k * 3, rfl, hg, fun i hi => ?_⟩
  have e : pkCells (ps.drop k) = pkCells ((ps.drop k).take m) ++ pkCells ((ps.drop k).drop m) := by rw [← pkCells_append, List.take_append_drop]
  have hd := pkCells_drop ps k hk
  have h1 : (pkCells ps)[k * 3 + i]? = some (pkCells ((ps.drop k).take m))[i] := by
    rw [← List.getElem?_drop, ← hd, e, List.getElem?_append_left hi, List.getElem?_eq_getElem hi]
  obtain ⟨h2, h3⟩ := List.getElem?_eq_some_iff.1 h1
  rw [hc _ h2, h3]

theorem LnAt.farSet {B H : Nat} {w : World} {l : Line} {m : LnM} (h : LnAt B H w l m) {b : Nat} (hH : b ≠ H) (hv : ∀ k, k < 5 → (m.v k).ownBlock ≠ some b) (hA : ∀ i, i < 2 → ∀ a, m.A i = some a → a.block ≠ b) (j : Nat) (u : Value) : LnAt B H (w.setCell ⟨b, j, none⟩ u) l m := by
  have hg : w.grownBy (w.setCell ⟨b, j, none⟩ u) (some b) := ⟨rfl, rfl, rfl, by simp [World.setCell], fun k _ hk => Below.heap_setCell _ _ _ _ (fun e => hk (by simp [e]))⟩
  have hk : ∀ {e : TypeId} {size n' : Nat} {xs : List Value} (k : Nat), k < 5 → w.ownsRow B e size (m.v k) n' xs → (w.setCell ⟨b, j, none⟩ u).ownsRow B e size (m.v k) n' xs := fun k hk ho => ho.kept hg (.inr (hv k hk))
  refine ⟨(Below.heap_setCell _ _ _ _ (fun e => hH e.symm)).trans h.blk, h.lo, hk 0 (by omega) h.net, fun i hi => hk (1 + i) (by omega) (h.put i hi), fun i hi => hk (3 + i) (by omega) (h.came i hi), fun i hi => ?_, fun i hi a ha => ?_, h.dj, h.off⟩
  · obtain ⟨o1, o2, o3⟩ := h.out i hi
    exact ⟨(o1.grown hg (fun q a e1 e2 => by injection e1 with e1; rw [← e1]; exact hA i hi a e2)).more (by simp [World.setCell]), o2, o3⟩
  · have := h.ins i hi a ha
    simpa [World.setCell] using this
theorem own_base15 {w : World} {base base' : Nat} {e : TypeId} {size n : Nat} {v : Value} {xs : List Value} (h : w.ownsRow base e size v n xs) (hb : base' ≤ base) : w.ownsRow base' e size v n xs :=
  ⟨h.1, h.2.imp id (fun ⟨g, cap, cur, h1, h2, h3⟩ => ⟨g, cap, cur, h1, Nat.le_trans hb h2, h3⟩)⟩
theorem grown_below {w w' : World} (h : Below w.heap.size w w') (row : Option Nat) : w.grownBy w' row := ⟨h.os, h.tape, h.output, h.size, fun i hi _ => h.block i hi⟩
theorem LnAt.gone_ {B H : Nat} {w w' : World} {l : Line} {m : LnM} (h : LnAt B H w l m) (k : Nat) {u : Value} (hb : Below w.heap.size w w') (hB : B ≤ w.heap.size) {n : Nat} (hn : n = (l.gone k).net.length) {xs : List Value} (hx : xs = pkCells (l.gone k).net) (ho : w'.ownsRow w.heap.size 65 3 u n xs) :
    LnAt B H (w'.setCell ⟨H, 10, none⟩ u) (l.gone k) { m with v := updV m.v 0 u } := by
  subst hn hx
  exact h.grow (k := 0) (by omega) (grown_below hb _) (fun g hg => .inr (ho.lt g hg).1) (fun i _ => rfl) (fun e => absurd rfl e) (fun i _ _ => rfl) (fun i _ _ => rfl) (fun _ => own_base15 ho hB) (fun i hi e => by omega) (fun i hi e => by omega)
def pkSet (w : World) (b : Nat) (p : Pk) : World := ((w.setCell ⟨b, 0, none⟩ (.int .i64 (p.to_ : Int))).setCell ⟨b, 1, none⟩ (.string (str p.s))).setCell ⟨b, 2, none⟩ (.bool p.bad)

set_option maxHeartbeats 4000000 in
set_option maxRecDepth 100000 in
theorem gone_any {B H : Nat} {w : World} {l : Line} {m : LnM} (h : LnAt B H w l m) (hl : l.net.length ≤ 1000) (k : Nat) (hk : k < l.net.length) :
    Calls Try.prog 29 #[.pointer (some ⟨H, 0, none⟩), .int .i64 (k : Int)] w fun e w' => e = .returned (pkVal l.net[k]) ∧ (∃ m', LnAt B H w' (l.gone k) m') ∧ Below H w w' := by
  obtain ⟨g0, cap, hv, hgB, hgl, hcap, hcs⟩ := net_form h.net (by omega)
  have HL := Lib.hid h
  have hHlt := h.lt
  have hcell := h.cell 10
  have hfr := h.fr 10
  rw [show (lnCells l m)[10]? = some (m.v 0) from rfl, hv] at hcell
  obtain ⟨q0, q1, q2⟩ := pkCells_at hk
  have p0 : w.cell? ⟨g0, k * 3, none⟩ = some (.int .i64 (l.net[k].to_ : Int)) := by obtain ⟨a, b⟩ := List.getElem?_eq_some_iff.1 q0; rw [hcs _ a, b]
  have p1 : w.cell? ⟨g0, k * 3 + 1, none⟩ = some (.string (str l.net[k].s)) := by obtain ⟨a, b⟩ := List.getElem?_eq_some_iff.1 q1; rw [hcs _ a, b]
  have p2 : w.cell? ⟨g0, k * 3 + 2, none⟩ = some (.bool l.net[k].bad) := by obtain ⟨a, b⟩ := List.getElem?_eq_some_iff.1 q2; rw [hcs _ a, b]
  obtain ⟨p, hp⟩ : ∃ p, l.net[k] = p := ⟨_, rfl⟩
  rw [hp] at p0 p1 p2
  rw [hp]
  have HP := Lib.hid hp
  have HC := Lib.hid hcs
  have HMv := Lib.hid hv
  clear h q0 q1 q2 hp hcs hv
  obtain ⟨n, hn⟩ : ∃ n, l.net.length = n := ⟨_, rfl⟩
  rw [hn] at hk hl hcell hcap
  have HN := Lib.hid hn
  clear hn
  have hk0 : (0 : Int) ≤ (k : Int) := by omega
  have hkn : (k : Int) < (n : Int) := by omega
  have hkc : (k : Int) ≤ (cap : Int) := by omega
  have hkw : IntKind.i64.wrap ((k : Int) + 1) = (k : Int) + 1 := by rw [IntKind.wrap_i64]; omega
  obtain ⟨i0, hi0, hz0, hz1, hz2⟩ := info_parts Try.infoPk
  have hHg : H ≠ g0 := by have := HL.out.lo; omega
  obtain ⟨V, hV⟩ : ∃ V, V = (w.alloc (.cells #[.int .i64 0, .string ⟨#[]⟩, .bool false] 65)).alloc (.cells #[.int .i64 (p.to_ : Int), .string (str p.s), .bool p.bad] 65) := ⟨_, rfl⟩
  have HBV : Hid (Below w.heap.size w V) := Lib.hid (by rw [hV]; exact below_news _ _ _)
  have hVs : V.heap.size = w.heap.size + 2 := by rw [hV]; simp
  have HPb : Hid (V.heap[w.heap.size + 1]? = some (.cells #[.int .i64 (p.to_ : Int), .string (str p.s), .bool p.bad] 65 (0, 0))) := Lib.hid (by rw [hV, show w.heap.size + 1 = (w.alloc (.cells #[.int .i64 0, .string ⟨#[]⟩, .bool false] 65)).heap.size from by simp]; exact heap_new _ _)
  have HRb : Hid (V.heap[w.heap.size]? = some (.cells #[.int .i64 0, .string ⟨#[]⟩, .bool false] 65 (0, 0))) := Lib.hid (by rw [hV]; exact ((below_one (w.alloc (.cells #[.int .i64 0, .string ⟨#[]⟩, .bool false] 65)) _).block w.heap.size (by simp)).trans (heap_new _ _))
  have HV := Lib.hid hV
  clear hV
  have HX : Hid (∀ w6 : World, V.drew.grownBy w6 (Value.slice none 0 0).ownBlock → Below V.heap.size V w6) := Lib.hid (fun w6 hg => (Below.refl V.heap.size V).drew.grown hg (Nat.le_refl _) (fun q hq => by cases hq))
  have hcsV : ∀ i, (hi : i < (pkCells l.net).length) → V.cell? ⟨g0, i, none⟩ = some (pkCells l.net)[i] := fun i hi => (HBV.out.cell (p := ⟨g0, i, none⟩) hgl).trans (HC.out i hi)
  have hgV : g0 < V.heap.size := by omega
  have hHV : H < V.heap.size := by omega
  have HT := Lib.hid (show Lies V.drew V.heap.size (some ⟨g0, 0, none⟩) (pkCells (l.net.take k)) from by
    have := (lies_part (w := V) hgV hcsV 0 k (Nat.zero_le _)).below (Below.refl V.heap.size V).drew
    rw [Nat.zero_mul] at this
    exact this)
  have HD := Lib.hid (lies_part (w := V) hgV hcsV (k + 1) (n - (k + 1)) (by rw [HN.out]; omega))
  have HTl : Hid ((pkCells (l.net.take k)).length = k * 3) := Lib.hid (by rw [pkCells_length, List.length_take, HN.out]; omega)
  have HDl : Hid ((pkCells ((l.net.drop (k + 1)).take (n - (k + 1)))).length = (n - (k + 1)) * 3) := Lib.hid (by rw [pkCells_length, List.length_take, List.length_drop, HN.out]; omega)
  have HDe : Hid ((l.net.drop (k + 1)).take (n - (k + 1)) = l.net.drop (k + 1)) := Lib.hid (by rw [List.take_of_length_le]; rw [List.length_drop, HN.out]; exact Nat.le_refl _)
  have hf1 : 0 + k ≤ maxLen := by unfold maxLen; omega
  have hf2 : (0 + k) * 32 ≤ 140737488355328 := by omega
  have hf3 : k + (n - (k + 1)) ≤ maxLen := by unfold maxLen; omega
  have hf4 : (k + (n - (k + 1))) * 32 ≤ 140737488355328 := by omega
  have hk1 : (0 : Int) ≤ (k : Int) + 1 := by omega
  have hk1n : (k : Int) + 1 ≤ (n : Int) := by omega
  have hk1w : ((k : Int) + 1).toNat = k + 1 := by omega
  have h10 := Lib.hid ((HBV.out.cell (p := ⟨H, 10, none⟩) hHlt).trans hcell)
  have hf10 := Lib.hid ((HBV.out.frozen (p := ⟨H, 10, none⟩) hHlt).trans hfr)
  clear hcsV
  have HEnd : Hid (∀ (A6 : Option Addr) (c6 : Nat) (w6 : World) (N : Nat) (xs : List Value), N = k + (n - (k + 1)) → xs = pkCells (l.gone k).net → w6.ownsRow V.heap.size 65 3 (.slice A6 N c6) N xs → Below V.heap.size V w6 →
      Hid (∀ W8, W8 = w6.setCell ⟨H, 10, none⟩ (.slice A6 N c6) → (∃ m', LnAt B H (pkSet W8 w.heap.size p) (l.gone k) m') ∧ Below H w (pkSet W8 w.heap.size p)) ∧ Hid ((w6.setCell ⟨H, 10, none⟩ (.slice A6 N c6)).heap[w.heap.size + 1]? = some (.cells #[.int .i64 (p.to_ : Int), .string (str p.s), .bool p.bad] 65 (0, 0))) ∧ Hid ((w6.setCell ⟨H, 10, none⟩ (.slice A6 N c6)).heap[w.heap.size]? = some (.cells #[.int .i64 0, .string ⟨#[]⟩, .bool false] 65 (0, 0)))) := Lib.hid (fun A6 c6 w6 N xs hN hxs ho hb => by
    have hHs : H < B := HL.out.lo
    refine ⟨Lib.hid (fun W8 e8 => ?_), Lib.hid ?_, Lib.hid ?_⟩
    · have h9 := (HL.out.later HBV.out).gone_ (w' := w6) k (u := .slice A6 N c6) hb (by omega) (n := N) (by rw [hN]; show _ = (l.net.take k ++ l.net.drop (k + 1)).length; rw [List.length_append, List.length_take, List.length_drop, HN.out]; omega) hxs ho
      rw [← e8] at h9
      have hv : ∀ j, j < 5 → (updV m.v 0 (.slice A6 N c6) j).ownBlock ≠ some w.heap.size := fun j hj e => by
        by_cases e0 : j = 0
        · subst e0
          rw [updV_at] at e
          have := (ho.lt _ e).1; omega
        · rw [updV_far _ _ e0] at e
          have := (HL.out.row_lt hj e).2; omega
      have hA : ∀ i, i < 2 → ∀ a, m.A i = some a → a.block ≠ w.heap.size := fun i hi a ha e => by have := HL.out.ins i hi a ha; omega
      refine ⟨⟨_, ((h9.farSet (by omega) hv hA 0 _).farSet (by omega) hv hA 1 _).farSet (by omega) hv hA 2 _⟩, ?_⟩
      have hb8 : Below H w W8 := by rw [e8]; exact ((HBV.out.trans (hb.mono HBV.out.size)).mono (Nat.le_of_lt hHlt)).setCell (p := ⟨H, 10, none⟩) (Nat.le_refl _) _
      exact ((hb8.setCell (p := ⟨w.heap.size, 0, none⟩) (Nat.le_of_lt hHlt) _).setCell (p := ⟨w.heap.size, 1, none⟩) (Nat.le_of_lt hHlt) _).setCell (p := ⟨w.heap.size, 2, none⟩) (Nat.le_of_lt hHlt) _
    · exact (Below.heap_setCell _ _ _ _ (by show w.heap.size + 1 ≠ H; omega)).trans ((hb.block _ (by omega)).trans HPb.out)
    · exact (Below.heap_setCell _ _ _ _ (by show w.heap.size ≠ H; omega)).trans ((hb.block _ (by omega)).trans HRb.out))
  by_cases hcm : cap = k + 1
  · subst hcm
    have hkc2 : (k : Int) ≤ (k : Int) + 1 := by omega
    have hf5 : k + 0 ≤ maxLen := by unfold maxLen; omega
    have hf6 : (k + 0) * 32 ≤ 140737488355328 := by omega
    have HN6 : Hid (k = k + (n - (k + 1))) := Lib.hid (by omega)
    have HDn : Hid (pkCells ((l.net.drop (k + 1)).take (n - (k + 1))) = []) := Lib.hid (List.eq_nil_of_length_eq_zero (by rw [HDl.out]; omega))
    have HX6 : Hid (pkCells (l.net.take k) = pkCells (l.gone k).net) := Lib.hid (by show _ = pkCells (l.net.take k ++ l.net.drop (k + 1)); rw [pkCells_append, ← HDe.out, HDn.out, List.append_nil])
    go_enter Try.func29, Try.ntmps29
    go_upto_region 3 with fail
    rw [← HV.out]
    clear p0 p1 p2 hcell hfr
    have x10 := h10.out
    have xf10 := hf10.out
    go_region_law (first
      | (refine step_append_rows (by rfl) (.tmp 15) (.tmp 21) 58 (by rfl) V.heap.size 65 i0 (.agg #[.int .i64 0, .string ⟨#[]⟩, .bool false]) 3 32 Try.underlying58 hi0 hz0 hz1 hz2 rfl (by decide) (.slice none 0 0) 0 [] (by rfl) (World.ownsRow_nil _ _ _ _) (some ⟨g0, 0, none⟩) k (k + 1) (pkCells (l.net.take k)) (by rfl) HTl.out V.heap.size HT.out (fun e => by cases e) (pkCells_one _) hf1 hf2 (Nat.le_refl _) ?_; intro A5 c5 w5 ho5 hg5; rw [List.nil_append, Nat.zero_add] at ho5; have HO5 := Lib.hid ho5; have HB5 := Lib.hid (HX.out _ hg5); clear ho5 hg5; clear x10 xf10; have x10 := (HB5.out.cell (p := ⟨H, 10, none⟩) hHV).trans h10.out; have xf10 := (HB5.out.frozen (p := ⟨H, 10, none⟩) hHV).trans hf10.out)
      | (refine step_append_rows (by rfl) (.tmp 22) (.tmp 29) 58 (by rfl) V.heap.size 65 i0 (.agg #[.int .i64 0, .string ⟨#[]⟩, .bool false]) 3 32 Try.underlying58 hi0 hz0 hz1 hz2 rfl (by decide) (.slice A5 k c5) k (pkCells (l.net.take k)) (by rfl) HO5.out (some ⟨g0, 0, none⟩) 0 0 [] (by rfl) rfl V.heap.size (.inl rfl) (fun e => by cases e) (fun u hu => by cases hu) hf5 hf6 HB5.out.size ?_; intro A6 c6 w6 ho6 hg6; rw [List.append_nil, Nat.add_zero] at ho6; have HO6 := Lib.hid ho6; have HB6 := Lib.hid (HB5.out.grown hg6 HB5.out.size (fun q hq => (HO5.out.lt q hq).1)); clear ho6 hg6; clear x10 xf10; have x10 := (HB6.out.cell (p := ⟨H, 10, none⟩) hHV).trans h10.out; have xf10 := (HB6.out.frozen (p := ⟨H, 10, none⟩) hHV).trans hf10.out))
    all_goals
      clear x10 xf10
      obtain ⟨HN9, HP9, HR9⟩ := HEnd.out _ _ _ _ _ HN6.out HX6.out HO6.out HB6.out
      generalize w6.setCell ⟨H, 10, none⟩ (.slice A6 k c6) = W7 at *
      have y0 : W7.cell? ⟨w.heap.size + 1, 0, none⟩ = some (.int .i64 (p.to_ : Int)) := by rw [Lib.cell_of_heap HP9.out]; rfl
      have y1 : W7.cell? ⟨w.heap.size + 1, 1, none⟩ = some (.string (str p.s)) := by rw [Lib.cell_of_heap HP9.out]; rfl
      have y2 : W7.cell? ⟨w.heap.size + 1, 2, none⟩ = some (.bool p.bad) := by rw [Lib.cell_of_heap HP9.out]; rfl
      have z0 : W7.cell? ⟨w.heap.size, 0, none⟩ = some (.int .i64 0) := by rw [Lib.cell_of_heap HR9.out]; rfl
      have z1 : W7.cell? ⟨w.heap.size, 1, none⟩ = some (.string ⟨#[]⟩) := by rw [Lib.cell_of_heap HR9.out]; rfl
      have z2 : W7.cell? ⟨w.heap.size, 2, none⟩ = some (.bool false) := by rw [Lib.cell_of_heap HR9.out]; rfl
      have zf := Lib.frozen_of_heap HR9.out
      go_wp2_with fail
      obtain ⟨hL9, hB9⟩ := HN9.out W7 rfl
      have HL9 := Lib.hid hL9
      have HB9 := Lib.hid hB9
      clear hL9 hB9 HN9
      have HR8 := Lib.hid (show (pkSet W7 w.heap.size p).heap[w.heap.size]? = some (.cells #[.int .i64 (p.to_ : Int), .string (str p.s), .bool p.bad] 65 (0, 0)) from row_set (row_set (row_set HR9.out 0 _) 1 _) 2 _)
      unfold pkSet at HL9 HB9 HR8
      generalize ((W7.setCell ⟨w.heap.size, 0, none⟩ (.int .i64 (p.to_ : Int))).setCell ⟨w.heap.size, 1, none⟩ (.string (str p.s))).setCell ⟨w.heap.size, 2, none⟩ (.bool p.bad) = W8 at HL9 HB9 HR8 ⊢
      have r0 : W8.cell? ⟨w.heap.size, 0, none⟩ = some (.int .i64 (p.to_ : Int)) := by rw [Lib.cell_of_heap HR8.out]; rfl
      have r1 : W8.cell? ⟨w.heap.size, 1, none⟩ = some (.string (str p.s)) := by rw [Lib.cell_of_heap HR8.out]; rfl
      have r2 : W8.cell? ⟨w.heap.size, 2, none⟩ = some (.bool p.bad) := by rw [Lib.cell_of_heap HR8.out]; rfl
      exact bodyPost_ret (v := pkVal p) (by simp [results, Try.results29, go_sem, r0, r1, r2, pkVal]) rfl ⟨rfl, HL9.out, HB9.out⟩
  · have HX6 : Hid (pkCells (l.net.take k) ++ pkCells ((l.net.drop (k + 1)).take (n - (k + 1))) = pkCells (l.gone k).net) := Lib.hid (by show _ = pkCells (l.net.take k ++ l.net.drop (k + 1)); rw [pkCells_append, HDe.out])
    go_enter Try.func29, Try.ntmps29
    go_upto_region 3 with fail
    rw [← HV.out]
    clear p0 p1 p2 hcell hfr
    have x10 := h10.out
    have xf10 := hf10.out
    go_region_law (first
      | (refine step_append_rows (by rfl) (.tmp 15) (.tmp 21) 58 (by rfl) V.heap.size 65 i0 (.agg #[.int .i64 0, .string ⟨#[]⟩, .bool false]) 3 32 Try.underlying58 hi0 hz0 hz1 hz2 rfl (by decide) (.slice none 0 0) 0 [] (by rfl) (World.ownsRow_nil _ _ _ _) (some ⟨g0, 0, none⟩) k cap (pkCells (l.net.take k)) (by rfl) HTl.out V.heap.size HT.out (fun e => by cases e) (pkCells_one _) hf1 hf2 (Nat.le_refl _) ?_; intro A5 c5 w5 ho5 hg5; rw [List.nil_append, Nat.zero_add] at ho5; have HO5 := Lib.hid ho5; have HB5 := Lib.hid (HX.out _ hg5); clear ho5 hg5; clear x10 xf10; have x10 := (HB5.out.cell (p := ⟨H, 10, none⟩) hHV).trans h10.out; have xf10 := (HB5.out.frozen (p := ⟨H, 10, none⟩) hHV).trans hf10.out)
      | (refine step_append_rows (by rfl) (.tmp 22) (.tmp 29) 58 (by rfl) V.heap.size 65 i0 (.agg #[.int .i64 0, .string ⟨#[]⟩, .bool false]) 3 32 Try.underlying58 hi0 hz0 hz1 hz2 rfl (by decide) (.slice A5 k c5) k (pkCells (l.net.take k)) (by rfl) HO5.out (some ⟨g0, (k + 1) * 3, none⟩) (n - (k + 1)) (cap - (k + 1)) (pkCells ((l.net.drop (k + 1)).take (n - (k + 1)))) (by rfl) HDl.out V.heap.size (HD.out.below HB5.out) (fun e => by cases e) (pkCells_one _) hf3 hf4 HB5.out.size ?_; intro A6 c6 w6 ho6 hg6; have HO6 := Lib.hid ho6; have HB6 := Lib.hid (HB5.out.grown hg6 HB5.out.size (fun q hq => (HO5.out.lt q hq).1)); clear ho6 hg6; clear x10 xf10; have x10 := (HB6.out.cell (p := ⟨H, 10, none⟩) hHV).trans h10.out; have xf10 := (HB6.out.frozen (p := ⟨H, 10, none⟩) hHV).trans hf10.out))
    all_goals
      clear x10 xf10
      obtain ⟨HN9, HP9, HR9⟩ := HEnd.out _ _ _ _ _ rfl HX6.out HO6.out HB6.out
      generalize w6.setCell ⟨H, 10, none⟩ (.slice A6 (k + (n - (k + 1))) c6) = W7 at *
      have y0 : W7.cell? ⟨w.heap.size + 1, 0, none⟩ = some (.int .i64 (p.to_ : Int)) := by rw [Lib.cell_of_heap HP9.out]; rfl
      have y1 : W7.cell? ⟨w.heap.size + 1, 1, none⟩ = some (.string (str p.s)) := by rw [Lib.cell_of_heap HP9.out]; rfl
      have y2 : W7.cell? ⟨w.heap.size + 1, 2, none⟩ = some (.bool p.bad) := by rw [Lib.cell_of_heap HP9.out]; rfl
      have z0 : W7.cell? ⟨w.heap.size, 0, none⟩ = some (.int .i64 0) := by rw [Lib.cell_of_heap HR9.out]; rfl
      have z1 : W7.cell? ⟨w.heap.size, 1, none⟩ = some (.string ⟨#[]⟩) := by rw [Lib.cell_of_heap HR9.out]; rfl
      have z2 : W7.cell? ⟨w.heap.size, 2, none⟩ = some (.bool false) := by rw [Lib.cell_of_heap HR9.out]; rfl
      have zf := Lib.frozen_of_heap HR9.out
      go_wp2_with fail
      obtain ⟨hL9, hB9⟩ := HN9.out W7 rfl
      have HL9 := Lib.hid hL9
      have HB9 := Lib.hid hB9
      clear hL9 hB9 HN9
      have HR8 := Lib.hid (show (pkSet W7 w.heap.size p).heap[w.heap.size]? = some (.cells #[.int .i64 (p.to_ : Int), .string (str p.s), .bool p.bad] 65 (0, 0)) from row_set (row_set (row_set HR9.out 0 _) 1 _) 2 _)
      unfold pkSet at HL9 HB9 HR8
      generalize ((W7.setCell ⟨w.heap.size, 0, none⟩ (.int .i64 (p.to_ : Int))).setCell ⟨w.heap.size, 1, none⟩ (.string (str p.s))).setCell ⟨w.heap.size, 2, none⟩ (.bool p.bad) = W8 at HL9 HB9 HR8 ⊢
      have r0 : W8.cell? ⟨w.heap.size, 0, none⟩ = some (.int .i64 (p.to_ : Int)) := by rw [Lib.cell_of_heap HR8.out]; rfl
      have r1 : W8.cell? ⟨w.heap.size, 1, none⟩ = some (.string (str p.s)) := by rw [Lib.cell_of_heap HR8.out]; rfl
      have r2 : W8.cell? ⟨w.heap.size, 2, none⟩ = some (.bool p.bad) := by rw [Lib.cell_of_heap HR8.out]; rfl
      exact bodyPost_ret (v := pkVal p) (by simp [results, Try.results29, go_sem, r0, r1, r2, pkVal]) rfl ⟨rfl, HL9.out, HB9.out⟩
end Go.Proofs.Ytdhmkcomngbmaaa

namespace Go.Proofs.Ytdhmkcomngbmaaa
open Go.RowKit

theorem cell_one15 (w : World) (x : Value) (t : TypeId) : ∀ j u, [x][j]? = some u → (w.alloc (.cells #[x] t)).cell? ((⟨w.heap.size, 0, none⟩ : Addr).add j) = some u := by
  intro j u h
  rw [WideShapes.add_plain, Nat.zero_add, Lib.cell_of_heap (heap_new w _)]
  match j, h with
  | 0, h => simpa using h
theorem twoS_x (f : Nat → Site) (i : Nat) (S S' : Site) (h : S.x = S'.x) (k : Nat) : (setS f i S k).x = (setS f i S' k).x := by unfold setS; split <;> simp [h]
theorem twoS_came (f : Nat → Site) (i : Nat) (S S' : Site) (h : S.came = S'.came) (k : Nat) : (setS f i S k).came = (setS f i S' k).came := by unfold setS; split <;> simp [h]
theorem twoS_put (f : Nat → Site) (i : Nat) (S S' : Site) (h : S.put = S'.put) (k : Nat) : (setS f i S k).put = (setS f i S' k).put := by unfold setS; split <;> simp [h]
theorem twoS_far (f : Nat → Site) {i k : Nat} (S S' : Site) (h : k ≠ i) : setS f i S k = setS f i S' k := by rw [setS_far _ _ h, setS_far _ _ h]
theorem LnAt.put_ {B H : Nat} {w w' : World} {st : Nat → Site} {net : List Pk} {i : Nat} {y : LEnd} {P C : List (List UInt8)} {m : LnM} (h : LnAt B H w ⟨setS st i ⟨y, P, C⟩, net⟩ m) (hi : i < 2) (p : List UInt8) {u : Value} (hg : w.grownBy w' (m.v (1 + i)).ownBlock) (hgb : ∀ g, u.ownBlock = some g → (m.v (1 + i)).ownBlock = some g ∨ w.heap.size ≤ g)
    {n : Nat} (hn : n = P.length + 1) {xs : List Value} (hx : xs = P.map txt ++ [txt p]) (ho : w'.ownsRow B 9 1 u n xs) {k : Nat} (hk : k = 10 + (1 + i)) :
    LnAt B H (w'.setCell ⟨H, k, none⟩ u) ⟨setS st i ⟨y, P ++ [p], C⟩, net⟩ { m with v := updV m.v (1 + i) u } := by
  subst hk hn hx
  refine h.grow (k := 1 + i) (by omega) hg hgb (fun j _ => twoS_x st i ⟨y, P ++ [p], C⟩ ⟨y, P, C⟩ rfl j) (fun _ => rfl) (fun j hj e => ?_) (fun j _ _ => twoS_came st i ⟨y, P ++ [p], C⟩ ⟨y, P, C⟩ rfl j) (fun e => by omega) (fun j hj e => ?_) (fun j hj e => by omega)
  · have e' : j ≠ i := by omega
    dsimp only
    rw [twoS_far st _ _ e']
  · have e' : j = i := by omega
    subst e'
    dsimp only
    rw [setS_at, List.length_append, List.map_append]
    exact ho
theorem LnAt.came_ {B H : Nat} {w w' : World} {st : Nat → Site} {net : List Pk} {i : Nat} {y : LEnd} {P C : List (List UInt8)} {m : LnM} (h : LnAt B H w ⟨setS st i ⟨y, P, C⟩, net⟩ m) (hi : i < 2) (p : List UInt8) {u : Value} (hg : w.grownBy w' (m.v (3 + i)).ownBlock) (hgb : ∀ g, u.ownBlock = some g → (m.v (3 + i)).ownBlock = some g ∨ w.heap.size ≤ g)
    {n : Nat} (hn : n = C.length + 1) {xs : List Value} (hx : xs = C.map txt ++ [txt p]) (ho : w'.ownsRow B 9 1 u n xs) {k : Nat} (hk : k = 10 + (3 + i)) :
    LnAt B H (w'.setCell ⟨H, k, none⟩ u) ⟨setS st i ⟨y, P, C ++ [p]⟩, net⟩ { m with v := updV m.v (3 + i) u } := by
  subst hk hn hx
  refine h.grow (k := 3 + i) (by omega) hg hgb (fun j _ => twoS_x st i ⟨y, P, C ++ [p]⟩ ⟨y, P, C⟩ rfl j) (fun _ => rfl) (fun j hj e => twoS_put st i ⟨y, P, C ++ [p]⟩ ⟨y, P, C⟩ rfl j) (fun j hj e => ?_) (fun e => by omega) (fun j hj e => by omega) (fun j hj e => ?_)
  · have e' : j ≠ i := by omega
    dsimp only
    rw [twoS_far st _ _ e']
  · have e' : j = i := by omega
    subst e'
    dsimp only
    rw [setS_at, List.length_append, List.map_append]
    exact ho
theorem none_val15 (A : Option Addr) (c : Nat) : LEnd.none_.val A c = .agg #[.int .i64 0, .int .i64 0, .int .i64 0, .slice A 0 c, .int .i64 0] := rfl

set_option maxHeartbeats 4000000 in
set_option maxRecDepth 100000 in
theorem puts_any0 {B H : Nat} {w : World} {l : Line} {m : LnM} (h : LnAt B H w l m) (hl : l.net.length ≤ 1000) (hp : (l.st 0).put.length ≤ 1000) (hx : (l.st 0).x.Ok) (hB : B ≤ w.heap.size) (p : List UInt8) :
    Calls Try.prog 43 #[.pointer (some ⟨H, 0, none⟩), .int .i64 0, .string (str p)] w (LnEnd B H (l.puts 0 p) w) := by
  have HL := Lib.hid h
  have hHlt := h.lt
  obtain ⟨o1, o2, o3⟩ := h.out 0 (by omega)
  have x0 := h.cell 0
  have x1 := h.cell 1
  have x2 := h.cell 2
  have x3 := h.cell 3
  have x4 := h.cell 4
  rw [show (lnCells l m)[0]? = some (.int .i64 (l.st 0).x.ep) from rfl] at x0
  rw [show (lnCells l m)[1]? = some (.int .i64 (l.st 0).x.ot) from rfl] at x1
  rw [show (lnCells l m)[2]? = some (.int .i64 (l.st 0).x.fi) from rfl] at x2
  rw [show (lnCells l m)[3]? = some (.slice (m.A 0) (l.st 0).x.out.length (m.c 0)) from rfl] at x3
  rw [show (lnCells l m)[4]? = some (.int .i64 (l.st 0).x.wa) from rfl] at x4
  obtain ⟨x, hxx⟩ : ∃ x, (l.st 0).x = x := ⟨_, rfl⟩
  rw [hxx] at hx o1 o3 x0 x1 x2 x3 x4
  have HXX := Lib.hid hxx
  clear hxx
  obtain ⟨A, hA⟩ : ∃ A, m.A 0 = A := ⟨_, rfl⟩
  obtain ⟨c, hc⟩ : ∃ c, m.c 0 = c := ⟨_, rfl⟩
  rw [hA] at o1 o2 x3
  rw [hc] at o2 o3 x3
  have HO1 := Lib.hid o1
  have HO2 := Lib.hid o2
  have HO3 := Lib.hid o3
  have HXO := Lib.hid hx
  clear o1 o2 o3 hx h
  by_cases he : putE15 x p = 0
  · have HE : Hid (l.puts 0 p = Line.send ⟨setS l.st 0 ⟨putX x p, (l.st 0).put ++ [p], (l.st 0).came⟩, l.net⟩ ⟨1 - 0, putS x p, false⟩) := Lib.hid (by unfold Line.puts; rw [HXX.out, if_pos he])
    have HP := Lib.hid (LPut_yesS x A c p w HO1.out HO2.out HXO.out he)
    unfold LEnd.val at HP
    clear he
    obtain ⟨y, hy⟩ : ∃ y, putX x p = y := ⟨_, rfl⟩
    rw [hy] at HP HE
    have HY := Lib.hid hy
    clear hy
    go_enter Try.func43, Try.ntmps43
    go_upto_region 2 with (go_at_call 12; (with_reducible refine HP.out.mono ?_); rintro e w9 ⟨A9, c9, rfl, hs9, hn9, hc9, hb9, hin9⟩; unfold LEnd.val; have HB9 := Lib.hid hb9; have HS9 := Lib.hid hs9; have HN9 := Lib.hid hn9; have HC9 := Lib.hid hc9; have HI9 := Lib.hid hin9; have HL9 := Lib.hid (HL.out.later hb9); clear hs9 hn9 hc9 hb9 hin9)
    obtain ⟨V, hV⟩ : ∃ V, V = w9.alloc (.cells #[.int .i64 y.ep, .int .i64 y.ot, .int .i64 y.fi, .slice A9 y.out.length c9, .int .i64 y.wa] 24) := ⟨_, rfl⟩
    have hb1 := below_one w9 (.cells #[.int .i64 y.ep, .int .i64 y.ot, .int .i64 y.fi, .slice A9 y.out.length c9, .int .i64 y.wa] 24)
    have HYb : Hid (V.heap[w9.heap.size]? = some (.cells #[.int .i64 y.ep, .int .i64 y.ot, .int .i64 y.fi, .slice A9 y.out.length c9, .int .i64 y.wa] 24 (0, 0))) := Lib.hid (by rw [hV]; exact heap_new _ _)
    rw [← hV] at hb1 ⊢
    have HV := Lib.hid hV
    have HB1 := Lib.hid hb1
    have HLV := Lib.hid (HL9.out.later hb1)
    clear hV hb1
    have y0 : V.cell? ⟨w9.heap.size, 0, none⟩ = some (.int .i64 y.ep) := by rw [Lib.cell_of_heap HYb.out]; rfl
    have y1 : V.cell? ⟨w9.heap.size, 1, none⟩ = some (.int .i64 y.ot) := by rw [Lib.cell_of_heap HYb.out]; rfl
    have y2 : V.cell? ⟨w9.heap.size, 2, none⟩ = some (.int .i64 y.fi) := by rw [Lib.cell_of_heap HYb.out]; rfl
    have y3 : V.cell? ⟨w9.heap.size, 3, none⟩ = some (.slice A9 y.out.length c9) := by rw [Lib.cell_of_heap HYb.out]; rfl
    have y4 : V.cell? ⟨w9.heap.size, 4, none⟩ = some (.int .i64 y.wa) := by rw [Lib.cell_of_heap HYb.out]; rfl
    clear x0 x1 x2 x3 x4
    have x0 := HLV.out.cell 0
    have x1 := HLV.out.cell 1
    have x2 := HLV.out.cell 2
    have x3 := HLV.out.cell 3
    have x4 := HLV.out.cell 4
    rw [show (lnCells l m)[0]? = some (.int .i64 (l.st 0).x.ep) from rfl] at x0
    rw [show (lnCells l m)[1]? = some (.int .i64 (l.st 0).x.ot) from rfl] at x1
    rw [show (lnCells l m)[2]? = some (.int .i64 (l.st 0).x.fi) from rfl] at x2
    rw [show (lnCells l m)[3]? = some (.slice (m.A 0) (l.st 0).x.out.length (m.c 0)) from rfl] at x3
    rw [show (lnCells l m)[4]? = some (.int .i64 (l.st 0).x.wa) from rfl] at x4
    have xf := HLV.out.fr
    go_region
    go_upto_region 3 with fail
    clear x0 x1 x2 x3 x4 y0 y1 y2 y3 y4 xf
    have HL1 := Lib.hid ((HLV.out.setEnd (i := 0) (by omega) y A9 c9 (HS9.out.next HB1.out) HN9.out HC9.out (fun a ha => Nat.lt_of_lt_of_le (HI9.out a ha).2 HB1.out.size) (fun k g a hk e1 e2 => by have := (HL.out.row_lt hk e1).2; have := (HI9.out a e2).1; omega) 0 1 2 3 4 ⟨rfl, rfl, rfl, rfl, rfl⟩).later (Below.refl _ _).drew)
    have HB2 := Lib.hid ((below_endSet (HB9.out.trans (HB1.out.mono HB9.out.size) |>.mono (Nat.le_of_lt hHlt)) (Nat.le_refl H) 0 1 2 3 4 y A9 c9).drew)
    have hBX : B ≤ (endSet V H 0 1 2 3 4 y A9 c9).drew.heap.size := by rw [drew_size, endSet_size]; have := HB1.out.size; have := HB9.out.size; omega
    unfold endSet at HL1 HB2 hBX
    generalize hX : (((((V.setCell ⟨H, 0, none⟩ (.int .i64 y.ep)).setCell ⟨H, 1, none⟩ (.int .i64 y.ot)).setCell ⟨H, 2, none⟩ (.int .i64 y.fi)).setCell ⟨H, 3, none⟩ (.slice A9 y.out.length c9)).setCell ⟨H, 4, none⟩ (.int .i64 y.wa)).drew = X at HL1 HB2 hBX ⊢
    clear hX HYb HV HB1 HLV HS9 HN9 HC9 HI9 HL9 HB9 HP HO1 HO2 HO3 HXX
    obtain ⟨A0, c0, hv⟩ := own_form15Q (HL1.out.put 0 (by omega))
    have hv' : m.v 1 = .slice A0 (setS l.st 0 ⟨y, (l.st 0).put, (l.st 0).came⟩ 0).put.length c0 := hv
    rw [setS_at] at hv'
    have hOw := HL1.out.put 0 (by omega)
    rw [show (⟨updN m.A 0 A9, updN m.c 0 c9, m.v⟩ : LnM).v (1 + 0) = m.v 1 from rfl, hv'] at hOw
    dsimp only at hOw
    rw [setS_at] at hOw
    have HOd := Lib.hid (own_drew hOw)
    have hcell := HL1.out.cell 11
    have hfr := HL1.out.fr 11
    have hHX := HL1.out.lt
    rw [show (lnCells ⟨setS l.st 0 ⟨y, (l.st 0).put, (l.st 0).came⟩, l.net⟩ ⟨updN m.A 0 A9, updN m.c 0 c9, m.v⟩)[11]? = some (m.v 1) from rfl, hv'] at hcell
    have HMv := Lib.hid hv'
    clear hOw hv hv'
    dsimp only at HOd hcell HMv
    obtain ⟨np, hnp⟩ : ∃ np, (l.st 0).put.length = np := ⟨_, rfl⟩
    rw [hnp] at HOd hcell hp HMv
    have HNp := Lib.hid hnp
    clear hnp
    obtain ⟨i0, hi0, hz0, hz1, hz2⟩ := info_parts Try.infoStr
    have hfit : np + 1 ≤ maxLen := by unfold maxLen; omega
    have hfit2 : (np + 1) * 16 ≤ 140737488355328 := by omega
    have HLd := Lib.hid (HL1.out.later ((Below.refl X.heap.size X).drew.alloc (Nat.le_refl _) (.cells #[.string (str p)] 9)))
    obtain ⟨M, hM⟩ : ∃ M : LnM, (⟨updN m.A 0 A9, updN m.c 0 c9, m.v⟩ : LnM) = M := ⟨_, rfl⟩
    have hMv : M.v 1 = .slice A0 np c0 := by rw [← hM]; exact HMv.out
    have HMV := Lib.hid hMv
    rw [hM] at HL1 HLd
    clear hM hMv HMv
    obtain ⟨L, hL⟩ : ∃ L : Line, (⟨setS l.st 0 ⟨y, (l.st 0).put, (l.st 0).came⟩, l.net⟩ : Line) = L := ⟨_, rfl⟩
    rw [hL] at HL1 HLd
    have HLL := Lib.hid hL
    clear hL
    have HRl := Lib.hid (fun q (e : (Value.slice A0 np c0).ownBlock = some q) => (HLd.out.row_lt (k := 1) (by omega) (by rw [HMV.out]; exact e)).1)
    go_region_law (refine step_append_lies _ (by rfl) (.tmp 36) (.tmp 38) 22 (by rfl) B 9 i0 (.string ⟨#[]⟩) 1 16 Try.underlying22 hi0 hz0 hz1 hz2 rfl (by decide) (.slice A0 np c0) np ((l.st 0).put.map txt) (by rfl) (HOd.out.alloc _) ⟨X.heap.size, 0, none⟩ 1 1 [.string (str p)] (by rfl) (by rfl) (cell_one15 _ _ _) (by simp [Value.oneCell']) (by omega) hfit hfit2 (by simp; omega) (X.heap.size + 1) (by simp) ?_; intro g cap w6 hown hg hat hltg; have HH6 : Hid (w6.heap[H]? = some (.cells (lnCells L M) 61 (0, 0))) := Lib.hid ((hg.block H HLd.out.lt (fun e => by have := HRl.out H e.symm; have := HLd.out.lo; omega)).trans HLd.out.blk); have HOw6 := Lib.hid hown; have HG6 := Lib.hid hg; have HAt6 := Lib.hid hat; clear hown hg hat hltg; have xp := Lib.cell_of_heap HH6.out 11; have xfp := Lib.frozen_of_heap HH6.out 11; rw [show (lnCells L M)[11]? = some (M.v 1) from rfl, HMV.out] at xp)
    all_goals
      clear xp xfp hcell hfr
      have hb6 : Below H w w6 := (HB2.out.drew.alloc (Nat.le_of_lt hHX) _).grown HG6.out (by simp; omega) (fun q hq => by have := HRl.out q hq; have := HLd.out.lo; omega)
      have h6 := HLd.out
      rw [← HLL.out] at h6
      have HL6 := Lib.hid (h6.put_ (i := 0) (k := 11) (w' := w6) (u := .slice (some ⟨g, 0, none⟩) (np + 1) cap) (by omega) p (by show World.grownBy _ w6 (M.v 1).ownBlock; rw [HMV.out]; exact HG6.out) (fun q hq => by
        show (M.v 1).ownBlock = some q ∨ _
        rw [HMV.out]
        have hq' : g = q := by simpa [Value.ownBlock] using hq
        subst hq'
        rcases HAt6.out with e | e
        · exact .inl e
        · right; rw [e]; simp) (by rw [HNp.out]) rfl HOw6.out rfl)
      clear h6
      have HB6 := Lib.hid (hb6.setCell (p := ⟨H, 11, none⟩) (Nat.le_refl _) (.slice (some ⟨g, 0, none⟩) (np + 1) cap))
      have hs6 : B ≤ (w6.setCell ⟨H, 11, none⟩ (.slice (some ⟨g, 0, none⟩) (np + 1) cap)).heap.size := by have := HG6.out.size; simp [World.setCell] at this ⊢; omega
      have hsd := send_any HL6.out hl hs6 ⟨1 - 0, putS x p, false⟩
      dsimp only at hsd
      rw [show (((1 - 0 : Nat)) : Int) = 1 from by decide] at hsd
      have HSd := Lib.hid hsd
      clear hsd
      generalize w6.setCell ⟨H, 11, none⟩ (.slice (some ⟨g, 0, none⟩) (np + 1) cap) = W6 at HL6 HB6 HSd ⊢
      go_wp2_with (go_at_call 27; (with_reducible refine HSd.out.mono ?_); rintro e W7 ⟨rfl, hL7, hB7⟩)
      go_end0
      exact ⟨rfl, by rw [HE.out]; exact hL7, HB6.out.trans hB7⟩
  · have HE : Hid (l.puts 0 p = l) := Lib.hid (by unfold Line.puts; rw [HXX.out, if_neg he])
    have HP := Lib.hid (LPut_no x A c p w HO1.out HXO.out he)
    unfold LEnd.val at HP
    have HNE := Lib.hid he
    clear he
    go_enter Try.func43, Try.ntmps43
    have hqe : (putE15 x p == 0) = false := by rw [beq_eq_false_iff_ne]; exact HNE.out
    go_wp2_with (go_at_call 12; (with_reducible refine HP.out.mono ?_); rintro e w9 ⟨v, rfl, A9, c9, rfl, hs9, hn9, hc9, hb9⟩; rw [none_val15]; have HB9 := Lib.hid hb9; clear hs9 hn9 hc9 hb9)
    go_end0
    have hb8 := below_next HB9.out (below_one w9 (.cells #[.int .i64 0, .int .i64 0, .int .i64 0, .slice A9 0 c9, .int .i64 0] 24))
    exact ⟨rfl, ⟨m, by rw [HE.out]; exact HL.out.later hb8⟩, hb8.mono (Nat.le_of_lt hHlt)⟩

set_option maxHeartbeats 4000000 in
set_option maxRecDepth 100000 in
theorem puts_any1 {B H : Nat} {w : World} {l : Line} {m : LnM} (h : LnAt B H w l m) (hl : l.net.length ≤ 1000) (hp : (l.st 1).put.length ≤ 1000) (hx : (l.st 1).x.Ok) (hB : B ≤ w.heap.size) (p : List UInt8) :
    Calls Try.prog 43 #[.pointer (some ⟨H, 0, none⟩), .int .i64 1, .string (str p)] w (LnEnd B H (l.puts 1 p) w) := by
  have HL := Lib.hid h
  have hHlt := h.lt
  obtain ⟨o1, o2, o3⟩ := h.out 1 (by omega)
  have x0 := h.cell 5
  have x1 := h.cell 6
  have x2 := h.cell 7
  have x3 := h.cell 8
  have x4 := h.cell 9
  rw [show (lnCells l m)[5]? = some (.int .i64 (l.st 1).x.ep) from rfl] at x0
  rw [show (lnCells l m)[6]? = some (.int .i64 (l.st 1).x.ot) from rfl] at x1
  rw [show (lnCells l m)[7]? = some (.int .i64 (l.st 1).x.fi) from rfl] at x2
  rw [show (lnCells l m)[8]? = some (.slice (m.A 1) (l.st 1).x.out.length (m.c 1)) from rfl] at x3
  rw [show (lnCells l m)[9]? = some (.int .i64 (l.st 1).x.wa) from rfl] at x4
  obtain ⟨x, hxx⟩ : ∃ x, (l.st 1).x = x := ⟨_, rfl⟩
  rw [hxx] at hx o1 o3 x0 x1 x2 x3 x4
  have HXX := Lib.hid hxx
  clear hxx
  obtain ⟨A, hA⟩ : ∃ A, m.A 1 = A := ⟨_, rfl⟩
  obtain ⟨c, hc⟩ : ∃ c, m.c 1 = c := ⟨_, rfl⟩
  rw [hA] at o1 o2 x3
  rw [hc] at o2 o3 x3
  have HO1 := Lib.hid o1
  have HO2 := Lib.hid o2
  have HO3 := Lib.hid o3
  have HXO := Lib.hid hx
  clear o1 o2 o3 hx h
  by_cases he : putE15 x p = 0
  · have HE : Hid (l.puts 1 p = Line.send ⟨setS l.st 1 ⟨putX x p, (l.st 1).put ++ [p], (l.st 1).came⟩, l.net⟩ ⟨1 - 1, putS x p, false⟩) := Lib.hid (by unfold Line.puts; rw [HXX.out, if_pos he])
    have HP := Lib.hid (LPut_yesS x A c p w HO1.out HO2.out HXO.out he)
    unfold LEnd.val at HP
    clear he
    obtain ⟨y, hy⟩ : ∃ y, putX x p = y := ⟨_, rfl⟩
    rw [hy] at HP HE
    have HY := Lib.hid hy
    clear hy
    go_enter Try.func43, Try.ntmps43
    go_upto_region 2 with (go_at_call 12; (with_reducible refine HP.out.mono ?_); rintro e w9 ⟨A9, c9, rfl, hs9, hn9, hc9, hb9, hin9⟩; unfold LEnd.val; have HB9 := Lib.hid hb9; have HS9 := Lib.hid hs9; have HN9 := Lib.hid hn9; have HC9 := Lib.hid hc9; have HI9 := Lib.hid hin9; have HL9 := Lib.hid (HL.out.later hb9); clear hs9 hn9 hc9 hb9 hin9)
    obtain ⟨V, hV⟩ : ∃ V, V = w9.alloc (.cells #[.int .i64 y.ep, .int .i64 y.ot, .int .i64 y.fi, .slice A9 y.out.length c9, .int .i64 y.wa] 24) := ⟨_, rfl⟩
    have hb1 := below_one w9 (.cells #[.int .i64 y.ep, .int .i64 y.ot, .int .i64 y.fi, .slice A9 y.out.length c9, .int .i64 y.wa] 24)
    have HYb : Hid (V.heap[w9.heap.size]? = some (.cells #[.int .i64 y.ep, .int .i64 y.ot, .int .i64 y.fi, .slice A9 y.out.length c9, .int .i64 y.wa] 24 (0, 0))) := Lib.hid (by rw [hV]; exact heap_new _ _)
    rw [← hV] at hb1 ⊢
    have HV := Lib.hid hV
    have HB1 := Lib.hid hb1
    have HLV := Lib.hid (HL9.out.later hb1)
    clear hV hb1
    have y0 : V.cell? ⟨w9.heap.size, 0, none⟩ = some (.int .i64 y.ep) := by rw [Lib.cell_of_heap HYb.out]; rfl
    have y1 : V.cell? ⟨w9.heap.size, 1, none⟩ = some (.int .i64 y.ot) := by rw [Lib.cell_of_heap HYb.out]; rfl
    have y2 : V.cell? ⟨w9.heap.size, 2, none⟩ = some (.int .i64 y.fi) := by rw [Lib.cell_of_heap HYb.out]; rfl
    have y3 : V.cell? ⟨w9.heap.size, 3, none⟩ = some (.slice A9 y.out.length c9) := by rw [Lib.cell_of_heap HYb.out]; rfl
    have y4 : V.cell? ⟨w9.heap.size, 4, none⟩ = some (.int .i64 y.wa) := by rw [Lib.cell_of_heap HYb.out]; rfl
    clear x0 x1 x2 x3 x4
    have x0 := HLV.out.cell 5
    have x1 := HLV.out.cell 6
    have x2 := HLV.out.cell 7
    have x3 := HLV.out.cell 8
    have x4 := HLV.out.cell 9
    rw [show (lnCells l m)[5]? = some (.int .i64 (l.st 1).x.ep) from rfl] at x0
    rw [show (lnCells l m)[6]? = some (.int .i64 (l.st 1).x.ot) from rfl] at x1
    rw [show (lnCells l m)[7]? = some (.int .i64 (l.st 1).x.fi) from rfl] at x2
    rw [show (lnCells l m)[8]? = some (.slice (m.A 1) (l.st 1).x.out.length (m.c 1)) from rfl] at x3
    rw [show (lnCells l m)[9]? = some (.int .i64 (l.st 1).x.wa) from rfl] at x4
    have xf := HLV.out.fr
    go_region
    go_upto_region 3 with fail
    clear x0 x1 x2 x3 x4 y0 y1 y2 y3 y4 xf
    have HL1 := Lib.hid ((HLV.out.setEnd (i := 1) (by omega) y A9 c9 (HS9.out.next HB1.out) HN9.out HC9.out (fun a ha => Nat.lt_of_lt_of_le (HI9.out a ha).2 HB1.out.size) (fun k g a hk e1 e2 => by have := (HL.out.row_lt hk e1).2; have := (HI9.out a e2).1; omega) 5 6 7 8 9 ⟨rfl, rfl, rfl, rfl, rfl⟩).later (Below.refl _ _).drew)
    have HB2 := Lib.hid ((below_endSet (HB9.out.trans (HB1.out.mono HB9.out.size) |>.mono (Nat.le_of_lt hHlt)) (Nat.le_refl H) 5 6 7 8 9 y A9 c9).drew)
    have hBX : B ≤ (endSet V H 5 6 7 8 9 y A9 c9).drew.heap.size := by rw [drew_size, endSet_size]; have := HB1.out.size; have := HB9.out.size; omega
    unfold endSet at HL1 HB2 hBX
    generalize hX : (((((V.setCell ⟨H, 5, none⟩ (.int .i64 y.ep)).setCell ⟨H, 6, none⟩ (.int .i64 y.ot)).setCell ⟨H, 7, none⟩ (.int .i64 y.fi)).setCell ⟨H, 8, none⟩ (.slice A9 y.out.length c9)).setCell ⟨H, 9, none⟩ (.int .i64 y.wa)).drew = X at HL1 HB2 hBX ⊢
    clear hX HYb HV HB1 HLV HS9 HN9 HC9 HI9 HL9 HB9 HP HO1 HO2 HO3 HXX
    obtain ⟨A0, c0, hv⟩ := own_form15Q (HL1.out.put 1 (by omega))
    have hv' : m.v 2 = .slice A0 (setS l.st 1 ⟨y, (l.st 1).put, (l.st 1).came⟩ 1).put.length c0 := hv
    rw [setS_at] at hv'
    have hOw := HL1.out.put 1 (by omega)
    rw [show (⟨updN m.A 1 A9, updN m.c 1 c9, m.v⟩ : LnM).v (1 + 1) = m.v 2 from rfl, hv'] at hOw
    dsimp only at hOw
    rw [setS_at] at hOw
    have HOd := Lib.hid (own_drew hOw)
    have hcell := HL1.out.cell 12
    have hfr := HL1.out.fr 12
    have hHX := HL1.out.lt
    rw [show (lnCells ⟨setS l.st 1 ⟨y, (l.st 1).put, (l.st 1).came⟩, l.net⟩ ⟨updN m.A 1 A9, updN m.c 1 c9, m.v⟩)[12]? = some (m.v 2) from rfl, hv'] at hcell
    have HMv := Lib.hid hv'
    clear hOw hv hv'
    dsimp only at HOd hcell HMv
    obtain ⟨np, hnp⟩ : ∃ np, (l.st 1).put.length = np := ⟨_, rfl⟩
    rw [hnp] at HOd hcell hp HMv
    have HNp := Lib.hid hnp
    clear hnp
    obtain ⟨i0, hi0, hz0, hz1, hz2⟩ := info_parts Try.infoStr
    have hfit : np + 1 ≤ maxLen := by unfold maxLen; omega
    have hfit2 : (np + 1) * 16 ≤ 140737488355328 := by omega
    have HLd := Lib.hid (HL1.out.later ((Below.refl X.heap.size X).drew.alloc (Nat.le_refl _) (.cells #[.string (str p)] 9)))
    obtain ⟨M, hM⟩ : ∃ M : LnM, (⟨updN m.A 1 A9, updN m.c 1 c9, m.v⟩ : LnM) = M := ⟨_, rfl⟩
    have hMv : M.v 2 = .slice A0 np c0 := by rw [← hM]; exact HMv.out
    have HMV := Lib.hid hMv
    rw [hM] at HL1 HLd
    clear hM hMv HMv
    obtain ⟨L, hL⟩ : ∃ L : Line, (⟨setS l.st 1 ⟨y, (l.st 1).put, (l.st 1).came⟩, l.net⟩ : Line) = L := ⟨_, rfl⟩
    rw [hL] at HL1 HLd
    have HLL := Lib.hid hL
    clear hL
    have HRl := Lib.hid (fun q (e : (Value.slice A0 np c0).ownBlock = some q) => (HLd.out.row_lt (k := 2) (by omega) (by rw [HMV.out]; exact e)).1)
    go_region_law (refine step_append_lies _ (by rfl) (.tmp 36) (.tmp 38) 22 (by rfl) B 9 i0 (.string ⟨#[]⟩) 1 16 Try.underlying22 hi0 hz0 hz1 hz2 rfl (by decide) (.slice A0 np c0) np ((l.st 1).put.map txt) (by rfl) (HOd.out.alloc _) ⟨X.heap.size, 0, none⟩ 1 1 [.string (str p)] (by rfl) (by rfl) (cell_one15 _ _ _) (by simp [Value.oneCell']) (by omega) hfit hfit2 (by simp; omega) (X.heap.size + 1) (by simp) ?_; intro g cap w6 hown hg hat hltg; have HH6 : Hid (w6.heap[H]? = some (.cells (lnCells L M) 61 (0, 0))) := Lib.hid ((hg.block H HLd.out.lt (fun e => by have := HRl.out H e.symm; have := HLd.out.lo; omega)).trans HLd.out.blk); have HOw6 := Lib.hid hown; have HG6 := Lib.hid hg; have HAt6 := Lib.hid hat; clear hown hg hat hltg; have xp := Lib.cell_of_heap HH6.out 12; have xfp := Lib.frozen_of_heap HH6.out 12; rw [show (lnCells L M)[12]? = some (M.v 2) from rfl, HMV.out] at xp)
    all_goals
      clear xp xfp hcell hfr
      have hb6 : Below H w w6 := (HB2.out.drew.alloc (Nat.le_of_lt hHX) _).grown HG6.out (by simp; omega) (fun q hq => by have := HRl.out q hq; have := HLd.out.lo; omega)
      have h6 := HLd.out
      rw [← HLL.out] at h6
      have HL6 := Lib.hid (h6.put_ (i := 1) (k := 12) (w' := w6) (u := .slice (some ⟨g, 0, none⟩) (np + 1) cap) (by omega) p (by show World.grownBy _ w6 (M.v 2).ownBlock; rw [HMV.out]; exact HG6.out) (fun q hq => by
        show (M.v 2).ownBlock = some q ∨ _
        rw [HMV.out]
        have hq' : g = q := by simpa [Value.ownBlock] using hq
        subst hq'
        rcases HAt6.out with e | e
        · exact .inl e
        · right; rw [e]; simp) (by rw [HNp.out]) rfl HOw6.out rfl)
      clear h6
      have HB6 := Lib.hid (hb6.setCell (p := ⟨H, 12, none⟩) (Nat.le_refl _) (.slice (some ⟨g, 0, none⟩) (np + 1) cap))
      have hs6 : B ≤ (w6.setCell ⟨H, 12, none⟩ (.slice (some ⟨g, 0, none⟩) (np + 1) cap)).heap.size := by have := HG6.out.size; simp [World.setCell] at this ⊢; omega
      have hsd := send_any HL6.out hl hs6 ⟨1 - 1, putS x p, false⟩
      dsimp only at hsd
      rw [show (((1 - 1 : Nat)) : Int) = 0 from by decide] at hsd
      have HSd := Lib.hid hsd
      clear hsd
      generalize w6.setCell ⟨H, 12, none⟩ (.slice (some ⟨g, 0, none⟩) (np + 1) cap) = W6 at HL6 HB6 HSd ⊢
      go_wp2_with (go_at_call 27; (with_reducible refine HSd.out.mono ?_); rintro e W7 ⟨rfl, hL7, hB7⟩)
      go_end0
      exact ⟨rfl, by rw [HE.out]; exact hL7, HB6.out.trans hB7⟩
  · have HE : Hid (l.puts 1 p = l) := Lib.hid (by unfold Line.puts; rw [HXX.out, if_neg he])
    have HP := Lib.hid (LPut_no x A c p w HO1.out HXO.out he)
    unfold LEnd.val at HP
    have HNE := Lib.hid he
    clear he
    go_enter Try.func43, Try.ntmps43
    have hqe : (putE15 x p == 0) = false := by rw [beq_eq_false_iff_ne]; exact HNE.out
    go_wp2_with (go_at_call 12; (with_reducible refine HP.out.mono ?_); rintro e w9 ⟨v, rfl, A9, c9, rfl, hs9, hn9, hc9, hb9⟩; rw [none_val15]; have HB9 := Lib.hid hb9; clear hs9 hn9 hc9 hb9)
    go_end0
    have hb8 := below_next HB9.out (below_one w9 (.cells #[.int .i64 0, .int .i64 0, .int .i64 0, .slice A9 0 c9, .int .i64 0] 24))
    exact ⟨rfl, ⟨m, by rw [HE.out]; exact HL.out.later hb8⟩, hb8.mono (Nat.le_of_lt hHlt)⟩
end Go.Proofs.Ytdhmkcomngbmaaa
