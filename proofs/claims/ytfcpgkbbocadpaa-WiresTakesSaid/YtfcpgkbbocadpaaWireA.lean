/- Packets in transit: plain (what is few, what is right, what a list is with a place replaced), and in memory: a packet lies as two cells. No function of the program but for the table of types. -/
import Derived.Test.YtfcpgkbbocadpaaRows
import Derived.WalkKit
import Derived.WalkSpells
import Derived.WalkLawsBesides
import Derived.Lib.Hide
import Derived.PlainAid
import Derived.Deep.OwnRows
import Derived.Deep.MidRow
import Derived.Deep.AppendLies
import Derived.Deep.RegionHeld3
import Derived.Deep.QuietTactic
import Derived.BigQuiet
import Derived.Great.BuildSlice
import Derived.Deep.LoopGhost
import Derived.Deep.Cut
import Derived.Deep.CutRange
import Derived.Deep.CutBlock
import Derived.Test.YtfcpgkbbocadpaaPlain
import Derived.Test.YtfcpgkbbocadpaaMem
namespace Go.Proofs.Ytfcpgkbbocadpaa
open Go.RowKit

/-- A packet. -/
structure WPk where
  to_ : Int
  s : List UInt8
deriving DecidableEq
def totalW : List WPk → Nat
  | [] => 0
  | p :: l => p.s.length + totalW l
theorem totalW_append (a b : List WPk) : totalW (a ++ b) = totalW a + totalW b := by
  induction a with
  | nil => simp [totalW]
  | cons p a ih => simp [totalW, ih]; omega
theorem totalW_take {l : List WPk} {k : Nat} (h : k < l.length) : totalW (l.take (k + 1)) = totalW (l.take k) + l[k].s.length := by
  rw [List.take_succ_eq_append_getElem h, totalW_append]; rfl
/-- Few and short enough to be gone through. -/
def FewW (l : List WPk) : Prop := ∀ k (h : k < l.length), k ≤ 300 ∧ l[k].s.length ≤ 5000 ∧ totalW (l.take (k + 1)) ≤ 20000
open Classical in
noncomputable def fewW (l : List WPk) : Bool := decide (FewW l)
open Classical in
theorem fewW_not {l : List WPk} {k : Nat} (h : k < l.length) (hn : ¬ (k ≤ 300 ∧ l[k].s.length ≤ 5000 ∧ totalW (l.take (k + 1)) ≤ 20000)) : fewW l = false := by
  unfold fewW
  exact decide_eq_false (fun e => hn (e k h))
open Classical in
theorem fewW_yes {l : List WPk} (h : FewW l) : fewW l = true := by unfold fewW; exact decide_eq_true h
open Classical in
theorem fewW_is {l : List WPk} (h : fewW l = true) : l.length ≤ 301 ∧ ∀ p ∈ l, p.s.length ≤ 5000 := by
  unfold fewW at h
  have h := of_decide_eq_true h
  refine ⟨?_, fun p hp => ?_⟩
  · by_cases e : l.length ≤ 301
    · exact e
    · have := (h 301 (by omega)).1; omega
  · obtain ⟨i, hi, rfl⟩ := List.getElem_of_mem hp
    exact (h i hi).2.1
/-- A packet that may be in transit. -/
def okW (p : WPk) : Bool := decide (0 ≤ p.to_ ∧ p.to_ ≤ 1 ∧ p.s.length ≤ 4103)
theorem okW_iff (p : WPk) : okW p = true ↔ 0 ≤ p.to_ ∧ p.to_ ≤ 1 ∧ p.s.length ≤ 4103 := by unfold okW; simp
theorem okW_not {p : WPk} : okW p = false ↔ ¬ (0 ≤ p.to_ ∧ p.to_ ≤ 1 ∧ p.s.length ≤ 4103) := by unfold okW; simp
def rightW (l : List WPk) : Bool := decide (l.length ≤ 256) && l.all okW
theorem rightW_len {l : List WPk} (h : rightW l = true) : l.length ≤ 256 := by unfold rightW at h; simp at h; exact h.1
theorem rightW_at {l : List WPk} (h : rightW l = true) {k : Nat} (hk : k < l.length) : 0 ≤ l[k].to_ ∧ l[k].to_ ≤ 1 ∧ l[k].s.length ≤ 4103 := by
  unfold rightW at h
  rw [Bool.and_eq_true, List.all_eq_true] at h
  exact (okW_iff _).1 (h.2 _ (List.getElem_mem hk))
theorem rightW_long {l : List WPk} (h : 256 < l.length) : rightW l = false := by unfold rightW; rw [decide_eq_false (by omega)]; rfl
theorem rightW_not {l : List WPk} {k : Nat} (hk : k < l.length) (h : okW l[k] = false) : rightW l = false := by
  unfold rightW
  have : l.all okW = false := by
    rw [Bool.eq_false_iff]
    intro e
    rw [List.all_eq_true] at e
    rw [e _ (List.getElem_mem hk)] at h
    cases h
  rw [this, Bool.and_false]
theorem all_take {l : List WPk} {k : Nat} (hk : k < l.length) (h : (l.take k).all okW = true) (h2 : okW l[k] = true) : (l.take (k + 1)).all okW = true := by
  rw [List.take_succ_eq_append_getElem hk, List.all_append, h]; simp [h2]
theorem rightW_yes {l : List WPk} (h1 : l.length ≤ 256) (h : (l.take l.length).all okW = true) : rightW l = true := by
  rw [List.take_length] at h
  unfold rightW; rw [h, decide_eq_true h1]; rfl
/-- The packets, of which the one at a place is replaced by others. -/
def putW (l : List WPk) (k : Nat) (os : List WPk) : List WPk := l.take k ++ os ++ l.drop (k + 1)
/-- .. so far. -/
def putN (l : List WPk) (k : Nat) (os : List WPk) (i : Nat) : List WPk := if i ≤ k then l.take i else l.take k ++ os ++ (l.drop (k + 1)).take (i - (k + 1))
theorem putN_zero (l : List WPk) (k : Nat) (os : List WPk) : putN l k os 0 = [] := by unfold putN; rw [if_pos (by omega), List.take_zero]
theorem putN_low {l : List WPk} {k : Nat} {os : List WPk} {i : Nat} (hi : i < k) (hk : i < l.length) : putN l k os (i + 1) = putN l k os i ++ [l[i]] := by
  unfold putN; rw [if_pos (by omega), if_pos (by omega), List.take_succ_eq_append_getElem hk]
theorem putN_at (l : List WPk) (k : Nat) (os : List WPk) : putN l k os (k + 1) = putN l k os k ++ os := by
  unfold putN; rw [if_neg (by omega), if_pos (by omega), Nat.sub_self, List.take_zero, List.append_nil]
theorem putN_high {l : List WPk} {k : Nat} {os : List WPk} {i : Nat} (hi : k < i) (hk : i < l.length) : putN l k os (i + 1) = putN l k os i ++ [l[i]] := by
  unfold putN
  rw [if_neg (by omega), if_neg (by omega), show i + 1 - (k + 1) = (i - (k + 1)) + 1 from by omega]
  have h : i - (k + 1) < (l.drop (k + 1)).length := by rw [List.length_drop]; omega
  rw [List.take_succ_eq_append_getElem h, List.getElem_drop, ← List.append_assoc]
  simp [show k + 1 + (i - (k + 1)) = i from by omega]
theorem putN_all {l : List WPk} {k : Nat} (os : List WPk) (hk : k ≤ l.length) : putN l k os (l.length + 1) = putW l k os := by
  unfold putN putW
  rw [if_neg (by omega), List.take_of_length_le (l := l.drop (k + 1)) (by rw [List.length_drop]; omega)]
theorem putN_end {l : List WPk} {k i : Nat} {os : List WPk} (hi : k < i) (hk : l.length ≤ i) : putN l k os (i + 1) = putN l k os i := by
  unfold putN
  rw [if_neg (by omega), if_neg (by omega), List.take_of_length_le (l := l.drop (k + 1)) (i := i + 1 - (k + 1)) (by rw [List.length_drop]; omega), List.take_of_length_le (l := l.drop (k + 1)) (i := i - (k + 1)) (by rw [List.length_drop]; omega)]
def turnedW (s : List UInt8) (k : Nat) (by_ : UInt8) : List UInt8 := s.set k ((s.getD k 0) ^^^ by_)

/-! ### Packets in memory -/
def wpCells : List WPk → List Value
  | [] => []
  | p :: l => .int .i64 p.to_ :: .string (str p.s) :: wpCells l
theorem wpCells_length (l : List WPk) : (wpCells l).length = l.length * 2 := by
  induction l with
  | nil => rfl
  | cons x l ih => simp [wpCells, ih]; omega
theorem wpCells_append (a b : List WPk) : wpCells (a ++ b) = wpCells a ++ wpCells b := by
  induction a with
  | nil => rfl
  | cons x a ih => simp [wpCells, ih]
theorem wpCells_one (l : List WPk) : ∀ u ∈ wpCells l, u.oneCell' = true := by
  induction l with
  | nil => intro u hu; cases hu
  | cons x l ih =>
    intro u hu
    simp only [wpCells, List.mem_cons] at hu
    rcases hu with rfl | rfl | hu
    · rfl
    · rfl
    · exact ih u hu
theorem wpCells_at {l : List WPk} {k : Nat} (hk : k < l.length) : (wpCells l)[k * 2]? = some (.int .i64 l[k].to_) ∧ (wpCells l)[k * 2 + 1]? = some (.string (str l[k].s)) := by
  induction l generalizing k with
  | nil => simp at hk
  | cons x l ih =>
    cases k with
    | zero => exact ⟨rfl, rfl⟩
    | succ k =>
      have := ih (k := k) (by simpa using hk)
      rw [show (k + 1) * 2 = k * 2 + 1 + 1 from by omega]
      simpa [wpCells] using this
def WpAt (w : World) (B : Nat) (A : Option Addr) (l : List WPk) : Prop :=
  l = [] ∨ ∃ b off, A = some ⟨b, off, none⟩ ∧ b < B ∧ ∀ i, (h : i < l.length) → w.cell? ⟨b, off + i * 2, none⟩ = some (.int .i64 l[i].to_) ∧ w.cell? ⟨b, off + i * 2 + 1, none⟩ = some (.string (str l[i].s))
theorem WpAt.at_ {w w' : World} {B : Nat} {A : Option Addr} {l : List WPk} (h : WpAt w B A l) (hb : Below B w w') {i : Nat} (hi : i < l.length) :
    ∃ b off, A = some ⟨b, off, none⟩ ∧ b < B ∧ w'.cell? ⟨b, off + i * 2, none⟩ = some (.int .i64 l[i].to_) ∧ w'.cell? ⟨b, off + i * 2 + 1, none⟩ = some (.string (str l[i].s)) := by
  rcases h with rfl | ⟨b, off, hA, hlt, hc⟩
  · simp at hi
  · obtain ⟨h1, h2⟩ := hc i hi
    exact ⟨b, off, hA, hlt, (hb.cell (p := ⟨b, off + i * 2, none⟩) hlt).trans h1, (hb.cell (p := ⟨b, off + i * 2 + 1, none⟩) hlt).trans h2⟩
theorem WpAt.below {w w' : World} {B : Nat} {A : Option Addr} {l : List WPk} (h : WpAt w B A l) (hb : Below B w w') : WpAt w' B A l := by
  rcases h with h | ⟨b, off, hA, hlt, hc⟩
  · exact .inl h
  · exact .inr ⟨b, off, hA, hlt, fun i hi => ⟨(hb.cell (p := ⟨b, off + i * 2, none⟩) hlt).trans (hc i hi).1, (hb.cell (p := ⟨b, off + i * 2 + 1, none⟩) hlt).trans (hc i hi).2⟩⟩
theorem WpAt.more {w : World} {B B' : Nat} {A : Option Addr} {l : List WPk} (h : WpAt w B A l) (hB : B ≤ B') : WpAt w B' A l := by
  rcases h with h | ⟨b, off, hA, hlt, hc⟩
  · exact .inl h
  · exact .inr ⟨b, off, hA, by omega, hc⟩
theorem WpAt.next {w w' : World} {A : Option Addr} {l : List WPk} (h : WpAt w w.heap.size A l) (hb : Below w.heap.size w w') : WpAt w' w'.heap.size A l := (h.below hb).more hb.size
theorem WpAt.of_lies {w : World} {B : Nat} {A : Option Addr} {l : List WPk} (h : Lies w B A (wpCells l)) : WpAt w B A l := by
  rcases h with h | ⟨b, off, hA, hlt, hc⟩
  · have := wpCells_length l
    rw [h] at this
    exact .inl (List.eq_nil_of_length_eq_zero (by simp at this; omega))
  · refine .inr ⟨b, off, hA, hlt, fun i hi => ?_⟩
    have hl := wpCells_length l
    obtain ⟨g1, g2⟩ := wpCells_at hi
    refine ⟨?_, ?_⟩
    · rw [hc (i * 2) (by omega)]
      rw [List.getElem?_eq_getElem (by omega)] at g1
      exact g1
    · rw [Nat.add_assoc, hc (i * 2 + 1) (by omega)]
      rw [List.getElem?_eq_getElem (by omega)] at g2
      exact g2
theorem WpAt.lies {w : World} {B : Nat} {A : Option Addr} {l : List WPk} (h : WpAt w B A l) : Lies w B A (wpCells l) := by
  rcases h with h | ⟨b, off, hA, hlt, hc⟩
  · exact .inl (by rw [h]; rfl)
  · refine .inr ⟨b, off, hA, hlt, fun i hi => ?_⟩
    have hl := wpCells_length l
    have hk : i / 2 < l.length := by omega
    obtain ⟨g1, g2⟩ := wpCells_at hk
    obtain ⟨c1, c2⟩ := hc (i / 2) hk
    rcases Nat.mod_two_eq_zero_or_one i with e | e
    · have e2 : i = i / 2 * 2 := by omega
      rw [← e2] at g1 c1
      rw [c1]
      rw [List.getElem?_eq_getElem hi] at g1
      exact g1.symm
    · have e2 : i = i / 2 * 2 + 1 := by omega
      rw [← e2] at g2
      rw [Nat.add_assoc, ← e2] at c2
      rw [c2]
      rw [List.getElem?_eq_getElem hi] at g2
      exact g2.symm
/-- A part of the packets. -/
theorem WpAt.part {w : World} {B b off : Nat} {l : List WPk} (h : WpAt w B (some ⟨b, off, none⟩) l) (i n : Nat) : WpAt w B (some ⟨b, off + i * 2, none⟩) ((l.drop i).take n) := by
  rcases h with h | ⟨b', off', hA, hlt, hc⟩
  · exact .inl (by rw [h]; simp)
  · simp only [Option.some.injEq, Addr.mk.injEq, and_true] at hA
    obtain ⟨rfl, rfl⟩ := hA
    refine .inr ⟨b, off + i * 2, rfl, hlt, fun j hj => ?_⟩
    have hj2 : i + j < l.length := by rw [List.length_take, List.length_drop] at hj; omega
    have := hc (i + j) hj2
    rw [List.getElem_take, List.getElem_drop]
    rw [show off + i * 2 + j * 2 = off + (i + j) * 2 from by omega]
    exact this
/-- What a call that hands back packets leaves. -/
def WpEnd (l : List WPk) (w : World) (e : Ending) (w' : World) : Prop :=
  ∃ A c, e = .returned (.slice A l.length c) ∧ WpAt w' w'.heap.size A l ∧ l.length ≤ c ∧ (A = none → c = 0) ∧ Below w.heap.size w w'
theorem own_endW {w0 w : World} {base : Nat} {v : Value} {l : List WPk} {t : TypeId} (h : w.ownsRow base t 2 v l.length (wpCells l)) (hb : Below w0.heap.size w0 w) : WpEnd l w0 (.returned v) w := by
  have h2 := h.2
  obtain ⟨A, c, rfl, _, hl⟩ := own_lies h
  refine ⟨A, c, rfl, WpAt.of_lies hl, ?_, ?_, hb⟩
  · rcases h2 with ⟨h2, h3⟩ | ⟨g, cap, cur, h2, _, _, hn, _⟩
    · rw [h3]; exact Nat.zero_le _
    · simp only [Value.slice.injEq] at h2
      obtain ⟨_, _, rfl⟩ := h2
      exact hn
  · rintro rfl
    rcases h2 with ⟨h2, _⟩ | ⟨g, cap, cur, h2, _⟩
    · simp only [Value.slice.injEq] at h2; exact h2.2.2
    · injection h2 with h1; cases h1

theorem grown_refl16 (w : World) (row : Option Nat) : w.grownBy w row := ⟨rfl, rfl, rfl, Nat.le_refl _, fun _ _ _ => rfl⟩
theorem wpList_append_rows16 {P : Program} {w : World} {ops : Array Oper} {rest : List Oper} {o : Oper} {a : Act} {Q : Exit → Act → World → Prop} (hgd : o.guard = none) (s x : Operand) (t : TypeId)
    (ho : o.op = .call { callee := .builtin .append, args := #[s, x], argTypes := #[t, t] })
    (base : Nat) (e : TypeId) (i : TypeInfo) (z : Value) (size bytes : Nat) (ht : P.underlying t = some (.slice e)) (hi : P.info? e = some i) (hz : i.zero = some z)
    (hsize : i.size = size) (hby : i.bytes = bytes) (hzs : z.cells.size = size) (hsz : 0 < size)
    (v : Value) (n : Nat) (xs : List Value) (hs : a.eval s = v) (hown : w.ownsRow base e size v n xs)
    (A : Option Addr) (m c : Nat) (news : List Value) (hx : a.eval x = .slice A m c) (hl : news.length = m * size) (B : Nat) (hlies : Lies w B A news) (hnil : A = none → c = 0) (h1 : ∀ u ∈ news, u.oneCell' = true)
    (h63 : n + m ≤ maxLen) (hbytes : (n + m) * bytes ≤ 140737488355328) (hbase : base ≤ w.heap.size)
    (h : ∀ v' w', w'.ownsRow base e size v' (n + m) (xs ++ news) → w.grownBy w' v.ownBlock → wpList P ops Q rest (a.put o.dst v') w') : wpList P ops Q (o :: rest) a w := by
  cases A with
  | none =>
    have hne : news = [] := by
      rcases hlies with h | ⟨b, off, hA, _⟩
      · exact h
      · cases hA
    subst hne
    have hm0 : m = 0 := by
      have : m * size = 0 := by simpa using hl.symm
      rcases Nat.mul_eq_zero.1 this with h | h
      · exact h
      · omega
    subst hm0
    have hc := hnil rfl
    subst hc
    have hrun := run_append_owned_none (P := P) (w := w) base t o.type e i size ht hi v n xs hown
    refine wpList_plain hgd fun K hK => ?_
    unfold Oper.wp
    simp [execOp, ho, resolve, invoke, builtin, hs, hx, hrun, Result.andThen]
    exact hK _ _ (h v w (by simpa using hown) (grown_refl16 _ _))
  | some ad =>
    refine wpList_append_own w hgd s x t ho base e i z size bytes ht hi hz hsize hby hzs hsz v n xs hs hown ad m c news hx hl ?_ h1 h63 hbytes hbase (fun v' w' h2 h3 _ => h v' w' h2 h3)
    intro j u hu
    rcases hlies with h | ⟨b, off, hA, _, hc⟩
    · rw [h] at hu; simp at hu
    · cases hA
      obtain ⟨hj1, hj2⟩ := List.getElem?_eq_some_iff.1 hu
      rw [WideShapes.add_plain, hc j hj1, hj2]
end Go.Proofs.Ytfcpgkbbocadpaa
