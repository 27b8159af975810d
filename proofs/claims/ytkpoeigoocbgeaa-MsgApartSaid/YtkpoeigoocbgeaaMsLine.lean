/- Lines for messages: of stage 11's texts what the contracts of the document's Equal, Right and Placed need (slice.py). -/
import Derived.Test.YtkpoeigoocbgeaaRows
import Derived.Test.YtkpoeigoocbgeaaPlain
import Derived.Test.YtkpoeigoocbgeaaMem
import Derived.Test.YtkpoeigoocbgeaaLineP
import Derived.WalkKit
import Derived.WalkSpells
import Derived.WalkLawsBesides
import Derived.Lib.Hide
import Derived.PlainAid
import Derived.Deep.OwnRows
import Derived.Deep.MidRow
import Derived.Deep.AppendLies
import Derived.Deep.RegionHeld3
import Derived.Deep.QuietTactic
import Derived.BigQuiet
import Derived.Great.BuildSlice
import Derived.Deep.LoopGhost
namespace Go.Proofs.Ytkpoeigoocbgeaa
open Go.RowKit
def BrsAt (w : World) (B : Nat) (A : Option Addr) (ms : List Br) : Prop :=
  ms = [] ∨ ∃ b off, A = some ⟨b, off, none⟩ ∧ b < B ∧ ∀ i, (h : i < ms.length) → w.cell? ⟨b, off + i * 2, none⟩ = some (.int .i64 ms[i].1) ∧ w.cell? ⟨b, off + i * 2 + 1, none⟩ = some (.int .i64 ms[i].2)

theorem BrsAt.at_ {w w' : World} {B : Nat} {A : Option Addr} {ms : List Br} (h : BrsAt w B A ms) (hb : Below B w w') {i : Nat} (hi : i < ms.length) :
    ∃ b off, A = some ⟨b, off, none⟩ ∧ b < B ∧ w'.cell? ⟨b, off + i * 2, none⟩ = some (.int .i64 ms[i].1) ∧ w'.cell? ⟨b, off + i * 2 + 1, none⟩ = some (.int .i64 ms[i].2) := by
  rcases h with rfl | ⟨b, off, hA, hlt, hc⟩
  · simp at hi
  · obtain ⟨h1, h2⟩ := hc i hi
    exact ⟨b, off, hA, hlt, (hb.cell (p := ⟨b, off + i * 2, none⟩) hlt).trans h1, (hb.cell (p := ⟨b, off + i * 2 + 1, none⟩) hlt).trans h2⟩

theorem BrsAt.below {w w' : World} {B : Nat} {A : Option Addr} {ms : List Br} (h : BrsAt w B A ms) (hb : Below B w w') : BrsAt w' B A ms := by
  rcases h with h | ⟨b, off, hA, hlt, hc⟩
  · exact .inl h
  · exact .inr ⟨b, off, hA, hlt, fun i hi => ⟨(hb.cell (p := ⟨b, off + i * 2, none⟩) hlt).trans (hc i hi).1, (hb.cell (p := ⟨b, off + i * 2 + 1, none⟩) hlt).trans (hc i hi).2⟩⟩

theorem BrsAt.more {w : World} {B B' : Nat} {A : Option Addr} {ms : List Br} (h : BrsAt w B A ms) (hB : B ≤ B') : BrsAt w B' A ms := by
  rcases h with h | ⟨b, off, hA, hlt, hc⟩
  · exact .inl h
  · exact .inr ⟨b, off, hA, by omega, hc⟩

theorem BrsAt.next {w w' : World} {A : Option Addr} {ms : List Br} (h : BrsAt w w.heap.size A ms) (hb : Below w.heap.size w w') : BrsAt w' w'.heap.size A ms := (h.below hb).more hb.size

def brCells : List Br → List Value
  | [] => []
  | x :: ms => .int .i64 x.1 :: .int .i64 x.2 :: brCells ms

theorem brCells_length (ms : List Br) : (brCells ms).length = ms.length * 2 := by
  induction ms with
  | nil => rfl
  | cons x ms ih => simp [brCells, ih]; omega

theorem brCells_append (a b : List Br) : brCells (a ++ b) = brCells a ++ brCells b := by
  induction a with
  | nil => rfl
  | cons x a ih => simp [brCells, ih]

theorem brCells_at {ms : List Br} {k : Nat} (hk : k < ms.length) : (brCells ms)[k * 2]? = some (.int .i64 ms[k].1) ∧ (brCells ms)[k * 2 + 1]? = some (.int .i64 ms[k].2) := by
  induction ms generalizing k with
  | nil => simp at hk
  | cons x ms ih =>
    cases k with
    | zero => exact ⟨rfl, rfl⟩
    | succ k =>
      have := ih (k := k) (by simpa using hk)
      rw [show (k + 1) * 2 = k * 2 + 1 + 1 from by omega]
      simpa [brCells] using this

theorem BrsAt.of_lies {w : World} {B : Nat} {A : Option Addr} {ms : List Br} (h : Lies w B A (brCells ms)) : BrsAt w B A ms := by
  rcases h with h | ⟨b, off, hA, hlt, hc⟩
  · have := brCells_length ms
    rw [h] at this
    exact .inl (List.eq_nil_of_length_eq_zero (by simp at this; omega))
  · refine .inr ⟨b, off, hA, hlt, fun i hi => ?_⟩
    have hl := brCells_length ms
    obtain ⟨g1, g2⟩ := brCells_at hi
    refine ⟨?_, ?_⟩
    · rw [hc (i * 2) (by omega)]
      rw [List.getElem?_eq_getElem (by omega)] at g1
      exact g1
    · rw [Nat.add_assoc, hc (i * 2 + 1) (by omega)]
      rw [List.getElem?_eq_getElem (by omega)] at g2
      exact g2

/-- What a call that hands back branches leaves. -/
def BrsEnd1 (ms : List Br) (w : World) (e : Ending) (w' : World) : Prop :=
  ∃ A c, e = .returned (.slice A ms.length c) ∧ BrsAt w' w'.heap.size A ms ∧ Below w.heap.size w w'

theorem own_endBr {w0 w : World} {base : Nat} {v : Value} {ms : List Br} {t : TypeId} (h : w.ownsRow base t 2 v ms.length (brCells ms)) (hb : Below w0.heap.size w0 w) : BrsEnd1 ms w0 (.returned v) w := by
  obtain ⟨A, c, rfl, _, hl⟩ := own_lies h
  exact ⟨A, c, rfl, BrsAt.of_lies hl, hb⟩

theorem take_eq_stepL {α : Type} {a b : List α} {k : Nat} (h : a.take k = b.take k) (h1 : k < a.length) (h2 : k < b.length) (he : a[k] = b[k]) : a.take (k + 1) = b.take (k + 1) := by
  rw [List.take_succ_eq_append_getElem h1, List.take_succ_eq_append_getElem h2, h, he]

theorem take_eq_allL {α : Type} {a b : List α} {k : Nat} (h : a.take k = b.take k) (h1 : a.length ≤ k) (h2 : b.length ≤ k) : a = b := by
  rwa [List.take_of_length_le h1, List.take_of_length_le h2] at h

theorem ne_atL {α : Type} {a b : List α} {k : Nat} (h1 : k < a.length) (h2 : k < b.length) (h : a[k] ≠ b[k]) : a ≠ b := by
  intro e; subst e; exact h rfl

def sameBr (x y : Br) : Bool := (x.1 == y.1) && (x.2 == y.2)

theorem sameB_self (x : Br) : sameBr x x = true := by simp [sameBr]

theorem sameB_ne {x y : Br} (h : x ≠ y) : sameBr x y = false := by
  rw [Bool.eq_false_iff]
  intro e
  simp only [sameBr, Bool.and_eq_true, beq_iff_eq] at e
  exact h (Prod.ext e.1 e.2)

set_option maxRecDepth 100000 in
theorem eqlIn_br (x y : Br) (w : World) : (Op.equalIn 10000 76 (.agg #[.int .i64 x.1, .int .i64 x.2]) (.agg #[.int .i64 y.1, .int .i64 y.2])).run Try.prog w = .ok (sameBr x y) w := by
  rw [run_equalIn_struct w 9999 76 _ _ (by kernel_rfl) (by kernel_rfl)]
  have hf : (Try.prog.fieldsOf 76).toList.map (fun f => (f.name, f.type, f.offset)) = [("Epoch", 3, 0), ("At", 3, 1)] := by kernel_rfl
  obtain ⟨fs, hfs⟩ : ∃ fs, (Try.prog.fieldsOf 76).toList = fs := ⟨_, rfl⟩
  rw [hfs] at hf ⊢
  match fs, hf with
  | [f1, f2], hf =>
    simp only [List.map_cons, List.map_nil, List.cons.injEq, Prod.mk.injEq, and_true] at hf
    obtain ⟨⟨a1, a2, a3⟩, ⟨b1, b2, b3⟩⟩ := hf
    simp only [Op.eqFields, a1, a2, a3, b1, b2, b3]
    have q1 := run_equalIn_int (P := Try.prog) w 9998 3 .i64 .i64 x.1 y.1 Try.underlying3
    have q2 := run_equalIn_int (P := Try.prog) w 9998 3 .i64 .i64 x.2 y.2 Try.underlying3
    unfold sameBr
    cases h1 : x.1 == y.1 <;> rw [h1] at q1 <;> cases h2 : x.2 == y.2 <;> rw [h2] at q2 <;> simp [part, q1, q2, Try.isAgg3, Sem.run_bind, Result.andThen]

theorem neq_br (x y : Br) (w : World) : (binOp .neq 76 (.agg #[.int .i64 x.1, .int .i64 x.2]) (.agg #[.int .i64 y.1, .int .i64 y.2])).run Try.prog w = .ok (.bool (!sameBr x y)) w := by
  rw [run_neq_struct, eqlIn_br]; rfl

theorem guard_br (op : BinOp) (x y : Operand) (xs ys : Array Value) (w : World) : (eqGuard op 76 x y (.agg xs) (.agg ys)).run Try.prog w = .ok () w := run_eqGuard_agg w op _ x y xs ys (by kernel_rfl)

def eqBr (a b : List Br) : Bool := decide (a = b)

theorem eqBr_self (a : List Br) : eqBr a a = true := by simp [eqBr]

theorem eqBr_ne {a b : List Br} (h : a ≠ b) : eqBr a b = false := by simp [eqBr, h]

set_option maxHeartbeats 2000000 in
set_option maxRecDepth 100000 in
theorem DocEqualL_any {w : World} {A1 A2 : Option Addr} {c1 c2 : Nat} {xs ys : List Br} (h1 : BrsAt w w.heap.size A1 xs) (h2 : BrsAt w w.heap.size A2 ys) (hl1 : xs.length ≤ 9223372036854775807) :
    Calls Try.prog 15 #[.slice A1 xs.length c1, .slice A2 ys.length c2] w fun e w' => e = .returned (.bool (eqBr xs ys)) ∧ Below w.heap.size w w' := by
  by_cases hlen : xs.length = ys.length
  · have H1 := Lib.hid h1
    have H2 := Lib.hid h2
    have mixed : Try.prog.follows .mixedOrders = true := by kernel_rfl
    obtain ⟨n, hn⟩ : ∃ n, xs.length = n := ⟨_, rfl⟩
    have HN1 := Lib.hid hn
    have HN2 : Hid (ys.length = n) := Lib.hid (by rw [← hlen]; exact hn)
    rw [← hlen, hn]
    rw [hn] at hl1
    clear h1 h2 hn hlen
    go_enter Try.func15, Try.ntmps15
    go_wp2
    go_loopg [5] n (fun kx i wr => ∃ k : Nat, k ≤ n ∧ n - k ≤ kx ∧ i = .int .i64 k ∧ Hid (xs.take k = ys.take k) ∧ Hid (Below w.heap.size w wr))
    case atStart => exact ⟨0, Nat.zero_le _, by omega, rfl, Lib.hid (by simp), Lib.hid (Below.refl _ _)⟩
    case round =>
      obtain ⟨k, hk, hkx, rfl, HK, HB⟩ := hrel
      by_cases hlt : k < n
      · have hk1 : k < xs.length := by rw [HN1.out]; exact hlt
        have hk2 : k < ys.length := by rw [HN2.out]; exact hlt
        obtain ⟨b1, o1, hA1, _, x1, x2⟩ := H1.out.at_ HB.out hk1
        obtain ⟨b2, o2, hA2, _, y1, y2⟩ := H2.out.at_ HB.out hk2
        subst hA1
        subst hA2
        have HNo : Hid (xs[k] ≠ ys[k] → eqBr xs ys = false) := Lib.hid (fun h => eqBr_ne (ne_atL hk1 hk2 h))
        have HYes : Hid (xs[k] = ys[k] → xs.take (k + 1) = ys.take (k + 1)) := Lib.hid (fun h => take_eq_stepL HK.out hk1 hk2 h)
        obtain ⟨u, hu⟩ : ∃ u, xs[k] = u := ⟨_, rfl⟩
        obtain ⟨v, hv⟩ : ∃ v, ys[k] = v := ⟨_, rfl⟩
        rw [hu] at x1 x2 HNo HYes
        rw [hv] at y1 y2 HNo HYes
        clear hu hv hk1 hk2 HK
        obtain ⟨i1, j1⟩ := u
        obtain ⟨i2, j2⟩ := v
        simp only at x1 x2 y1 y2
        have hk0 : (0 : Int) ≤ (k : Int) := Int.natCast_nonneg _
        have hk8 : (k : Int) < (n : Int) := by omega
        have hne := neq_br (i1, j1) (i2, j2)
        have hgd := guard_br
        simp only at hne
        by_cases he : ((i1, j1) : Br) = (i2, j2)
        · have HE := Lib.hid (HYes.out he)
          rw [he, sameB_self] at hne
          simp only [Bool.not_true] at hne
          have e1 : i1 = i2 := congrArg Prod.fst he
          have e2 : j1 = j2 := congrArg Prod.snd he
          subst e1
          subst e2
          clear he HYes HNo
          go_wp2_with fail
          go_quiet (fail)
          go_wp2_with fail
          go_roundg (n - (k + 1))
          case measure => omega
          case rel => exact ⟨k + 1, by omega, Nat.le_refl _, by go_num, HE, Lib.hid (HB.out.trans ⟨rfl, rfl, rfl, Nat.le_refl _, fun _ _ => rfl⟩)⟩
        · have HE := Lib.hid (HNo.out he)
          rw [sameB_ne he] at hne
          simp only [Bool.not_false] at hne
          clear he HYes HNo
          go_wp2_with fail
          go_quiet (fail)
          go_wp2_with fail
          go_ret
          exact ⟨by rw [HE.out]; rfl, HB.out.trans ⟨rfl, rfl, rfl, Nat.le_refl _, fun _ _ => rfl⟩⟩
      · have hltz : ¬ (k : Int) < (n : Int) := by omega
        have HE : Hid (eqBr xs ys = true) := Lib.hid (by rw [take_eq_allL HK.out (by rw [HN1.out]; omega) (by rw [HN2.out]; omega)]; exact eqBr_self _)
        go_wp2_with fail
        go_ret
        exact ⟨by rw [HE.out]; rfl, HB.out⟩
  · have hlz : ((xs.length : Int) != (ys.length : Int)) = true := by rw [bne_iff_ne]; omega
    have HE : Hid (eqBr xs ys = false) := Lib.hid (eqBr_ne (fun e => hlen (by rw [e])))
    clear h1 h2 hlen
    go_enter Try.func15, Try.ntmps15
    go_wp2
    go_ret
    exact ⟨by rw [HE.out]; rfl, Below.refl _ _⟩

theorem lastB_at {l : List Br} {k : Nat} (h : l.length = k + 1) : lastB l = l[k]'(by omega) := by
  unfold lastB
  have e : l.length - 1 = k := by omega
  rw [List.getLast?_eq_getElem?, e, List.getElem?_eq_getElem (by omega)]
  rfl

theorem lineOk_nil : lineOk [] = false := by simp [lineOk, headZero]

theorem lineOk_long {l : List Br} (h : 64 < l.length) : lineOk l = false := by
  rw [Bool.eq_false_iff]; intro e; have := ((lineOk_iff l).1 e).1; omega

theorem lineOk_head {x : Br} {r : List Br} (h : x.2 ≠ 0) : lineOk (x :: r) = false := by
  rw [Bool.eq_false_iff]; intro e; have := ((lineOk_iff _).1 e).2.1; simp [headZero] at this; exact h this

theorem drop_atL {l : List Br} {k : Nat} (h : k < l.length) : l.drop k = l[k] :: l.drop (k + 1) := List.drop_eq_getElem_cons h

theorem BrsAt.lat {w V : World} {A : Option Addr} {l : List Br} (h : BrsAt w w.heap.size A l) (hb : Below w.heap.size w V) (p : LatW V) : BrsAt p.wd p.wd.heap.size A l := (h.next hb).next p.bel

theorem lineOk_ne {l : List Br} (h : lineOk l = true) : l ≠ [] := by rintro rfl; simp [lineOk_nil] at h

theorem placedB_no {l : List Br} (h : lineOk l = false) (q : Int) : placedB l q = false := by unfold placedB; rw [h]; rfl

theorem placedB_of {l : List Br} (h : lineOk l = true) (q : Int) {b1 b2 : Bool} (h1 : decide ((lastB l).2 ≤ q) = b1) (h2 : decide (q ≤ 1099511627776) = b2) : placedB l q = (b1 && b2) := by
  unfold placedB; rw [h, ← h1, ← h2, Bool.true_and, Bool.eq_iff_iff]; simp; exact ⟨fun h => ⟨h.2, h.1⟩, fun h => ⟨h.2, h.1⟩⟩

/-- A place, boxed: its two cells. -/
structure PosBox (V : World) (H : Nat) (A : Option Addr) (n c : Nat) (q : Int) : Prop where
  c0 : ∀ p : LatW V, p.wd.cell? ⟨H, 0, none⟩ = some (.slice A n c)
  c1 : ∀ p : LatW V, p.wd.cell? ⟨H, 1, none⟩ = some (.int .i64 q)

theorem PosBox.of {V : World} {H : Nat} {A : Option Addr} {n c : Nat} {q : Int} {t : TypeId} (h : V.heap[H]? = some (.cells #[.slice A n c, .int .i64 q] t (0, 0))) : PosBox V H A n c q := by
  have hlt : H < V.heap.size := (Array.getElem?_eq_some_iff.1 h).1
  exact ⟨fun p => p.cell (by rw [Lib.cell_of_heap h]; rfl) hlt, fun p => p.cell (by rw [Lib.cell_of_heap h]; rfl) hlt⟩

/-- What the loop of the document's Right knows ahead of branch k: the branch ahead of it is (e, a). -/
structure RInv (l : List Br) (k : Nat) (e a : Int) : Prop where
  e0 : 0 ≤ e
  a0 : 0 ≤ a
  first : k = 0 → lineOk l = (headZero l && lineFrom 0 0 l) ∧ e = 0 ∧ a = 0
  later : 0 < k → lineOk l = lineFrom e a (l.drop k) ∧ l[k - 1]? = some (e, a)

theorem RInv.start {l : List Br} (h : l.length ≤ 64) : RInv l 0 0 0 := ⟨by omega, by omega, fun _ => ⟨by unfold lineOk; rw [decide_eq_true h]; rfl, rfl, rfl⟩, fun h => by omega⟩

theorem lineFrom_bad {e a : Int} {x : Br} {r : List Br} (h : ¬ (e < x.1 ∧ x.1 ≤ 1099511627776 ∧ a ≤ x.2 ∧ x.2 ≤ 1099511627776)) : lineFrom e a (x :: r) = false := by
  rw [Bool.eq_false_iff]; intro g; exact h (lineFrom_cons g).1

theorem RInv.bad {l : List Br} {k : Nat} {e a : Int} (h : RInv l k e a) (hk : k < l.length) {x : Br} (hx : l[k] = x) (hb : ¬ (e < x.1 ∧ x.1 ≤ 1099511627776 ∧ a ≤ x.2 ∧ x.2 ≤ 1099511627776)) : lineOk l = false := by
  have hd := drop_atL hk
  rw [hx] at hd
  by_cases h0 : k = 0
  · obtain ⟨h1, h2, h3⟩ := h.first h0
    subst h0
    rw [List.drop_zero] at hd
    rw [h1]
    have := lineFrom_bad (r := l.drop 1) hb
    rw [h2, h3] at this
    rw [show l = x :: l.drop 1 from hd, this, Bool.and_false]
  · rw [(h.later (by omega)).1, hd]; exact lineFrom_bad hb

theorem RInv.head {l : List Br} {e a : Int} (h : RInv l 0 e a) (hk : 0 < l.length) {x : Br} (hx : l[0] = x) (hb : ¬ x.2 = 0) : lineOk l = false := by
  cases l with
  | nil => simp at hk
  | cons y r => simp only [List.getElem_cons_zero] at hx; subst hx; exact lineOk_head hb

theorem RInv.step {l : List Br} {k : Nat} {e a : Int} (h : RInv l k e a) (hk : k < l.length) {x : Br} (hx : l[k] = x) (hb : e < x.1 ∧ x.1 ≤ 1099511627776 ∧ a ≤ x.2 ∧ x.2 ≤ 1099511627776) (h0 : k = 0 → x.2 = 0) : RInv l (k + 1) x.1 x.2 := by
  have hd := drop_atL hk
  rw [hx] at hd
  refine ⟨by have := h.e0; omega, by have := h.a0; omega, fun h => by omega, fun _ => ⟨?_, by rw [Nat.add_sub_cancel, List.getElem?_eq_getElem hk, hx]⟩⟩
  by_cases hk0 : k = 0
  · obtain ⟨h1, h2, h3⟩ := h.first hk0
    subst hk0
    rw [List.drop_zero] at hd
    rw [h1]
    have e1 : headZero l = true := by rw [hd]; simp only [headZero, beq_iff_eq]; exact h0 rfl
    rw [e1, Bool.true_and]
    have e2 : lineFrom 0 0 l = (brOk 0 0 x && lineFrom x.1 x.2 (l.drop 1)) := by
      have : lineFrom 0 0 (x :: l.drop 1) = (brOk 0 0 x && lineFrom x.1 x.2 (l.drop 1)) := rfl
      rw [← hd] at this; exact this
    rw [h2, h3] at hb
    rw [e2, (brOk_iff 0 0 x).2 hb, Bool.true_and]
  · rw [(h.later (by omega)).1, hd]
    show (brOk e a x && lineFrom x.1 x.2 (l.drop (k + 1))) = _
    rw [(brOk_iff e a x).2 hb, Bool.true_and]

theorem RInv.done {l : List Br} {k : Nat} {e a : Int} (h : RInv l k e a) (hk : l.length ≤ k) (h0 : 0 < k) : lineOk l = true := by
  rw [(h.later h0).1, List.drop_eq_nil_of_le hk]; rfl

set_option maxHeartbeats 8000000 in
set_option maxRecDepth 100000 in
theorem DRight_any {w : World} {A : Option Addr} {c : Nat} {l : List Br} (h : BrsAt w w.heap.size A l) (hl : l.length ≤ 9223372036854775807) :
    Calls Try.prog 34 #[.slice A l.length c] w fun r w' => r = .returned (.bool (lineOk l)) ∧ Below w.heap.size w w' := by
  have mixed : Try.prog.follows .mixedOrders = true := by kernel_rfl
  by_cases hz0 : l.length = 0
  · obtain rfl : l = [] := List.eq_nil_of_length_eq_zero hz0
    rw [lineOk_nil]
    clear h hl hz0
    go_enter Try.func34, Try.ntmps34
    go_wp2_with fail
    go_ret
    exact ⟨rfl, Below.refl _ _⟩
  obtain ⟨n, hn⟩ : ∃ n, l.length = n := ⟨_, rfl⟩
  have HN := Lib.hid hn
  have hn0 : 0 < n := by omega
  rw [hn] at hl ⊢
  have hz : ((n : Int) == 0) = false := by rw [beq_eq_false_iff_ne]; omega
  by_cases h64 : 64 < n
  · have hd : decide ((64 : Int) < (n : Int)) = true := by rw [decide_eq_true_iff]; omega
    have HE : Hid (lineOk l = false) := Lib.hid (lineOk_long (by omega))
    clear h hn hl h64
    go_enter Try.func34, Try.ntmps34
    go_wp2_with fail
    go_ret
    exact ⟨by rw [HE.out]; rfl, Below.refl _ _⟩
  have hd : decide ((64 : Int) < (n : Int)) = false := by rw [decide_eq_false_iff_not]; omega
  have HI0 := Lib.hid (RInv.start (l := l) (by omega))
  have H := Lib.hid h
  clear h hn hz0
  go_enter Try.func34, Try.ntmps34
  go_wp2_with fail
  go_loopg [3] n (fun kx i wr => ∃ (k : Nat) (e a : Int), k ≤ n ∧ n - k ≤ kx ∧ i = .int .i64 k ∧ Hid (RInv l k e a) ∧ Hid (Below w.heap.size w wr))
  case atStart => exact ⟨0, 0, 0, Nat.zero_le _, by omega, rfl, HI0, Lib.hid (Below.refl _ _)⟩
  case round =>
    obtain ⟨k, e, a, hk, hkx, rfl, HI, HB⟩ := hrel
    by_cases hlt2 : k < n
    · have hk1 : k < l.length := by rw [HN.out]; exact hlt2
      obtain ⟨b, off, hA, _, x1, x2⟩ := H.out.at_ HB.out hk1
      cases hA
      obtain ⟨x, hx⟩ : ∃ x, l[k] = x := ⟨_, rfl⟩
      rw [hx] at x1 x2
      have HBad := Lib.hid (HI.out.bad hk1 hx)
      have HStep := Lib.hid (HI.out.step hk1 hx)
      have HHead : Hid (k = 0 → ¬ x.2 = 0 → lineOk l = false) := Lib.hid (fun h0 h1 => by subst h0; exact HI.out.head hk1 hx h1)
      have he0 := HI.out.e0
      have ha0 := HI.out.a0
      obtain ⟨v1, v2⟩ := x
      simp only at x1 x2 HBad HStep HHead
      have hk0 : (0 : Int) ≤ (k : Int) := Int.natCast_nonneg _
      have hk8 : (k : Int) < (n : Int) := by omega
      clear hx
      cases k1 : decide (v1 < 1) with
      | true =>
        have HE : Hid (lineOk l = false) := Lib.hid (HBad.out (by have := of_decide_eq_true k1; omega))
        clear HBad HStep HHead HI
        go_wp2_with fail
        go_ret
        exact ⟨by rw [HE.out]; rfl, HB.out⟩
      | false =>
      cases k2 : decide (1099511627776 < v1) with
      | true =>
        have HE : Hid (lineOk l = false) := Lib.hid (HBad.out (by have := of_decide_eq_true k2; omega))
        clear HBad HStep HHead HI
        go_wp2_with fail
        go_ret
        exact ⟨by rw [HE.out]; rfl, HB.out⟩
      | false =>
      cases k3 : decide (v2 < 0) with
      | true =>
        have HE : Hid (lineOk l = false) := Lib.hid (HBad.out (by have := of_decide_eq_true k3; omega))
        clear HBad HStep HHead HI
        go_wp2_with fail
        go_ret
        exact ⟨by rw [HE.out]; rfl, HB.out⟩
      | false =>
      cases k4 : decide (1099511627776 < v2) with
      | true =>
        have HE : Hid (lineOk l = false) := Lib.hid (HBad.out (by have := of_decide_eq_true k4; omega))
        clear HBad HStep HHead HI
        go_wp2_with fail
        go_ret
        exact ⟨by rw [HE.out]; rfl, HB.out⟩
      | false =>
      have k1p := of_decide_eq_false k1
      have k2p := of_decide_eq_false k2
      have k3p := of_decide_eq_false k3
      have k4p := of_decide_eq_false k4
      by_cases hk00 : k = 0
      · subst hk00
        obtain ⟨rfl, rfl⟩ := (HI.out.first rfl).2
        rw [Nat.zero_mul, Nat.add_zero] at x1 x2
        by_cases hv : v2 = 0
        · have HS : Hid (RInv l (0 + 1) v1 v2) := Lib.hid (HStep.out ⟨by omega, by omega, by omega, by omega⟩ (fun _ => hv))
          subst hv
          clear HBad HStep HHead HI k1p k2p k3p k4p he0 ha0
      
          go_wp2_with fail
          go_quiet (fail)
          go_wp2_with fail
          go_roundg (n - (0 + 1))
          case measure => omega
          case rel => exact ⟨0 + 1, v1, 0, by omega, Nat.le_refl _, by go_num, HS, Lib.hid (HB.out.trans ⟨rfl, rfl, rfl, Nat.le_refl _, fun _ _ => rfl⟩)⟩
        · have HE : Hid (lineOk l = false) := Lib.hid (HHead.out rfl hv)
          have hvb : (v2 != 0) = true := by rw [bne_iff_ne]; exact hv
          clear HBad HStep HHead HI k1p k2p k3p k4p he0 ha0
          go_wp2_with fail
          go_ret
          exact ⟨by rw [HE.out]; rfl, HB.out⟩
      · obtain ⟨j, rfl⟩ : ∃ j, k = j + 1 := ⟨k - 1, by omega⟩
        have hp := (HI.out.later (by omega)).2
        rw [Nat.add_sub_cancel] at hp
        obtain ⟨hj, hpj⟩ := List.getElem?_eq_some_iff.1 hp
        obtain ⟨b2, off2, hA2, _, y1, y2⟩ := H.out.at_ HB.out hj
        cases hA2
        rw [hpj] at y1 y2
        simp only at y1 y2
        clear hp hpj
        have hj0 : (0 : Int) ≤ (j : Int) := Int.natCast_nonneg _
        have hj8 : (j : Int) + 1 < (n : Int) := by omega
        have hgt : decide ((0 : Int) < (j : Int) + 1) = true := by rw [decide_eq_true_iff]; omega
        have hnz : ((j : Int) + 1 == 0) = false := by rw [beq_eq_false_iff_ne]; omega
        cases k5 : decide (v1 ≤ e) with
        | true =>
          have HE : Hid (lineOk l = false) := Lib.hid (HBad.out (by have := of_decide_eq_true k5; omega))
          clear HBad HStep HHead HI k1p k2p k3p k4p he0 ha0
          go_wp2_with fail
          go_quiet (fail)
          go_wp2_with fail
          go_ret
          exact ⟨by rw [HE.out]; rfl, HB.out.trans ⟨rfl, rfl, rfl, Nat.le_refl _, fun _ _ => rfl⟩⟩
        | false =>
        cases k6 : decide (v2 < a) with
        | true =>
          have HE : Hid (lineOk l = false) := Lib.hid (HBad.out (by have := of_decide_eq_true k6; omega))
          clear HBad HStep HHead HI k1p k2p k3p k4p he0 ha0
          go_wp2_with fail
          go_quiet (fail)
          go_wp2_with fail
          go_ret
          exact ⟨by rw [HE.out]; rfl, HB.out.trans ⟨rfl, rfl, rfl, Nat.le_refl _, fun _ _ => rfl⟩⟩
        | false =>
          have HS : Hid (RInv l (j + 1 + 1) v1 v2) := Lib.hid (HStep.out ⟨by have := of_decide_eq_false k5; omega, by omega, by have := of_decide_eq_false k6; omega, by omega⟩ (fun h => by omega))
          clear HBad HStep HHead HI k1p k2p k3p k4p he0 ha0
          go_wp2_with fail
          go_quiet (fail)
          go_wp2_with fail
          go_roundg (n - (j + 1 + 1))
          case measure => omega
          case rel => exact ⟨j + 1 + 1, v1, v2, by omega, Nat.le_refl _, by go_num, HS, Lib.hid (HB.out.trans ⟨rfl, rfl, rfl, Nat.le_refl _, fun _ _ => rfl⟩)⟩
    · have hltz : ¬ (k : Int) < (n : Int) := by omega
      have HE : Hid (lineOk l = true) := Lib.hid (HI.out.done (by rw [HN.out]; omega) (by omega))
      go_wp2_with fail
      go_ret
      exact ⟨by rw [HE.out]; rfl, HB.out⟩

theorem placedB_of2 {l : List Br} (h : lineOk l = true) (q : Int) {b1 b2 : Bool} (h1 : decide (q ≤ 1099511627776) = b1) (h2 : decide ((lastB l).2 ≤ q) = b2) : placedB l q = (b1 && b2) := by
  rw [placedB_of h q h2 h1, Bool.and_comm]

set_option maxHeartbeats 4000000 in
set_option maxRecDepth 100000 in
theorem DPlaced_any {w : World} {A : Option Addr} {c : Nat} {l : List Br} {q : Int} (h : BrsAt w w.heap.size A l) (hl : l.length ≤ 9223372036854775807) :
    Calls Try.prog 49 #[.agg #[.slice A l.length c, .int .i64 q]] w fun r w' => r = .returned (.bool (placedB l q)) ∧ Below w.heap.size w w' := by
  have HX := Lib.hid (PosBox.of (heap_new w (.cells #[.slice A l.length c, .int .i64 q] 46 (0, 0))))
  have HBV := Lib.hid (below_one w (.cells #[.slice A l.length c, .int .i64 q] 46 (0, 0)))
  have HR := Lib.hid (fun (p : LatW (w.alloc (.cells #[.slice A l.length c, .int .i64 q] 46 (0, 0)))) c => DRight_any (c := c) (h.lat HBV.out p) hl)
  cases hok : lineOk l with
  | false =>
    rw [placedB_no hok]
    rw [hok] at HR
    go_enter Try.func49, Try.ntmps49
    go_wp2_with fail
    generalize w.alloc (.cells #[.slice A l.length c, .int .i64 q] 46) = V at *
    have c0 := HX.out.c0
    have c1 := HX.out.c1
    generalize w.heap.size = H at c0 c1 ⊢
    refine wp_region_later (by kernel_rfl) (by kernel_rfl) ?_
    repeat (first | go_big_quiet_skip | quiet_step (first | (go_at_call 34; exact Calls.later_of (HR.out _ _))) | (go_big_quiet_want; go_big_quiet_op; go_big_quiet_on))
    refine wpQuiet_nil ?_
    intro w9 hw9
    obtain ⟨p9, hw9'⟩ := hw9
    subst hw9'
    go_wp2_with fail
    go_ret
    exact ⟨rfl, HBV.out.trans (p9.bel.mono HBV.out.size)⟩
  | true =>
    rw [hok] at HR
    have HP := Lib.hid (fun b1 b2 => @placedB_of2 l hok q b1 b2)
    obtain ⟨k, hk⟩ : ∃ k, l.length = k + 1 := ⟨l.length - 1, by have := lineOk_ne hok; cases l with
      | nil => exact absurd rfl this
      | cons x r => simp⟩
    have hkl : k < l.length := by omega
    rw [lastB_at hk] at HP
    obtain ⟨b, off, hA, hlt, x1, x2⟩ := h.at_ (Below.refl _ _) hkl
    subst hA
    obtain ⟨v, hv⟩ : ∃ v, l[k].2 = v := ⟨_, rfl⟩
    rw [hv] at x2 HP
    have HLt := Lib.hid hlt
    have HX2 := Lib.hid x2
    clear hv h x1 hlt x2 hkl
    rw [hk] at HX HBV HR hl ⊢
    have y2 := fun z => LatW.far HBV.out z HX2.out HLt.out
    have hk0 : (0 : Int) ≤ (k : Int) := Int.natCast_nonneg _
    have hk8 : (k : Int) < 9223372036854775807 := by omega
    have hwr : IntKind.i64.wrap (k : Int) = (k : Int) := by rw [IntKind.wrap_i64]; omega
    clear hk
    cases h1 : decide (q ≤ 1099511627776) with
    | false =>
    rw [HP.out _ _ h1 rfl, Bool.false_and]
    clear HP
    go_enter Try.func49, Try.ntmps49
    go_wp2_with fail
    generalize w.alloc (.cells #[.slice (some ⟨b, off, none⟩) (k + 1) c, .int .i64 q] 46) = V at *
    have c0 := HX.out.c0
    have c1 := HX.out.c1
    generalize w.heap.size = H at c0 c1 ⊢
    refine wp_region_later (by kernel_rfl) (by kernel_rfl) ?_
    repeat (first | go_big_quiet_skip | quiet_step (first | (go_at_call 34; exact Calls.later_of (HR.out _ _))) | (go_big_quiet_want; go_big_quiet_op; go_big_quiet_on))
    refine wpQuiet_nil ?_
    intro w9 hw9
    obtain ⟨p9, hw9'⟩ := hw9
    subst hw9'
    go_wp2_with fail
    go_ret
    exact ⟨rfl, HBV.out.trans (p9.bel.mono HBV.out.size)⟩
    | true =>
    rw [HP.out _ _ h1 rfl, Bool.true_and]
    clear HP
    go_enter Try.func49, Try.ntmps49
    go_wp2_with fail
    generalize w.alloc (.cells #[.slice (some ⟨b, off, none⟩) (k + 1) c, .int .i64 q] 46) = V at *
    have c0 := HX.out.c0
    have c1 := HX.out.c1
    generalize w.heap.size = H at c0 c1 ⊢
    refine wp_region_later (by kernel_rfl) (by kernel_rfl) ?_
    repeat (first | go_big_quiet_skip | quiet_step (first | (go_at_call 34; exact Calls.later_of (HR.out _ _))) | (go_big_quiet_want; go_big_quiet_op; go_big_quiet_on))
    refine wpQuiet_nil ?_
    intro w9 hw9
    obtain ⟨p9, hw9'⟩ := hw9
    subst hw9'
    go_wp2_with fail
    go_ret
    exact ⟨rfl, HBV.out.trans (p9.bel.mono HBV.out.size)⟩

end Go.Proofs.Ytkpoeigoocbgeaa
