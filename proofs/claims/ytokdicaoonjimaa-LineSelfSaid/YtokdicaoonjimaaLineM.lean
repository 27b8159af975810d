/- Lineages in memory: branches lie as two cells each; == of branches; contract of the document's Equal. -/
import Derived.Test.YtokdicaoonjimaaRows
import Derived.WalkKit
import Derived.WalkSpells
import Derived.WalkLawsBesides
import Derived.Lib.Hide
import Derived.PlainAid
import Derived.Deep.OwnRows
import Derived.Deep.MidRow
import Derived.Deep.AppendLies
import Derived.Deep.RegionHeld3
import Derived.Deep.QuietTactic
import Derived.BigQuiet
import Derived.Great.BuildSlice
import Derived.Deep.LoopGhost
import Derived.Test.YtokdicaoonjimaaSpec
import Derived.Test.YtokdicaoonjimaaMem
import Derived.Test.YtokdicaoonjimaaKnown
import Derived.Test.YtokdicaoonjimaaLineP
namespace Go.Proofs.Ytokdicaoonjimaa
open Go.RowKit

/-! ### Branches in memory -/

def BrsAt (w : World) (B : Nat) (A : Option Addr) (ms : List Br) : Prop :=
  ms = [] ∨ ∃ b off, A = some ⟨b, off, none⟩ ∧ b < B ∧ ∀ i, (h : i < ms.length) → w.cell? ⟨b, off + i * 2, none⟩ = some (.int .i64 ms[i].1) ∧ w.cell? ⟨b, off + i * 2 + 1, none⟩ = some (.int .i64 ms[i].2)
theorem BrsAt.at_ {w w' : World} {B : Nat} {A : Option Addr} {ms : List Br} (h : BrsAt w B A ms) (hb : Below B w w') {i : Nat} (hi : i < ms.length) :
    ∃ b off, A = some ⟨b, off, none⟩ ∧ b < B ∧ w'.cell? ⟨b, off + i * 2, none⟩ = some (.int .i64 ms[i].1) ∧ w'.cell? ⟨b, off + i * 2 + 1, none⟩ = some (.int .i64 ms[i].2) := by
  rcases h with rfl | ⟨b, off, hA, hlt, hc⟩
  · simp at hi
  · obtain ⟨h1, h2⟩ := hc i hi
    exact ⟨b, off, hA, hlt, (hb.cell (p := ⟨b, off + i * 2, none⟩) hlt).trans h1, (hb.cell (p := ⟨b, off + i * 2 + 1, none⟩) hlt).trans h2⟩
theorem BrsAt.below {w w' : World} {B : Nat} {A : Option Addr} {ms : List Br} (h : BrsAt w B A ms) (hb : Below B w w') : BrsAt w' B A ms := by
  rcases h with h | ⟨b, off, hA, hlt, hc⟩
  · exact .inl h
  · exact .inr ⟨b, off, hA, hlt, fun i hi => ⟨(hb.cell (p := ⟨b, off + i * 2, none⟩) hlt).trans (hc i hi).1, (hb.cell (p := ⟨b, off + i * 2 + 1, none⟩) hlt).trans (hc i hi).2⟩⟩
theorem BrsAt.more {w : World} {B B' : Nat} {A : Option Addr} {ms : List Br} (h : BrsAt w B A ms) (hB : B ≤ B') : BrsAt w B' A ms := by
  rcases h with h | ⟨b, off, hA, hlt, hc⟩
  · exact .inl h
  · exact .inr ⟨b, off, hA, by omega, hc⟩
theorem BrsAt.next {w w' : World} {A : Option Addr} {ms : List Br} (h : BrsAt w w.heap.size A ms) (hb : Below w.heap.size w w') : BrsAt w' w'.heap.size A ms := (h.below hb).more hb.size
def brCells : List Br → List Value
  | [] => []
  | x :: ms => .int .i64 x.1 :: .int .i64 x.2 :: brCells ms
theorem brCells_length (ms : List Br) : (brCells ms).length = ms.length * 2 := by
  induction ms with
  | nil => rfl
  | cons x ms ih => simp [brCells, ih]; omega
theorem brCells_append (a b : List Br) : brCells (a ++ b) = brCells a ++ brCells b := by
  induction a with
  | nil => rfl
  | cons x a ih => simp [brCells, ih]
theorem brCells_at {ms : List Br} {k : Nat} (hk : k < ms.length) : (brCells ms)[k * 2]? = some (.int .i64 ms[k].1) ∧ (brCells ms)[k * 2 + 1]? = some (.int .i64 ms[k].2) := by
  induction ms generalizing k with
  | nil => simp at hk
  | cons x ms ih =>
    cases k with
    | zero => exact ⟨rfl, rfl⟩
    | succ k =>
      have := ih (k := k) (by simpa using hk)
      rw [show (k + 1) * 2 = k * 2 + 1 + 1 from by omega]
      simpa [brCells] using this
theorem BrsAt.of_lies {w : World} {B : Nat} {A : Option Addr} {ms : List Br} (h : Lies w B A (brCells ms)) : BrsAt w B A ms := by
  rcases h with h | ⟨b, off, hA, hlt, hc⟩
  · have := brCells_length ms
    rw [h] at this
    exact .inl (List.eq_nil_of_length_eq_zero (by simp at this; omega))
  · refine .inr ⟨b, off, hA, hlt, fun i hi => ?_⟩
    have hl := brCells_length ms
    obtain ⟨g1, g2⟩ := brCells_at hi
    refine ⟨?_, ?_⟩
    · rw [hc (i * 2) (by omega)]
      rw [List.getElem?_eq_getElem (by omega)] at g1
      exact g1
    · rw [Nat.add_assoc, hc (i * 2 + 1) (by omega)]
      rw [List.getElem?_eq_getElem (by omega)] at g2
      exact g2
/-- What a call that hands back branches leaves. -/
def BrsEnd1 (ms : List Br) (w : World) (e : Ending) (w' : World) : Prop :=
  ∃ A c, e = .returned (.slice A ms.length c) ∧ BrsAt w' w'.heap.size A ms ∧ Below w.heap.size w w'
theorem own_endBr {w0 w : World} {base : Nat} {v : Value} {ms : List Br} {t : TypeId} (h : w.ownsRow base t 2 v ms.length (brCells ms)) (hb : Below w0.heap.size w0 w) : BrsEnd1 ms w0 (.returned v) w := by
  obtain ⟨A, c, rfl, _, hl⟩ := own_lies h
  exact ⟨A, c, rfl, BrsAt.of_lies hl, hb⟩


/-! ### == of branches, Equal -/

theorem take_eq_step {α : Type} {a b : List α} {k : Nat} (h : a.take k = b.take k) (h1 : k < a.length) (h2 : k < b.length) (he : a[k] = b[k]) : a.take (k + 1) = b.take (k + 1) := by
  rw [List.take_succ_eq_append_getElem h1, List.take_succ_eq_append_getElem h2, h, he]
theorem take_eq_all {α : Type} {a b : List α} {k : Nat} (h : a.take k = b.take k) (h1 : a.length ≤ k) (h2 : b.length ≤ k) : a = b := by
  rwa [List.take_of_length_le h1, List.take_of_length_le h2] at h
theorem ne_at {α : Type} {a b : List α} {k : Nat} (h1 : k < a.length) (h2 : k < b.length) (h : a[k] ≠ b[k]) : a ≠ b := by
  intro e; subst e; exact h rfl
def sameB (x y : Br) : Bool := (x.1 == y.1) && (x.2 == y.2)
theorem sameB_self (x : Br) : sameB x x = true := by simp [sameB]
theorem sameB_ne {x y : Br} (h : x ≠ y) : sameB x y = false := by
  rw [Bool.eq_false_iff]
  intro e
  simp only [sameB, Bool.and_eq_true, beq_iff_eq] at e
  exact h (Prod.ext e.1 e.2)
set_option maxRecDepth 100000 in
theorem eqlIn_br (x y : Br) (w : World) : (Op.equalIn 10000 31 (.agg #[.int .i64 x.1, .int .i64 x.2]) (.agg #[.int .i64 y.1, .int .i64 y.2])).run Try.prog w = .ok (sameB x y) w := by
  rw [run_equalIn_struct w 9999 31 _ _ (by kernel_rfl) (by kernel_rfl)]
  have hf : (Try.prog.fieldsOf 31).toList.map (fun f => (f.name, f.type, f.offset)) = [("Epoch", 3, 0), ("At", 3, 1)] := by kernel_rfl
  obtain ⟨fs, hfs⟩ : ∃ fs, (Try.prog.fieldsOf 31).toList = fs := ⟨_, rfl⟩
  rw [hfs] at hf ⊢
  match fs, hf with
  | [f1, f2], hf =>
    simp only [List.map_cons, List.map_nil, List.cons.injEq, Prod.mk.injEq, and_true] at hf
    obtain ⟨⟨a1, a2, a3⟩, ⟨b1, b2, b3⟩⟩ := hf
    simp only [Op.eqFields, a1, a2, a3, b1, b2, b3]
    have q1 := run_equalIn_int (P := Try.prog) w 9998 3 .i64 .i64 x.1 y.1 Try.underlying3
    have q2 := run_equalIn_int (P := Try.prog) w 9998 3 .i64 .i64 x.2 y.2 Try.underlying3
    unfold sameB
    cases h1 : x.1 == y.1 <;> rw [h1] at q1 <;> cases h2 : x.2 == y.2 <;> rw [h2] at q2 <;> simp [part, q1, q2, Try.isAgg3, Sem.run_bind, Result.andThen]
theorem neq_br (x y : Br) (w : World) : (binOp .neq 31 (.agg #[.int .i64 x.1, .int .i64 x.2]) (.agg #[.int .i64 y.1, .int .i64 y.2])).run Try.prog w = .ok (.bool (!sameB x y)) w := by
  rw [run_neq_struct, eqlIn_br]; rfl
theorem eql_br (x y : Br) (w : World) : (binOp .eql 31 (.agg #[.int .i64 x.1, .int .i64 x.2]) (.agg #[.int .i64 y.1, .int .i64 y.2])).run Try.prog w = .ok (.bool (sameB x y)) w := by
  rw [run_eql_struct, eqlIn_br]; rfl
theorem guard_br (op : BinOp) (x y : Operand) (xs ys : Array Value) (w : World) : (eqGuard op 31 x y (.agg xs) (.agg ys)).run Try.prog w = .ok () w := run_eqGuard_agg w op _ x y xs ys (by kernel_rfl)
def eqBr (a b : List Br) : Bool := decide (a = b)
theorem eqBr_self (a : List Br) : eqBr a a = true := by simp [eqBr]
theorem eqBr_ne {a b : List Br} (h : a ≠ b) : eqBr a b = false := by simp [eqBr, h]

set_option maxHeartbeats 2000000 in
set_option maxRecDepth 100000 in
theorem DocEqual_any {w : World} {A1 A2 : Option Addr} {c1 c2 : Nat} {xs ys : List Br} (h1 : BrsAt w w.heap.size A1 xs) (h2 : BrsAt w w.heap.size A2 ys) (hl1 : xs.length ≤ 9223372036854775807) :
    Calls Try.prog 15 #[.slice A1 xs.length c1, .slice A2 ys.length c2] w fun e w' => e = .returned (.bool (eqBr xs ys)) ∧ Below w.heap.size w w' := by
  by_cases hlen : xs.length = ys.length
  · have H1 := Lib.hid h1
    have H2 := Lib.hid h2
    have mixed : Try.prog.follows .mixedOrders = true := by kernel_rfl
    obtain ⟨n, hn⟩ : ∃ n, xs.length = n := ⟨_, rfl⟩
    have HN1 := Lib.hid hn
    have HN2 : Hid (ys.length = n) := Lib.hid (by rw [← hlen]; exact hn)
    rw [← hlen, hn]
    rw [hn] at hl1
    clear h1 h2 hn hlen
    go_enter Try.func15, Try.ntmps15
    go_wp2
    go_loopg [5] n (fun kx i wr => ∃ k : Nat, k ≤ n ∧ n - k ≤ kx ∧ i = .int .i64 k ∧ Hid (xs.take k = ys.take k) ∧ Hid (Below w.heap.size w wr))
    case atStart => exact ⟨0, Nat.zero_le _, by omega, rfl, Lib.hid (by simp), Lib.hid (Below.refl _ _)⟩
    case round =>
      obtain ⟨k, hk, hkx, rfl, HK, HB⟩ := hrel
      by_cases hlt : k < n
      · have hk1 : k < xs.length := by rw [HN1.out]; exact hlt
        have hk2 : k < ys.length := by rw [HN2.out]; exact hlt
        obtain ⟨b1, o1, hA1, _, x1, x2⟩ := H1.out.at_ HB.out hk1
        obtain ⟨b2, o2, hA2, _, y1, y2⟩ := H2.out.at_ HB.out hk2
        subst hA1
        subst hA2
        have HNo : Hid (xs[k] ≠ ys[k] → eqBr xs ys = false) := Lib.hid (fun h => eqBr_ne (ne_at hk1 hk2 h))
        have HYes : Hid (xs[k] = ys[k] → xs.take (k + 1) = ys.take (k + 1)) := Lib.hid (fun h => take_eq_step HK.out hk1 hk2 h)
        obtain ⟨u, hu⟩ : ∃ u, xs[k] = u := ⟨_, rfl⟩
        obtain ⟨v, hv⟩ : ∃ v, ys[k] = v := ⟨_, rfl⟩
        rw [hu] at x1 x2 HNo HYes
        rw [hv] at y1 y2 HNo HYes
        clear hu hv hk1 hk2 HK
        obtain ⟨i1, j1⟩ := u
        obtain ⟨i2, j2⟩ := v
        simp only at x1 x2 y1 y2
        have hk0 : (0 : Int) ≤ (k : Int) := Int.natCast_nonneg _
        have hk8 : (k : Int) < (n : Int) := by omega
        have hne := neq_br (i1, j1) (i2, j2)
        have hgd := guard_br
        simp only at hne
        by_cases he : ((i1, j1) : Br) = (i2, j2)
        · have HE := Lib.hid (HYes.out he)
          rw [he, sameB_self] at hne
          simp only [Bool.not_true] at hne
          have e1 : i1 = i2 := congrArg Prod.fst he
          have e2 : j1 = j2 := congrArg Prod.snd he
          subst e1
          subst e2
          clear he HYes HNo
          go_wp2_with fail
          go_quiet (fail)
          go_wp2_with fail
          go_roundg (n - (k + 1))
          case measure => omega
          case rel => exact ⟨k + 1, by omega, Nat.le_refl _, by go_num, HE, Lib.hid (HB.out.trans ⟨rfl, rfl, rfl, Nat.le_refl _, fun _ _ => rfl⟩)⟩
        · have HE := Lib.hid (HNo.out he)
          rw [sameB_ne he] at hne
          simp only [Bool.not_false] at hne
          clear he HYes HNo
          go_wp2_with fail
          go_quiet (fail)
          go_wp2_with fail
          go_ret
          exact ⟨by rw [HE.out]; rfl, HB.out.trans ⟨rfl, rfl, rfl, Nat.le_refl _, fun _ _ => rfl⟩⟩
      · have hltz : ¬ (k : Int) < (n : Int) := by omega
        have HE : Hid (eqBr xs ys = true) := Lib.hid (by rw [take_eq_all HK.out (by rw [HN1.out]; omega) (by rw [HN2.out]; omega)]; exact eqBr_self _)
        go_wp2_with fail
        go_ret
        exact ⟨by rw [HE.out]; rfl, HB.out⟩
  · have hlz : ((xs.length : Int) != (ys.length : Int)) = true := by rw [bne_iff_ne]; omega
    have HE : Hid (eqBr xs ys = false) := Lib.hid (eqBr_ne (fun e => hlen (by rw [e])))
    clear h1 h2 hlen
    go_enter Try.func15, Try.ntmps15
    go_wp2
    go_ret
    exact ⟨by rw [HE.out]; rfl, Below.refl _ _⟩

/-- What a call that hands back branches and a number leaves. -/
def BrsEnd (ms : List Br) (n : Value) (w : World) (e : Ending) (w' : World) : Prop :=
  ∃ A c, e = .returned (.tuple #[.slice A ms.length c, n]) ∧ BrsAt w' w'.heap.size A ms ∧ Below w.heap.size w w'
theorem BrsEnd.none_ (n : Value) {w w' : World} (hb : Below w.heap.size w w') : BrsEnd [] n w (.returned (.tuple #[.slice none 0 0, n])) w' := ⟨none, 0, rfl, .inl rfl, hb⟩
theorem brCells_one (ms : List Br) : ∀ u ∈ brCells ms, u.oneCell' = true := by
  induction ms with
  | nil => simp [brCells]
  | cons x ms ih =>
    intro u hu
    simp only [brCells, List.mem_cons] at hu
    rcases hu with rfl | rfl | hu
    · rfl
    · rfl
    · exact ih u hu
/-- The cells of branches that lie. -/
theorem BrsAt.lies {w : World} {B : Nat} {A : Option Addr} {ms : List Br} (h : BrsAt w B A ms) : Lies w B A (brCells ms) := by
  rcases h with rfl | ⟨b, off, hA, hlt, hc⟩
  · exact .inl rfl
  · refine .inr ⟨b, off, hA, hlt, fun i hi => ?_⟩
    have hl := brCells_length ms
    have hk : i / 2 < ms.length := by omega
    obtain ⟨g1, g2⟩ := brCells_at hk
    obtain ⟨k1, k2⟩ := hc (i / 2) hk
    rcases Nat.mod_two_eq_zero_or_one i with h0 | h0
    · have ei : i / 2 * 2 = i := by omega
      rw [ei, List.getElem?_eq_getElem hi] at g1
      rw [ei] at k1
      rw [k1, ← g1]
    · have ei : i / 2 * 2 + 1 = i := by omega
      rw [ei, List.getElem?_eq_getElem hi] at g2
      rw [show off + i / 2 * 2 + 1 = off + i from by omega] at k2
      rw [k2, ← g2]
end Go.Proofs.Ytokdicaoonjimaa
