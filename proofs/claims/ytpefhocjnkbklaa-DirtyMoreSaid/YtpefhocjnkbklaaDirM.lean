/- Bitmaps: bits and marks in memory; contract of the document's SameMarks. -/
import Derived.Test.YtpefhocjnkbklaaVolN
import Derived.Test.YtpefhocjnkbklaaVolY
import Derived.Test.YtpefhocjnkbklaaDirP
import Derived.Great.BuildSlice
import Derived.Deep.LoopGhost
namespace Go.Proofs.Ytpefhocjnkbklaa
open Go.RowKit

/-! ### Bitmaps in memory -/

def BtsAt (w : World) (B : Nat) (A : Option Addr) (ms : List Bt) : Prop :=
  ms = [] ∨ ∃ b off, A = some ⟨b, off, none⟩ ∧ b < B ∧ ∀ i, (h : i < ms.length) → w.cell? ⟨b, off + i * 2, none⟩ = some (.int .i64 ms[i].vol) ∧ w.cell? ⟨b, off + i * 2 + 1, none⟩ = some (.int .u64 ms[i].mask)
theorem BtsAt.at_ {w w' : World} {B : Nat} {A : Option Addr} {ms : List Bt} (h : BtsAt w B A ms) (hb : Below B w w') {i : Nat} (hi : i < ms.length) :
    ∃ b off, A = some ⟨b, off, none⟩ ∧ b < B ∧ w'.cell? ⟨b, off + i * 2, none⟩ = some (.int .i64 ms[i].vol) ∧ w'.cell? ⟨b, off + i * 2 + 1, none⟩ = some (.int .u64 ms[i].mask) := by
  rcases h with rfl | ⟨b, off, hA, hlt, hc⟩
  · simp at hi
  · obtain ⟨h1, h2⟩ := hc i hi
    exact ⟨b, off, hA, hlt, (hb.cell (p := ⟨b, off + i * 2, none⟩) hlt).trans h1, (hb.cell (p := ⟨b, off + i * 2 + 1, none⟩) hlt).trans h2⟩
theorem BtsAt.below {w w' : World} {B : Nat} {A : Option Addr} {ms : List Bt} (h : BtsAt w B A ms) (hb : Below B w w') : BtsAt w' B A ms := by
  rcases h with h | ⟨b, off, hA, hlt, hc⟩
  · exact .inl h
  · exact .inr ⟨b, off, hA, hlt, fun i hi => ⟨(hb.cell (p := ⟨b, off + i * 2, none⟩) hlt).trans (hc i hi).1, (hb.cell (p := ⟨b, off + i * 2 + 1, none⟩) hlt).trans (hc i hi).2⟩⟩
theorem BtsAt.more {w : World} {B B' : Nat} {A : Option Addr} {ms : List Bt} (h : BtsAt w B A ms) (hB : B ≤ B') : BtsAt w B' A ms := by
  rcases h with h | ⟨b, off, hA, hlt, hc⟩
  · exact .inl h
  · exact .inr ⟨b, off, hA, by omega, hc⟩
theorem BtsAt.next {w w' : World} {A : Option Addr} {ms : List Bt} (h : BtsAt w w.heap.size A ms) (hb : Below w.heap.size w w') : BtsAt w' w'.heap.size A ms := (h.below hb).more hb.size
def btCells : List Bt → List Value
  | [] => []
  | x :: ms => .int .i64 x.vol :: .int .u64 x.mask :: btCells ms
theorem btCells_length (ms : List Bt) : (btCells ms).length = ms.length * 2 := by
  induction ms with
  | nil => rfl
  | cons x ms ih => simp [btCells, ih]; omega
theorem btCells_append (a b : List Bt) : btCells (a ++ b) = btCells a ++ btCells b := by
  induction a with
  | nil => rfl
  | cons x a ih => simp [btCells, ih]
theorem btCells_at {ms : List Bt} {k : Nat} (hk : k < ms.length) : (btCells ms)[k * 2]? = some (.int .i64 ms[k].vol) ∧ (btCells ms)[k * 2 + 1]? = some (.int .u64 ms[k].mask) := by
  induction ms generalizing k with
  | nil => simp at hk
  | cons x ms ih =>
    cases k with
    | zero => exact ⟨rfl, rfl⟩
    | succ k =>
      have := ih (k := k) (by simpa using hk)
      rw [show (k + 1) * 2 = k * 2 + 1 + 1 from by omega]
      simpa [btCells] using this
theorem BtsAt.of_lies {w : World} {B : Nat} {A : Option Addr} {ms : List Bt} (h : Lies w B A (btCells ms)) : BtsAt w B A ms := by
  rcases h with h | ⟨b, off, hA, hlt, hc⟩
  · have := btCells_length ms
    rw [h] at this
    exact .inl (List.eq_nil_of_length_eq_zero (by simp at this; omega))
  · refine .inr ⟨b, off, hA, hlt, fun i hi => ?_⟩
    have hl := btCells_length ms
    obtain ⟨g1, g2⟩ := btCells_at hi
    refine ⟨?_, ?_⟩
    · rw [hc (i * 2) (by omega)]
      rw [List.getElem?_eq_getElem (by omega)] at g1
      exact g1
    · rw [Nat.add_assoc, hc (i * 2 + 1) (by omega)]
      rw [List.getElem?_eq_getElem (by omega)] at g2
      exact g2
/-- What a call that hands back bits leaves. -/
def BtsEnd1 (ms : List Bt) (w : World) (e : Ending) (w' : World) : Prop :=
  ∃ A c, e = .returned (.slice A ms.length c) ∧ BtsAt w' w'.heap.size A ms ∧ Below w.heap.size w w'
theorem own_endB1 {w0 w : World} {base : Nat} {v : Value} {ms : List Bt} {t : TypeId} (h : w.ownsRow base t 2 v ms.length (btCells ms)) (hb : Below w0.heap.size w0 w) : BtsEnd1 ms w0 (.returned v) w := by
  obtain ⟨A, c, rfl, _, hl⟩ := own_lies h
  exact ⟨A, c, rfl, BtsAt.of_lies hl, hb⟩


/-! ### Marks in memory -/

abbrev Mk := Int × Int
def MksAt (w : World) (B : Nat) (A : Option Addr) (ms : List Mk) : Prop :=
  ms = [] ∨ ∃ b off, A = some ⟨b, off, none⟩ ∧ b < B ∧ ∀ i, (h : i < ms.length) → w.cell? ⟨b, off + i * 2, none⟩ = some (.int .i64 ms[i].1) ∧ w.cell? ⟨b, off + i * 2 + 1, none⟩ = some (.int .i64 ms[i].2)
theorem MksAt.at_ {w w' : World} {B : Nat} {A : Option Addr} {ms : List Mk} (h : MksAt w B A ms) (hb : Below B w w') {i : Nat} (hi : i < ms.length) :
    ∃ b off, A = some ⟨b, off, none⟩ ∧ b < B ∧ w'.cell? ⟨b, off + i * 2, none⟩ = some (.int .i64 ms[i].1) ∧ w'.cell? ⟨b, off + i * 2 + 1, none⟩ = some (.int .i64 ms[i].2) := by
  rcases h with rfl | ⟨b, off, hA, hlt, hc⟩
  · simp at hi
  · obtain ⟨h1, h2⟩ := hc i hi
    exact ⟨b, off, hA, hlt, (hb.cell (p := ⟨b, off + i * 2, none⟩) hlt).trans h1, (hb.cell (p := ⟨b, off + i * 2 + 1, none⟩) hlt).trans h2⟩
theorem MksAt.below {w w' : World} {B : Nat} {A : Option Addr} {ms : List Mk} (h : MksAt w B A ms) (hb : Below B w w') : MksAt w' B A ms := by
  rcases h with h | ⟨b, off, hA, hlt, hc⟩
  · exact .inl h
  · exact .inr ⟨b, off, hA, hlt, fun i hi => ⟨(hb.cell (p := ⟨b, off + i * 2, none⟩) hlt).trans (hc i hi).1, (hb.cell (p := ⟨b, off + i * 2 + 1, none⟩) hlt).trans (hc i hi).2⟩⟩
theorem MksAt.more {w : World} {B B' : Nat} {A : Option Addr} {ms : List Mk} (h : MksAt w B A ms) (hB : B ≤ B') : MksAt w B' A ms := by
  rcases h with h | ⟨b, off, hA, hlt, hc⟩
  · exact .inl h
  · exact .inr ⟨b, off, hA, by omega, hc⟩
theorem MksAt.next {w w' : World} {A : Option Addr} {ms : List Mk} (h : MksAt w w.heap.size A ms) (hb : Below w.heap.size w w') : MksAt w' w'.heap.size A ms := (h.below hb).more hb.size
def mkCells : List Mk → List Value
  | [] => []
  | x :: ms => .int .i64 x.1 :: .int .i64 x.2 :: mkCells ms
theorem mkCells_length (ms : List Mk) : (mkCells ms).length = ms.length * 2 := by
  induction ms with
  | nil => rfl
  | cons x ms ih => simp [mkCells, ih]; omega
theorem mkCells_append (a b : List Mk) : mkCells (a ++ b) = mkCells a ++ mkCells b := by
  induction a with
  | nil => rfl
  | cons x a ih => simp [mkCells, ih]
theorem mkCells_at {ms : List Mk} {k : Nat} (hk : k < ms.length) : (mkCells ms)[k * 2]? = some (.int .i64 ms[k].1) ∧ (mkCells ms)[k * 2 + 1]? = some (.int .i64 ms[k].2) := by
  induction ms generalizing k with
  | nil => simp at hk
  | cons x ms ih =>
    cases k with
    | zero => exact ⟨rfl, rfl⟩
    | succ k =>
      have := ih (k := k) (by simpa using hk)
      rw [show (k + 1) * 2 = k * 2 + 1 + 1 from by omega]
      simpa [mkCells] using this
theorem MksAt.of_lies {w : World} {B : Nat} {A : Option Addr} {ms : List Mk} (h : Lies w B A (mkCells ms)) : MksAt w B A ms := by
  rcases h with h | ⟨b, off, hA, hlt, hc⟩
  · have := mkCells_length ms
    rw [h] at this
    exact .inl (List.eq_nil_of_length_eq_zero (by simp at this; omega))
  · refine .inr ⟨b, off, hA, hlt, fun i hi => ?_⟩
    have hl := mkCells_length ms
    obtain ⟨g1, g2⟩ := mkCells_at hi
    refine ⟨?_, ?_⟩
    · rw [hc (i * 2) (by omega)]
      rw [List.getElem?_eq_getElem (by omega)] at g1
      exact g1
    · rw [Nat.add_assoc, hc (i * 2 + 1) (by omega)]
      rw [List.getElem?_eq_getElem (by omega)] at g2
      exact g2
/-- What a call that hands back marks leaves. -/
def MksEnd (ms : List Mk) (w : World) (e : Ending) (w' : World) : Prop :=
  ∃ A c, e = .returned (.slice A ms.length c) ∧ MksAt w' w'.heap.size A ms ∧ Below w.heap.size w w'
theorem own_endM {w0 w : World} {base : Nat} {v : Value} {ms : List Mk} {t : TypeId} (h : w.ownsRow base t 2 v ms.length (mkCells ms)) (hb : Below w0.heap.size w0 w) : MksEnd ms w0 (.returned v) w := by
  obtain ⟨A, c, rfl, _, hl⟩ := own_lies h
  exact ⟨A, c, rfl, MksAt.of_lies hl, hb⟩

/-! ### SameMarks -/

def sameM (x y : Mk) : Bool := (x.1 == y.1) && (x.2 == y.2)
theorem sameM_self (x : Mk) : sameM x x = true := by simp [sameM]
theorem sameM_ne {x y : Mk} (h : x ≠ y) : sameM x y = false := by
  rw [Bool.eq_false_iff]
  intro e
  simp only [sameM, Bool.and_eq_true, beq_iff_eq] at e
  exact h (Prod.ext e.1 e.2)
set_option maxRecDepth 100000 in
theorem eqlIn_mark (x y : Mk) (w : World) : (Op.equalIn 10000 34 (.agg #[.int .i64 x.1, .int .i64 x.2]) (.agg #[.int .i64 y.1, .int .i64 y.2])).run Try.prog w = .ok (sameM x y) w := by
  rw [run_equalIn_struct w 9999 34 _ _ (by kernel_rfl) (by kernel_rfl)]
  have hf : (Try.prog.fieldsOf 34).toList.map (fun f => (f.name, f.type, f.offset)) = [("Vol", 3, 0), ("Block", 3, 1)] := by kernel_rfl
  obtain ⟨fs, hfs⟩ : ∃ fs, (Try.prog.fieldsOf 34).toList = fs := ⟨_, rfl⟩
  rw [hfs] at hf ⊢
  match fs, hf with
  | [f1, f2], hf =>
    simp only [List.map_cons, List.map_nil, List.cons.injEq, Prod.mk.injEq, and_true] at hf
    obtain ⟨⟨a1, a2, a3⟩, ⟨b1, b2, b3⟩⟩ := hf
    simp only [Op.eqFields, a1, a2, a3, b1, b2, b3]
    have q1 := run_equalIn_int (P := Try.prog) w 9998 3 .i64 .i64 x.1 y.1 Try.underlying3
    have q2 := run_equalIn_int (P := Try.prog) w 9998 3 .i64 .i64 x.2 y.2 Try.underlying3
    unfold sameM
    cases h1 : x.1 == y.1 <;> rw [h1] at q1 <;> cases h2 : x.2 == y.2 <;> rw [h2] at q2 <;> simp [part, q1, q2, Try.isAgg3, Sem.run_bind, Result.andThen]
theorem neq_mark (x y : Mk) (w : World) : (binOp .neq 34 (.agg #[.int .i64 x.1, .int .i64 x.2]) (.agg #[.int .i64 y.1, .int .i64 y.2])).run Try.prog w = .ok (.bool (!sameM x y)) w := by
  rw [run_neq_struct, eqlIn_mark]; rfl
theorem guard_mark (op : BinOp) (x y : Operand) (xs ys : Array Value) (w : World) : (eqGuard op 34 x y (.agg xs) (.agg ys)).run Try.prog w = .ok () w := run_eqGuard_agg w op _ x y xs ys (by kernel_rfl)
def eqM (a b : List Mk) : Bool := decide (a = b)
theorem eqM_self (a : List Mk) : eqM a a = true := by simp [eqM]
theorem eqM_ne {a b : List Mk} (h : a ≠ b) : eqM a b = false := by simp [eqM, h]

set_option maxHeartbeats 2000000 in
set_option maxRecDepth 100000 in
theorem SameMarks_any {w : World} {A1 A2 : Option Addr} {c1 c2 : Nat} {xs ys : List Mk} (h1 : MksAt w w.heap.size A1 xs) (h2 : MksAt w w.heap.size A2 ys) (hl1 : xs.length ≤ 9223372036854775807) :
    Calls Try.prog 29 #[.slice A1 xs.length c1, .slice A2 ys.length c2] w fun e w' => e = .returned (.bool (eqM xs ys)) ∧ Below w.heap.size w w' := by
  by_cases hlen : xs.length = ys.length
  · have H1 := Lib.hid h1
    have H2 := Lib.hid h2
    have mixed : Try.prog.follows .mixedOrders = true := by kernel_rfl
    obtain ⟨n, hn⟩ : ∃ n, xs.length = n := ⟨_, rfl⟩
    have HN1 := Lib.hid hn
    have HN2 : Hid (ys.length = n) := Lib.hid (by rw [← hlen]; exact hn)
    rw [← hlen, hn]
    rw [hn] at hl1
    clear h1 h2 hn hlen
    go_enter Try.func29, Try.ntmps29
    go_wp2
    go_loopg [5] n (fun kx i wr => ∃ k : Nat, k ≤ n ∧ n - k ≤ kx ∧ i = .int .i64 k ∧ Hid (xs.take k = ys.take k) ∧ Hid (Below w.heap.size w wr))
    case atStart => exact ⟨0, Nat.zero_le _, by omega, rfl, Lib.hid (by simp), Lib.hid (Below.refl _ _)⟩
    case round =>
      obtain ⟨k, hk, hkx, rfl, HK, HB⟩ := hrel
      by_cases hlt : k < n
      · have hk1 : k < xs.length := by rw [HN1.out]; exact hlt
        have hk2 : k < ys.length := by rw [HN2.out]; exact hlt
        obtain ⟨b1, o1, hA1, _, x1, x2⟩ := H1.out.at_ HB.out hk1
        obtain ⟨b2, o2, hA2, _, y1, y2⟩ := H2.out.at_ HB.out hk2
        subst hA1
        subst hA2
        have HNo : Hid (xs[k] ≠ ys[k] → eqM xs ys = false) := Lib.hid (fun h => eqM_ne (ne_at hk1 hk2 h))
        have HYes : Hid (xs[k] = ys[k] → xs.take (k + 1) = ys.take (k + 1)) := Lib.hid (fun h => take_eq_step HK.out hk1 hk2 h)
        obtain ⟨u, hu⟩ : ∃ u, xs[k] = u := ⟨_, rfl⟩
        obtain ⟨v, hv⟩ : ∃ v, ys[k] = v := ⟨_, rfl⟩
        rw [hu] at x1 x2 HNo HYes
        rw [hv] at y1 y2 HNo HYes
        clear hu hv hk1 hk2 HK
        obtain ⟨i1, j1⟩ := u
        obtain ⟨i2, j2⟩ := v
        simp only at x1 x2 y1 y2
        have hk0 : (0 : Int) ≤ (k : Int) := Int.natCast_nonneg _
        have hk8 : (k : Int) < (n : Int) := by omega
        have hne := neq_mark (i1, j1) (i2, j2)
        have hgd := guard_mark
        simp only at hne
        by_cases he : ((i1, j1) : Mk) = (i2, j2)
        · have HE := Lib.hid (HYes.out he)
          rw [he, sameM_self] at hne
          simp only [Bool.not_true] at hne
          have e1 : i1 = i2 := congrArg Prod.fst he
          have e2 : j1 = j2 := congrArg Prod.snd he
          subst e1
          subst e2
          clear he HYes HNo
          go_wp2_with fail
          go_quiet (fail)
          go_wp2_with fail
          go_roundg (n - (k + 1))
          case measure => omega
          case rel => exact ⟨k + 1, by omega, Nat.le_refl _, by go_num, HE, Lib.hid (HB.out.trans ⟨rfl, rfl, rfl, Nat.le_refl _, fun _ _ => rfl⟩)⟩
        · have HE := Lib.hid (HNo.out he)
          rw [sameM_ne he] at hne
          simp only [Bool.not_false] at hne
          clear he HYes HNo
          go_wp2_with fail
          go_quiet (fail)
          go_wp2_with fail
          go_ret
          exact ⟨by rw [HE.out]; rfl, HB.out.trans ⟨rfl, rfl, rfl, Nat.le_refl _, fun _ _ => rfl⟩⟩
      · have hltz : ¬ (k : Int) < (n : Int) := by omega
        have HE : Hid (eqM xs ys = true) := Lib.hid (by rw [take_eq_all HK.out (by rw [HN1.out]; omega) (by rw [HN2.out]; omega)]; exact eqM_self _)
        go_wp2_with fail
        go_ret
        exact ⟨by rw [HE.out]; rfl, HB.out⟩
  · have hlz : ((xs.length : Int) != (ys.length : Int)) = true := by rw [bne_iff_ne]; omega
    have HE : Hid (eqM xs ys = false) := Lib.hid (eqM_ne (fun e => hlen (by rw [e])))
    clear h1 h2 hlen
    go_enter Try.func29, Try.ntmps29
    go_wp2
    go_ret
    exact ⟨by rw [HE.out]; rfl, Below.refl _ _⟩

/-- What a call that hands back bits and a number leaves. -/
def BtsEnd (ms : List Bt) (n : Value) (w : World) (e : Ending) (w' : World) : Prop :=
  ∃ A c, e = .returned (.tuple #[.slice A ms.length c, n]) ∧ BtsAt w' w'.heap.size A ms ∧ Below w.heap.size w w'
theorem BtsEnd.none_ (n : Value) {w w' : World} (hb : Below w.heap.size w w') : BtsEnd [] n w (.returned (.tuple #[.slice none 0 0, n])) w' := ⟨none, 0, rfl, .inl rfl, hb⟩
end Go.Proofs.Ytpefhocjnkbklaa
