/- Folded writes: contracts of the document's less, Equal, Bytes and SameMarks; of Bytes and Folded. Folded writes: marks in memory; contracts of the document's SameMarks and Bytes, of Bytes and Folded, of the fixed answer. The document's Fold, plain: the least block that is still greater than the last one, again and again; whether a list is folded. Folded writes: the contract of the document's Fold. Folded writes: contracts of Folded, of Marks, of the document's Marks. Folded writes: contracts of the document's Marks. Folded writes: contracts of Pick and of the document's Pick. Folded writes: contracts of slices.Grow, slices.Concat, Merge and the document's Join. -/
import Derived.Test.YthajgoigmkkbgaaFoldD
import Derived.Test.YthajgoigmkkbgaaVolK
import Derived.Test.YthajgoigmkkbgaaVolP
import Derived.Deep.RegionLaw
import Derived.Shelf.Spec.SlicesGrow
namespace Go.Proofs.Ythajgoigmkkbgaa
open Go.Shelf Go.RowKit Go.Lib Go.Sort

set_option maxHeartbeats 1000000 in
set_option maxRecDepth 100000 in
theorem less_any (x y : Wr) (W : World) : Calls Try.prog 79 #[.agg #[.int .i64 x.vol, .int .i64 x.block, .string x.data], .agg #[.int .i64 y.vol, .int .i64 y.block, .string y.data]] W fun e w' => e = .returned (.bool (ltW x y)) ∧ ∃ q os', w' = grow (W.drewN q) os' := by
  obtain ⟨v1, b1, s1⟩ := x
  obtain ⟨v2, b2, s2⟩ := y
  simp only
  by_cases h1 : v1 < v2
  · rw [show ltW ⟨v1, b1, s1⟩ ⟨v2, b2, s2⟩ = true from by rw [ltW_iff]; exact Or.inl h1]
    go_enter Try.func79, Try.ntmps79
    go_wp2
    go_ret
    exact ⟨rfl, 0, _, by rw [alloc_eq_grow, alloc_eq_grow, grow_grow]; rfl⟩
  · by_cases h2 : v1 = v2
    · subst h2
      by_cases h3 : b1 < b2
      · rw [show ltW ⟨v1, b1, s1⟩ ⟨v1, b2, s2⟩ = true from by rw [ltW_iff]; exact Or.inr ⟨rfl, h3⟩]
        go_enter Try.func79, Try.ntmps79
        go_wp2
        go_ret
        exact ⟨rfl, 0, _, by rw [alloc_eq_grow, alloc_eq_grow, grow_grow]; rfl⟩
      · rw [show ltW ⟨v1, b1, s1⟩ ⟨v1, b2, s2⟩ = false from by rw [ltW_not]; simp only; omega]
        go_enter Try.func79, Try.ntmps79
        go_wp2
        go_ret
        exact ⟨rfl, 0, _, by rw [alloc_eq_grow, alloc_eq_grow, grow_grow]; rfl⟩
    · rw [show ltW ⟨v1, b1, s1⟩ ⟨v2, b2, s2⟩ = false from by rw [ltW_not]; simp only; omega]
      have h2' : (v1 == v2) = false := by rw [beq_eq_false_iff_ne]; exact h2
      go_enter Try.func79, Try.ntmps79
      go_wp2
      go_ret
      exact ⟨rfl, 0, _, by rw [alloc_eq_grow, alloc_eq_grow, grow_grow]; rfl⟩

/-- The same writes? -/
noncomputable def eqW (a b : List Wr) : Bool := @decide (a = b) (Classical.propDecidable _)
theorem eqW_self (a : List Wr) : eqW a a = true := by unfold eqW; exact @decide_eq_true _ (Classical.propDecidable _) rfl
theorem eqW_ne {a b : List Wr} (h : a ≠ b) : eqW a b = false := by unfold eqW; exact @decide_eq_false _ (Classical.propDecidable _) h

def sameW (x y : Wr) : Bool := (x.vol == y.vol) && ((x.block == y.block) && (x.data.toList == y.data.toList))
theorem sameW_self (x : Wr) : sameW x x = true := by simp [sameW]
theorem sameW_ne {x y : Wr} (h : x ≠ y) : sameW x y = false := by
  rw [Bool.eq_false_iff]
  intro e
  simp only [sameW, Bool.and_eq_true, beq_iff_eq] at e
  refine h (wr_ext e.1 e.2.1 ?_)
  have := e.2.2
  rw [bytes_list, bytes_list] at this
  rw [← str_of x.data, ← str_of y.data, this]
set_option maxRecDepth 100000 in
theorem eqlIn_write (x y : Wr) (w : World) : (Op.equalIn 10000 74 (.agg #[.int .i64 x.vol, .int .i64 x.block, .string x.data]) (.agg #[.int .i64 y.vol, .int .i64 y.block, .string y.data])).run Try.prog w = .ok (sameW x y) w := by
  rw [run_equalIn_struct w 9999 74 _ _ (by kernel_rfl) (by kernel_rfl)]
  have hf : (Try.prog.fieldsOf 74).toList.map (fun f => (f.name, f.type, f.offset)) = [("Vol", 3, 0), ("Block", 3, 1), ("Data", 9, 2)] := by kernel_rfl
  obtain ⟨fs, hfs⟩ : ∃ fs, (Try.prog.fieldsOf 74).toList = fs := ⟨_, rfl⟩
  rw [hfs] at hf ⊢
  match fs, hf with
  | [f1, f2, f3], hf =>
    simp only [List.map_cons, List.map_nil, List.cons.injEq, Prod.mk.injEq, and_true] at hf
    obtain ⟨⟨a1, a2, a3⟩, ⟨b1, b2, b3⟩, ⟨c1, c2, c3⟩⟩ := hf
    simp only [Op.eqFields, a1, a2, a3, b1, b2, b3, c1, c2, c3]
    have q1 := run_equalIn_int (P := Try.prog) w 9998 3 .i64 .i64 x.vol y.vol Try.underlying3
    have q2 := run_equalIn_int (P := Try.prog) w 9998 3 .i64 .i64 x.block y.block Try.underlying3
    have q3 := run_equalIn_string (P := Try.prog) w 9998 9 x.data y.data Try.underlying9
    unfold sameW
    cases h1 : x.vol == y.vol <;> rw [h1] at q1 <;> cases h2 : x.block == y.block <;> rw [h2] at q2 <;> cases h3 : x.data.toList == y.data.toList <;> rw [h3] at q3 <;> simp [part, q1, q2, q3, Try.isAgg3, Try.isAgg9, Sem.run_bind, Result.andThen]

theorem neq_write (x y : Wr) (w : World) : (binOp .neq 74 (.agg #[.int .i64 x.vol, .int .i64 x.block, .string x.data]) (.agg #[.int .i64 y.vol, .int .i64 y.block, .string y.data])).run Try.prog w = .ok (.bool (!sameW x y)) w := by
  rw [run_neq_struct, eqlIn_write]; rfl
theorem eql_write (x y : Wr) (w : World) : (binOp .eql 74 (.agg #[.int .i64 x.vol, .int .i64 x.block, .string x.data]) (.agg #[.int .i64 y.vol, .int .i64 y.block, .string y.data])).run Try.prog w = .ok (.bool (sameW x y)) w := by
  rw [run_eql_struct, eqlIn_write]; rfl
theorem guard_write (op : BinOp) (x y : Operand) (xs ys : Array Value) (w : World) : (eqGuard op 74 x y (.agg xs) (.agg ys)).run Try.prog w = .ok () w := run_eqGuard_agg w op _ x y xs ys (by kernel_rfl)

set_option maxHeartbeats 2000000 in
set_option maxRecDepth 100000 in
theorem RefEqW_any {w : World} {A1 A2 : Option Addr} {c1 c2 : Nat} {xs ys : List Wr} (h1 : WrsAt w w.heap.size A1 xs) (h2 : WrsAt w w.heap.size A2 ys) (hl1 : xs.length ≤ 9223372036854775807) :
    Calls Try.prog 70 #[.slice A1 xs.length c1, .slice A2 ys.length c2] w fun e w' => e = .returned (.bool (eqW xs ys)) ∧ Below w.heap.size w w' := by
  by_cases hlen : xs.length = ys.length
  · have H1 := Lib.hid h1
    have H2 := Lib.hid h2
    have mixed : Try.prog.follows .mixedOrders = true := by kernel_rfl
    obtain ⟨n, hn⟩ : ∃ n, xs.length = n := ⟨_, rfl⟩
    have HN1 := Lib.hid hn
    have HN2 : Hid (ys.length = n) := Lib.hid (by rw [← hlen]; exact hn)
    rw [← hlen, hn]
    rw [hn] at hl1
    clear h1 h2 hn hlen
    go_enter Try.func70, Try.ntmps70
    go_wp2
    go_loopg [5] n (fun kx i wr => ∃ k : Nat, k ≤ n ∧ n - k ≤ kx ∧ i = .int .i64 k ∧ Hid (xs.take k = ys.take k) ∧ Hid (Below w.heap.size w wr))
    case atStart => exact ⟨0, Nat.zero_le _, by omega, rfl, Lib.hid (by simp), Lib.hid (Below.refl _ _)⟩
    case round =>
      obtain ⟨k, hk, hkx, rfl, HK, HB⟩ := hrel
      by_cases hlt : k < n
      · have hk1 : k < xs.length := by rw [HN1.out]; exact hlt
        have hk2 : k < ys.length := by rw [HN2.out]; exact hlt
        obtain ⟨b1, o1, hA1, _, x1, x2, x3⟩ := H1.out.at_ HB.out hk1
        obtain ⟨b2, o2, hA2, _, y1, y2, y3⟩ := H2.out.at_ HB.out hk2
        subst hA1
        subst hA2
        have HNo : Hid (xs[k] ≠ ys[k] → eqW xs ys = false) := Lib.hid (fun h => eqW_ne (ne_at hk1 hk2 h))
        have HYes : Hid (xs[k] = ys[k] → xs.take (k + 1) = ys.take (k + 1)) := Lib.hid (fun h => take_eq_step HK.out hk1 hk2 h)
        obtain ⟨u, hu⟩ : ∃ u, xs[k] = u := ⟨_, rfl⟩
        obtain ⟨v, hv⟩ : ∃ v, ys[k] = v := ⟨_, rfl⟩
        rw [hu] at x1 x2 x3 HNo HYes
        rw [hv] at y1 y2 y3 HNo HYes
        clear hu hv hk1 hk2 HK
        obtain ⟨i1, j1, s1⟩ := u
        obtain ⟨i2, j2, s2⟩ := v
        simp only at x1 x2 x3 y1 y2 y3
        have hk0 : (0 : Int) ≤ (k : Int) := Int.natCast_nonneg _
        have hk8 : (k : Int) < (n : Int) := by omega
        have hne := neq_write ⟨i1, j1, s1⟩ ⟨i2, j2, s2⟩
        have hgd := guard_write
        simp only at hne
        by_cases he : (⟨i1, j1, s1⟩ : Wr) = ⟨i2, j2, s2⟩
        · have HE := Lib.hid (HYes.out he)
          rw [he, sameW_self] at hne
          simp only [Bool.not_true] at hne
          have e1 : i1 = i2 := congrArg Wr.vol he
          have e2 : j1 = j2 := congrArg Wr.block he
          have e3 : s1 = s2 := congrArg Wr.data he
          subst e1
          subst e2
          subst e3
          clear he HYes HNo
          go_wp2_with fail
          go_quiet (fail)
          go_wp2_with fail
          go_roundg (n - (k + 1))
          case measure => omega
          case rel => exact ⟨k + 1, by omega, Nat.le_refl _, by go_num, HE, Lib.hid (HB.out.trans ⟨rfl, rfl, rfl, Nat.le_refl _, fun _ _ => rfl⟩)⟩
        · have HE := Lib.hid (HNo.out he)
          rw [sameW_ne he] at hne
          simp only [Bool.not_false] at hne
          clear he HYes HNo
          go_wp2_with fail
          go_quiet (fail)
          go_wp2_with fail
          go_ret
          exact ⟨by rw [HE.out]; rfl, HB.out.trans ⟨rfl, rfl, rfl, Nat.le_refl _, fun _ _ => rfl⟩⟩
      · have hltz : ¬ (k : Int) < (n : Int) := by omega
        have HE : Hid (eqW xs ys = true) := Lib.hid (by rw [take_eq_all HK.out (by rw [HN1.out]; omega) (by rw [HN2.out]; omega)]; exact eqW_self _)
        go_wp2_with fail
        go_ret
        exact ⟨by rw [HE.out]; rfl, HB.out⟩
  · have hlz : ((xs.length : Int) != (ys.length : Int)) = true := by rw [bne_iff_ne]; omega
    have HE : Hid (eqW xs ys = false) := Lib.hid (eqW_ne (fun e => hlen (by rw [e])))
    clear h1 h2 hlen
    go_enter Try.func70, Try.ntmps70
    go_wp2
    go_ret
    exact ⟨by rw [HE.out]; rfl, Below.refl _ _⟩
end Go.Proofs.Ythajgoigmkkbgaa

namespace Go.Proofs.Ythajgoigmkkbgaa
open Go.Shelf Go.RowKit Go.Lib Go.Sort

/-! ### Marks in memory -/

abbrev Mk := Int × Int
def MksAt (w : World) (B : Nat) (A : Option Addr) (ms : List Mk) : Prop :=
  ms = [] ∨ ∃ b off, A = some ⟨b, off, none⟩ ∧ b < B ∧ ∀ i, (h : i < ms.length) → w.cell? ⟨b, off + i * 2, none⟩ = some (.int .i64 ms[i].1) ∧ w.cell? ⟨b, off + i * 2 + 1, none⟩ = some (.int .i64 ms[i].2)
theorem MksAt.at_ {w w' : World} {B : Nat} {A : Option Addr} {ms : List Mk} (h : MksAt w B A ms) (hb : Below B w w') {i : Nat} (hi : i < ms.length) :
    ∃ b off, A = some ⟨b, off, none⟩ ∧ b < B ∧ w'.cell? ⟨b, off + i * 2, none⟩ = some (.int .i64 ms[i].1) ∧ w'.cell? ⟨b, off + i * 2 + 1, none⟩ = some (.int .i64 ms[i].2) := by
  rcases h with rfl | ⟨b, off, hA, hlt, hc⟩
  · simp at hi
  · obtain ⟨h1, h2⟩ := hc i hi
    exact ⟨b, off, hA, hlt, (hb.cell (p := ⟨b, off + i * 2, none⟩) hlt).trans h1, (hb.cell (p := ⟨b, off + i * 2 + 1, none⟩) hlt).trans h2⟩
theorem MksAt.below {w w' : World} {B : Nat} {A : Option Addr} {ms : List Mk} (h : MksAt w B A ms) (hb : Below B w w') : MksAt w' B A ms := by
  rcases h with h | ⟨b, off, hA, hlt, hc⟩
  · exact .inl h
  · exact .inr ⟨b, off, hA, hlt, fun i hi => ⟨(hb.cell (p := ⟨b, off + i * 2, none⟩) hlt).trans (hc i hi).1, (hb.cell (p := ⟨b, off + i * 2 + 1, none⟩) hlt).trans (hc i hi).2⟩⟩
theorem MksAt.more {w : World} {B B' : Nat} {A : Option Addr} {ms : List Mk} (h : MksAt w B A ms) (hB : B ≤ B') : MksAt w B' A ms := by
  rcases h with h | ⟨b, off, hA, hlt, hc⟩
  · exact .inl h
  · exact .inr ⟨b, off, hA, by omega, hc⟩
theorem MksAt.next {w w' : World} {A : Option Addr} {ms : List Mk} (h : MksAt w w.heap.size A ms) (hb : Below w.heap.size w w') : MksAt w' w'.heap.size A ms := (h.below hb).more hb.size
def mkCells : List Mk → List Value
  | [] => []
  | x :: ms => .int .i64 x.1 :: .int .i64 x.2 :: mkCells ms
theorem mkCells_length (ms : List Mk) : (mkCells ms).length = ms.length * 2 := by
  induction ms with
  | nil => rfl
  | cons x ms ih => simp [mkCells, ih]; omega
theorem mkCells_append (a b : List Mk) : mkCells (a ++ b) = mkCells a ++ mkCells b := by
  induction a with
  | nil => rfl
  | cons x a ih => simp [mkCells, ih]
theorem mkCells_at {ms : List Mk} {k : Nat} (hk : k < ms.length) : (mkCells ms)[k * 2]? = some (.int .i64 ms[k].1) ∧ (mkCells ms)[k * 2 + 1]? = some (.int .i64 ms[k].2) := by
  induction ms generalizing k with
  | nil => simp at hk
  | cons x ms ih =>
    cases k with
    | zero => exact ⟨rfl, rfl⟩
    | succ k =>
      have := ih (k := k) (by simpa using hk)
      rw [show (k + 1) * 2 = k * 2 + 1 + 1 from by omega]
      simpa [mkCells] using this
theorem MksAt.of_lies {w : World} {B : Nat} {A : Option Addr} {ms : List Mk} (h : Lies w B A (mkCells ms)) : MksAt w B A ms := by
  rcases h with h | ⟨b, off, hA, hlt, hc⟩
  · have := mkCells_length ms
    rw [h] at this
    exact .inl (List.eq_nil_of_length_eq_zero (by simp at this; omega))
  · refine .inr ⟨b, off, hA, hlt, fun i hi => ?_⟩
    have hl := mkCells_length ms
    obtain ⟨g1, g2⟩ := mkCells_at hi
    refine ⟨?_, ?_⟩
    · rw [hc (i * 2) (by omega)]
      rw [List.getElem?_eq_getElem (by omega)] at g1
      exact g1
    · rw [Nat.add_assoc, hc (i * 2 + 1) (by omega)]
      rw [List.getElem?_eq_getElem (by omega)] at g2
      exact g2
/-- What a call that hands back marks leaves. -/
def MksEnd (ms : List Mk) (w : World) (e : Ending) (w' : World) : Prop :=
  ∃ A c, e = .returned (.slice A ms.length c) ∧ MksAt w' w'.heap.size A ms ∧ Below w.heap.size w w'
theorem own_endM {w0 w : World} {base : Nat} {v : Value} {ms : List Mk} {t : TypeId} (h : w.ownsRow base t 2 v ms.length (mkCells ms)) (hb : Below w0.heap.size w0 w) : MksEnd ms w0 (.returned v) w := by
  obtain ⟨A, c, rfl, _, hl⟩ := own_lies h
  exact ⟨A, c, rfl, MksAt.of_lies hl, hb⟩

/-! ### SameMarks -/

def sameM (x y : Mk) : Bool := (x.1 == y.1) && (x.2 == y.2)
theorem sameM_self (x : Mk) : sameM x x = true := by simp [sameM]
theorem sameM_ne {x y : Mk} (h : x ≠ y) : sameM x y = false := by
  rw [Bool.eq_false_iff]
  intro e
  simp only [sameM, Bool.and_eq_true, beq_iff_eq] at e
  exact h (Prod.ext e.1 e.2)
set_option maxRecDepth 100000 in
theorem eqlIn_mark (x y : Mk) (w : World) : (Op.equalIn 10000 88 (.agg #[.int .i64 x.1, .int .i64 x.2]) (.agg #[.int .i64 y.1, .int .i64 y.2])).run Try.prog w = .ok (sameM x y) w := by
  rw [run_equalIn_struct w 9999 88 _ _ (by kernel_rfl) (by kernel_rfl)]
  have hf : (Try.prog.fieldsOf 88).toList.map (fun f => (f.name, f.type, f.offset)) = [("Vol", 3, 0), ("Block", 3, 1)] := by kernel_rfl
  obtain ⟨fs, hfs⟩ : ∃ fs, (Try.prog.fieldsOf 88).toList = fs := ⟨_, rfl⟩
  rw [hfs] at hf ⊢
  match fs, hf with
  | [f1, f2], hf =>
    simp only [List.map_cons, List.map_nil, List.cons.injEq, Prod.mk.injEq, and_true] at hf
    obtain ⟨⟨a1, a2, a3⟩, ⟨b1, b2, b3⟩⟩ := hf
    simp only [Op.eqFields, a1, a2, a3, b1, b2, b3]
    have q1 := run_equalIn_int (P := Try.prog) w 9998 3 .i64 .i64 x.1 y.1 Try.underlying3
    have q2 := run_equalIn_int (P := Try.prog) w 9998 3 .i64 .i64 x.2 y.2 Try.underlying3
    unfold sameM
    cases h1 : x.1 == y.1 <;> rw [h1] at q1 <;> cases h2 : x.2 == y.2 <;> rw [h2] at q2 <;> simp [part, q1, q2, Try.isAgg3, Sem.run_bind, Result.andThen]
theorem neq_mark (x y : Mk) (w : World) : (binOp .neq 88 (.agg #[.int .i64 x.1, .int .i64 x.2]) (.agg #[.int .i64 y.1, .int .i64 y.2])).run Try.prog w = .ok (.bool (!sameM x y)) w := by
  rw [run_neq_struct, eqlIn_mark]; rfl
theorem guard_mark (op : BinOp) (x y : Operand) (xs ys : Array Value) (w : World) : (eqGuard op 88 x y (.agg xs) (.agg ys)).run Try.prog w = .ok () w := run_eqGuard_agg w op _ x y xs ys (by kernel_rfl)
def eqM (a b : List Mk) : Bool := decide (a = b)
theorem eqM_self (a : List Mk) : eqM a a = true := by simp [eqM]
theorem eqM_ne {a b : List Mk} (h : a ≠ b) : eqM a b = false := by simp [eqM, h]

set_option maxHeartbeats 2000000 in
set_option maxRecDepth 100000 in
theorem Bytes_any {w : World} {A : Option Addr} {c : Nat} {ws : List Wr} (h : WrsAt w w.heap.size A ws) (hl : ws.length ≤ 9223372036854775807) (hb : bytesW ws ≤ 4611686018427387904) :
    Calls Try.prog 41 #[.slice A ws.length c] w fun e w' => e = .returned (.int .i64 (bytesW ws)) ∧ Below w.heap.size w w' := by
  have HV := Lib.hid h
  obtain ⟨n, hn⟩ : ∃ n, ws.length = n := ⟨_, rfl⟩
  have HN := Lib.hid hn
  have HBy := Lib.hid hb
  rw [hn] at hl ⊢
  clear h hn hb
  go_enter Try.func41, Try.ntmps41
  go_wp2
  go_loopg [3, 8] n (fun kx s i wr => ∃ k m : Nat, k ≤ n ∧ n - k ≤ kx ∧ i = .int .i64 k ∧ s = .int .i64 m ∧ Hid (m = bytesW (ws.take k)) ∧ Hid (Below w.heap.size w wr))
  case atStart => exact ⟨0, 0, Nat.zero_le _, by omega, rfl, rfl, Lib.hid rfl, Lib.hid (Below.refl _ _)⟩
  case round =>
    obtain ⟨k, m, hk, hkx, rfl, rfl, HM, HB⟩ := hrel
    by_cases hlt : k < n
    · have hkl : k < ws.length := by rw [HN.out]; exact hlt
      obtain ⟨b, off, hA, hbl, x1, x2, x3⟩ := HV.out.at_ HB.out hkl
      have hwz : w.heap.size ≤ wr.heap.size := HB.out.size
      have hbw : b < wr.heap.size := by omega
      subst hA
      have HS : Hid (m + (8 + ws[k].data.size) = bytesW (ws.take (k + 1))) := Lib.hid (by rw [List.take_succ_eq_append_getElem hkl, bytesW_snoc, HM.out])
      have hsz : m + (8 + ws[k].data.size) ≤ 4611686018427387904 := by
        have h1 := HS.out
        have h2 : bytesW (ws.take (k + 1)) ≤ bytesW ws := by
          conv => rhs; rw [← List.take_append_drop (k + 1) ws]
          unfold bytesW; rw [List.map_append, List.sum_append]; exact Nat.le_add_right _ _
        have h3 := HBy.out
        omega
      obtain ⟨x, hx⟩ : ∃ x, ws[k] = x := ⟨_, rfl⟩
      rw [hx] at x1 x2 x3 HS hsz
      clear hx hkl HM
      obtain ⟨vol, block, data⟩ := x
      simp only at x1 x2 x3 HS hsz
      have hltz : (k : Int) < (n : Int) := by omega
      have HB2 := Lib.hid (HB.out.alloc hwz (.cells #[.int .i64 vol, .int .i64 block, .string data] 74))
      go_wp2_with fail
      go_roundg (n - (k + 1))
      case measure => omega
      case rel => exact ⟨k + 1, m + (8 + data.size), by omega, Nat.le_refl _, by go_num, by first | rfl | go_num | (congr 1; omega), HS, by first | exact HB2 | exact HB⟩
    · have hltz : ¬ (k : Int) < (n : Int) := by omega
      have HE : Hid (m = bytesW ws) := Lib.hid (by rw [HM.out, List.take_of_length_le (by rw [HN.out]; omega)])
      go_wp2_with fail
      go_ret
      exact ⟨by rw [← HE.out]; rfl, HB.out⟩

set_option maxHeartbeats 2000000 in
set_option maxRecDepth 100000 in
theorem RefBytes_any {w : World} {A : Option Addr} {c : Nat} {ws : List Wr} (h : WrsAt w w.heap.size A ws) (hl : ws.length ≤ 9223372036854775807) (hb : bytesW ws ≤ 4611686018427387904) :
    Calls Try.prog 32 #[.slice A ws.length c] w fun e w' => e = .returned (.int .i64 (bytesW ws)) ∧ Below w.heap.size w w' := by
  have HV := Lib.hid h
  obtain ⟨n, hn⟩ : ∃ n, ws.length = n := ⟨_, rfl⟩
  have HN := Lib.hid hn
  have HBy := Lib.hid hb
  rw [hn] at hl ⊢
  clear h hn hb
  go_enter Try.func32, Try.ntmps32
  go_wp2
  go_loopg [3, 4] n (fun kx s i wr => ∃ k m : Nat, k ≤ n ∧ n - k ≤ kx ∧ i = .int .i64 k ∧ s = .int .i64 m ∧ Hid (m = bytesW (ws.take k)) ∧ Hid (Below w.heap.size w wr))
  case atStart => exact ⟨0, 0, Nat.zero_le _, by omega, rfl, rfl, Lib.hid rfl, Lib.hid (Below.refl _ _)⟩
  case round =>
    obtain ⟨k, m, hk, hkx, rfl, rfl, HM, HB⟩ := hrel
    by_cases hlt : k < n
    · have hkl : k < ws.length := by rw [HN.out]; exact hlt
      obtain ⟨b, off, hA, hbl, x1, x2, x3⟩ := HV.out.at_ HB.out hkl
      have hwz : w.heap.size ≤ wr.heap.size := HB.out.size
      have hbw : b < wr.heap.size := by omega
      subst hA
      have HS : Hid (m + (8 + ws[k].data.size) = bytesW (ws.take (k + 1))) := Lib.hid (by rw [List.take_succ_eq_append_getElem hkl, bytesW_snoc, HM.out])
      have hsz : m + (8 + ws[k].data.size) ≤ 4611686018427387904 := by
        have h1 := HS.out
        have h2 : bytesW (ws.take (k + 1)) ≤ bytesW ws := by
          conv => rhs; rw [← List.take_append_drop (k + 1) ws]
          unfold bytesW; rw [List.map_append, List.sum_append]; exact Nat.le_add_right _ _
        have h3 := HBy.out
        omega
      obtain ⟨x, hx⟩ : ∃ x, ws[k] = x := ⟨_, rfl⟩
      rw [hx] at x1 x2 x3 HS hsz
      clear hx hkl HM
      obtain ⟨vol, block, data⟩ := x
      simp only at x1 x2 x3 HS hsz
      have hltz : (k : Int) < (n : Int) := by omega
      have HB2 := Lib.hid (HB.out.alloc hwz (.cells #[.int .i64 vol, .int .i64 block, .string data] 74))
      go_wp2_with fail
      go_roundg (n - (k + 1))
      case measure => omega
      case rel => exact ⟨k + 1, m + (8 + data.size), by omega, Nat.le_refl _, by go_num, by first | rfl | go_num | (congr 1; omega), HS, by first | exact HB2 | exact HB⟩
    · have hltz : ¬ (k : Int) < (n : Int) := by omega
      have HE : Hid (m = bytesW ws) := Lib.hid (by rw [HM.out, List.take_of_length_le (by rw [HN.out]; omega)])
      go_wp2_with fail
      go_ret
      exact ⟨by rw [← HE.out]; rfl, HB.out⟩
end Go.Proofs.Ythajgoigmkkbgaa

namespace Go.Proofs.Ythajgoigmkkbgaa

/-- Still to come: greater than the last one. -/
def candB (out : List Wr) (y : Wr) : Bool := match out.getLast? with
  | none => true
  | some l => ltW l y
theorem candB_nil (y : Wr) : candB [] y = true := rfl
theorem candB_last {out : List Wr} {l : Wr} (h : out.getLast? = some l) (y : Wr) : candB out y = ltW l y := by unfold candB; rw [h]
theorem candB_snoc (out : List Wr) (z y : Wr) : candB (out ++ [z]) y = ltW z y := by unfold candB; rw [List.getLast?_append]; rfl

/-- The best of the first i: -1 where none is still to come. -/
structure BestAt (ws out : List Wr) (i : Nat) (best : Int) : Prop where
  none_ : best < 0 → ∀ t, (h : t < ws.length) → t < i → candB out ws[t] = false
  some_ : 0 ≤ best → ∃ (b : Nat) (hb : b < ws.length), best = (b : Int) ∧ b < i ∧ candB out ws[b] = true ∧ ∀ t, (h : t < ws.length) → t < i → candB out ws[t] = true → ltW ws[t] ws[b] = false ∧ (b < t → ltW ws[b] ws[t] = true)
theorem best_start (ws out : List Wr) : BestAt ws out 0 (-1) := ⟨fun _ t _ h => by omega, fun h => by omega⟩
theorem best_skip {ws out : List Wr} {i : Nat} {best : Int} (h : BestAt ws out i best) (hi : i < ws.length) (hc : candB out ws[i] = false) : BestAt ws out (i + 1) best := by
  refine ⟨fun hb t ht h1 => ?_, fun hb => ?_⟩
  · by_cases e : t = i
    · subst e; exact hc
    · exact h.none_ hb t ht (by omega)
  · obtain ⟨b, hb1, e1, e2, e3, e4⟩ := h.some_ hb
    refine ⟨b, hb1, e1, by omega, e3, fun t ht h1 h2 => ?_⟩
    by_cases e : t = i
    · subst e; rw [hc] at h2; cases h2
    · exact e4 t ht (by omega) h2
theorem best_take {ws out : List Wr} {i : Nat} {best : Int} (h : BestAt ws out i best) (hi : i < ws.length) (hc : candB out ws[i] = true) (hl : ∀ (b : Nat) (hb : b < ws.length), best = (b : Int) → ltW ws[b] ws[i] = false) : BestAt ws out (i + 1) (i : Int) := by
  refine ⟨fun hb => by omega, fun _ => ⟨i, hi, rfl, by omega, hc, fun t ht h1 h2 => ?_⟩⟩
  by_cases e : t = i
  · subst e; exact ⟨ltW_irr _, fun h => by omega⟩
  · refine ⟨?_, fun h => by omega⟩
    by_cases hb : best < 0
    · have := h.none_ hb t ht (by omega); rw [this] at h2; cases h2
    · obtain ⟨b, hb1, e1, e2, e3, e4⟩ := h.some_ (by omega)
      have g1 := (e4 t ht (by omega) h2).1
      have g2 := hl b hb1 e1
      rw [ltW_not] at *; omega
theorem best_keep {ws out : List Wr} {i b : Nat} (h : BestAt ws out i (b : Int)) (hi : i < ws.length) (hb : b < ws.length) (hl : ltW ws[b] ws[i] = true) : BestAt ws out (i + 1) (b : Int) := by
  refine ⟨fun h => by omega, fun _ => ?_⟩
  obtain ⟨b', hb1, e1, e2, e3, e4⟩ := h.some_ (by omega)
  obtain rfl : b' = b := by omega
  refine ⟨b', hb1, e1, by omega, e3, fun t ht h1 h2 => ?_⟩
  by_cases e : t = i
  · subst e
    refine ⟨?_, fun _ => hl⟩
    rw [ltW_iff] at hl
    rw [ltW_not]; omega
  · exact e4 t ht (by omega) h2

/-- What has been put out so far. -/
structure OutAt (ws out : List Wr) : Prop where
  sorted : sortedW out
  last : ∀ x ∈ out, lastF ws x.vol x.block = some x.data
  rest : ∀ y ∈ ws, candB out y = true ∨ ∃ x ∈ out, x.vol = y.vol ∧ x.block = y.block
theorem out_start (ws : List Wr) : OutAt ws [] := ⟨trivial, by simp, fun _ _ => Or.inl rfl⟩
theorem out_end {ws out : List Wr} (h : OutAt ws out) (hn : ∀ t, (ht : t < ws.length) → candB out ws[t] = false) : out = foldW ws := by
  refine foldW_of h.sorted (fun v b => ?_)
  by_cases hx : ∃ x ∈ out, x.vol = v ∧ x.block = b
  · obtain ⟨x, hx1, rfl, rfl⟩ := hx
    rw [lastF_sorted h.sorted hx1, h.last x hx1]
  · rw [lastF_none (fun x hx1 hk => hx ⟨x, hx1, hk.1, hk.2⟩), lastF_none (fun y hy hk => ?_)]
    rcases h.rest y hy with e | ⟨x, hx1, e1, e2⟩
    · obtain ⟨t, ht, rfl⟩ := List.getElem_of_mem hy
      rw [hn t ht] at e; cases e
    · exact hx ⟨x, hx1, by omega, by omega⟩
theorem sortedW_snoc {l : List Wr} {z : Wr} (h : sortedW l) (hz : ∀ x ∈ l, ltW x z = true) : sortedW (l ++ [z]) := by
  induction l with
  | nil => exact ⟨by simp, trivial⟩
  | cons x r ih =>
    refine ⟨fun y hy => ?_, ih h.2 (fun y hy => hz y (List.mem_cons_of_mem _ hy))⟩
    rcases List.mem_append.1 hy with hy | hy
    · exact h.1 y hy
    · simp only [List.mem_singleton] at hy
      subst hy; exact hz x List.mem_cons_self
theorem sortedW_last {l : List Wr} (h : sortedW l) {z x : Wr} (hz : l.getLast? = some z) (hx : x ∈ l) : x = z ∨ ltW x z = true := by
  induction l with
  | nil => cases hx
  | cons a r ih =>
    cases r with
    | nil =>
      simp at hz hx
      exact Or.inl (by rw [hx, hz])
    | cons b r' =>
      rw [List.getLast?_cons_cons] at hz
      rcases List.mem_cons.1 hx with e | e
      · subst e
        exact Or.inr (h.1 z (List.mem_of_getLast? hz))
      · exact ih h.2 hz e
theorem lastF_at {l : List Wr} {b : Nat} (hb : b < l.length) (h : ∀ t, (ht : t < l.length) → b < t → ¬ (l[t].vol = l[b].vol ∧ l[t].block = l[b].block)) : lastF l l[b].vol l[b].block = some l[b].data := by
  induction l generalizing b with
  | nil => simp at hb
  | cons x r ih =>
    rw [lastF]
    cases b with
    | zero =>
      simp only [List.getElem_cons_zero] at h ⊢
      rw [lastF_none (fun y hy hk => by
        obtain ⟨t, ht, rfl⟩ := List.getElem_of_mem hy
        exact h (t + 1) (by simpa using ht) (by omega) (by simpa using hk))]
      simp
    | succ b =>
      simp only [List.getElem_cons_succ] at h ⊢
      rw [ih (b := b) (by simpa using hb) (fun t ht hlt => by
        have := h (t + 1) (by simpa using ht) (by omega)
        simpa using this)]
theorem out_step {ws out : List Wr} {b : Nat} (h : OutAt ws out) (hB : BestAt ws out ws.length (b : Int)) (hb : b < ws.length) : OutAt ws (out ++ [ws[b]]) := by
  obtain ⟨b', hb1, e1, e2, e3, e4⟩ := hB.some_ (by omega)
  obtain rfl : b' = b := by omega
  refine ⟨sortedW_snoc h.sorted (fun x hx => ?_), fun x hx => ?_, fun y hy => ?_⟩
  · cases hl : out.getLast? with
    | none => rw [List.getLast?_eq_none_iff] at hl; rw [hl] at hx; cases hx
    | some l =>
      rw [candB_last hl] at e3
      rcases sortedW_last h.sorted hl hx with e | e
      · rw [e]; exact e3
      · exact ltW_trans e e3
  · rcases List.mem_append.1 hx with hx | hx
    · exact h.last x hx
    · simp only [List.mem_singleton] at hx
      subst hx
      refine lastF_at hb (fun t ht hlt hk => ?_)
      have hc : candB out ws[t] = true := by
        cases hl : out.getLast? with
        | none => unfold candB; rw [hl]
        | some l =>
          rw [candB_last hl] at e3 ⊢
          rw [ltW_iff] at e3 ⊢; omega
      have := (e4 t ht ht hc).2 hlt
      rw [ltW_iff] at this; omega
  · rw [candB_snoc]
    rcases h.rest y hy with e | ⟨x, hx1, g1, g2⟩
    · obtain ⟨t, ht, rfl⟩ := List.getElem_of_mem hy
      have g := (e4 t ht ht e).1
      by_cases c : ltW ws[b'] ws[t] = true
      · exact Or.inl c
      · refine Or.inr ⟨ws[b'], by simp, ?_⟩
        exact ltW_total (by simpa using c) g
    · exact Or.inr ⟨x, List.mem_append_left _ hx1, g1, g2⟩
/-- How many are still to come. -/
def leftB (ws out : List Wr) : Nat := (ws.filter (candB out)).length
theorem left_less {ws out : List Wr} {b : Nat} (hb : b < ws.length) (hc : candB out ws[b] = true) : leftB ws (out ++ [ws[b]]) < leftB ws out := by
  unfold leftB
  have e : ws.filter (candB (out ++ [ws[b]])) = (ws.filter (candB out)).filter (candB (out ++ [ws[b]])) := by
    rw [List.filter_filter]
    congr 1
    funext y
    cases hy : candB (out ++ [ws[b]]) y with
    | false => rfl
    | true =>
      rw [candB_snoc] at hy
      rw [Bool.true_and]
      cases hl : out.getLast? with
      | none => unfold candB; rw [hl]
      | some l => rw [candB_last hl] at hc ⊢; exact (ltW_trans hc hy).symm
  rw [e]
  rw [List.length_filter_lt_length_iff_exists]
  exact ⟨ws[b], List.mem_filter.2 ⟨List.getElem_mem hb, hc⟩, by rw [candB_snoc, ltW_irr]; simp⟩
theorem left_len (ws out : List Wr) : leftB ws out ≤ ws.length := List.length_filter_le _ _

/-! ### Folded -/

theorem sorted_at {l : List Wr} (h : sortedW l) {i : Nat} (hi : i + 1 < l.length) : ltW l[i] l[i + 1] = true := by
  induction l generalizing i with
  | nil => simp at hi
  | cons x r ih =>
    cases i with
    | zero => exact h.1 _ (List.getElem_mem (by simpa using hi))
    | succ i => simpa using ih h.2 (i := i) (by simpa using hi)
theorem sorted_of {l : List Wr} (h : ∀ i, (hi : i + 1 < l.length) → ltW l[i] l[i + 1] = true) : sortedW l := by
  induction l with
  | nil => trivial
  | cons x r ih =>
    have hr : sortedW r := ih (fun i hi => h (i + 1) (by simpa using hi))
    refine ⟨fun y hy => ?_, hr⟩
    cases r with
    | nil => cases hy
    | cons z r' =>
      have h0 : ltW x z = true := by simpa using h 0 (by simp)
      rcases List.mem_cons.1 hy with e | e
      · rw [e]; exact h0
      · exact ltW_trans h0 (hr.1 y e)
theorem not_fold {l : List Wr} {i : Nat} (hi : i + 1 < l.length) (h : ltW l[i] l[i + 1] = false) : l ≠ foldW l := fun e => by
  have hs : sortedW l := by rw [e]; exact foldW_sorted l
  rw [sorted_at hs hi] at h; cases h
end Go.Proofs.Ythajgoigmkkbgaa

namespace Go.Proofs.Ythajgoigmkkbgaa
open Go.Shelf Go.RowKit Go.Lib Go.Sort

theorem below_grown (w : World) (q : Nat) (os : Array Obj) : Below w.heap.size w (grow (w.drewN q) os) :=
  ⟨rfl, rfl, rfl, by rw [size_grow]; exact Nat.le_add_right _ _, fun i hi => by
    show (w.heap ++ os)[i]? = _
    rw [Array.getElem?_append_left hi]⟩
/-- One write of a row, in every world of the class. -/
theorem WrsAt.grown_at {w wr : World} {B : Nat} {A : Option Addr} {ws : List Wr} (h : WrsAt w B A ws) (hb : Below B w wr) (hB : B ≤ wr.heap.size) {i : Nat} (hi : i < ws.length) :
    ∃ b off, A = some ⟨b, off, none⟩ ∧ (∀ q os, (grow (wr.drewN q) os).cell? ⟨b, off + i * 3, none⟩ = some (.int .i64 ws[i].vol)) ∧ (∀ q os, (grow (wr.drewN q) os).cell? ⟨b, off + i * 3 + 1, none⟩ = some (.int .i64 ws[i].block)) ∧ (∀ q os, (grow (wr.drewN q) os).cell? ⟨b, off + i * 3 + 2, none⟩ = some (.string ws[i].data)) := by
  obtain ⟨b, off, hA, hlt, h1, h2, h3⟩ := h.at_ hb hi
  exact ⟨b, off, hA, fun q os => cell_grown (by show b < _; omega) h1 q os, fun q os => cell_grown (by show b < _; omega) h2 q os, fun q os => cell_grown (by show b < _; omega) h3 q os⟩

set_option maxHeartbeats 8000000 in
set_option maxRecDepth 100000 in
theorem RefFold_any {w : World} {A : Option Addr} {c : Nat} {ws : List Wr} (h : WrsAt w w.heap.size A ws) (hn : ws.length ≤ 4000) :
    Calls Try.prog 71 #[.slice A ws.length c] w (WrsEnd (foldW ws) w) := by
  have HV := Lib.hid h
  have mixed : Try.prog.follows .mixedOrders = true := by kernel_rfl
  obtain ⟨i0, hi0, hz0, hz1, hz2⟩ := info_parts Try.infoWr
  obtain ⟨n, hnn⟩ : ∃ n, ws.length = n := ⟨_, rfl⟩
  have HN := Lib.hid hnn
  rw [hnn] at hn ⊢
  clear h hnn
  go_enter Try.func71, Try.ntmps71
  go_wp2
  go_loopg [3] (n + 1) (fun kx s3 wr => ∃ (m lf : Nat) (out : List Wr), out.length = m ∧ m + lf ≤ n ∧ lf + 1 ≤ kx ∧ Hid (leftB ws out = lf) ∧ Hid (OutAt ws out) ∧ Hid (wr.ownsRow w.heap.size 74 3 s3 m (wrCells out)) ∧ Hid (Below w.heap.size w wr))
  case atStart => exact ⟨0, n, [], rfl, by omega, Nat.le_refl _, Lib.hid (by rw [← HN.out]; unfold leftB; rw [show candB [] = fun _ => true from rfl]; simp), Lib.hid (out_start _), Lib.hid (World.ownsRow_nil _ _ _ _), Lib.hid (Below.refl _ _)⟩
  case round =>
    obtain ⟨m, lf, out, hm, hml, hkx, HL, HOut, HO, HB⟩ := hrel
    obtain ⟨A4, c4, h4, hxx, hlies⟩ := own_lies HO.out
    have HAo : Hid (WrsAt wr wr.heap.size A4 out) := Lib.hid (WrsAt.of_lies hlies)
    clear hxx hlies
    subst h4
    have hwz : w.heap.size ≤ wr.heap.size := HB.out.size
    obtain ⟨W0, hW0⟩ : ∃ W0, W0 = wr := ⟨_, rfl⟩
    subst hW0
    generalize hm1 : (-1 : Int) = m1
    have HM1 : Hid (m1 = -1) := Lib.hid hm1.symm
    have hm1' : m1 < 0 := by omega
    clear hm1
    go_wp2_with fail
    go_loopg [4, 5] n (fun kx s4 s5 wr => ∃ (i : Nat) (best : Int), s4 = .int .i64 best ∧ s5 = .int .i64 i ∧ i ≤ n ∧ n - i ≤ kx ∧ -1 ≤ best ∧ best < (i : Int) + 1 ∧ Hid (BestAt ws out i best) ∧ Hid (Below W0.heap.size W0 wr))
    case atStart => exact ⟨0, m1, rfl, rfl, Nat.zero_le _, by omega, by have := HM1.out; omega, by omega, Lib.hid (by rw [HM1.out]; exact best_start _ _), Lib.hid (Below.refl _ _)⟩
    case round =>
      obtain ⟨i, best, rfl, rfl, hi, hkx2, hb1, hb2, HBe, HB1⟩ := hrel
      by_cases hlt : i < n
      · have hltz : (i : Int) < (n : Int) := by omega
        have hil : i < ws.length := by rw [HN.out]; exact hlt
        by_cases hm0 : m = 0
        · have hmz : ¬ (0 : Int) < (m : Int) := by omega
          have hmz' : decide (0 < m) = false := decide_eq_false (by omega)
          have hout : out = [] := List.eq_nil_of_length_eq_zero (by omega)
          have HCand : Hid (candB out ws[i] = true) := Lib.hid (by rw [hout]; rfl)
          have HB5 : Hid (Below W0.heap.size W0 wr.drew) := Lib.hid HB1.out.drew
          clear hout hm0
          go_wp2_with fail
          go_big_region_o
          generalize wr.drew = w5 at HB5 ⊢
          go_wp2_with fail
          by_cases hb0 : best < 0
          · have hbz : decide (best < 0) = true := decide_eq_true hb0
            have HB9 : Hid (BestAt ws out (i + 1) (i : Int)) := Lib.hid (best_take HBe.out hil HCand.out (fun b hb e => by omega))
            have HB6 : Hid (Below W0.heap.size W0 w5.drew) := Lib.hid HB5.out.drew
            go_wp2_with fail
            go_big_region_o
            generalize w5.drew = w6 at HB6 ⊢
            go_wp2_with fail
            go_roundg (n - (i + 1))
            case measure => omega
            case rel => exact ⟨i + 1, i, rfl, by go_num, by omega, Nat.le_refl _, by omega, by omega, HB9, HB6⟩
          · have hbz : decide (best < 0) = false := decide_eq_false hb0
            obtain ⟨b, hbl, rfl, hbi, _, _⟩ := HBe.out.some_ (by omega)
            have hlt2 := fun q os => less_any ws[b] ws[i] (grow (w5.drewN q) os)
            have hbw5 : Below w.heap.size w w5 := HB.out.trans (HB5.out.mono hwz)
            obtain ⟨bb, oo, hA1, z0, z1, z2⟩ := HV.out.grown_at hbw5 hbw5.size hil
            obtain ⟨bb', oo', hA2, y0, y1, y2⟩ := HV.out.grown_at hbw5 hbw5.size hbl
            first | subst hA1 | cases hA1
            cases hA2
            have p0 : (0 : Int) ≤ (b : Int) := Int.natCast_nonneg _
            have p1 : (b : Int) < (n : Int) := by omega
            have p2 : (0 : Int) ≤ (i : Int) := Int.natCast_nonneg _
            have p3 : (i : Int) < (n : Int) := by omega
            cases hL : ltW ws[b] ws[i] with
            | true =>
              have HB9 : Hid (BestAt ws out (i + 1) (b : Int)) := Lib.hid (best_keep HBe.out hil hbl hL)
              rw [hL] at hlt2
              generalize ws[b] = xb at hlt2 y0 y1 y2
              generalize ws[i] = xi at hlt2 z0 z1 z2
              clear hbw5 HCand HBe hL
              go_wp2_with fail
              go_quiet_grown (first | (go_at_call 79; refine Calls.grown_of (hlt2 _ _)))
              have HB6 : Hid (Below W0.heap.size W0 (grow (w5.drewN nq) osq)) := Lib.hid (HB5.out.trans ((below_grown _ nq osq).mono HB5.out.size))
              clear z0 z1 z2 y0 y1 y2 hlt2
              generalize grow (w5.drewN nq) osq = w6 at HB6 ⊢
              go_wp2_with fail
              go_roundg (n - (i + 1))
              case measure => omega
              case rel => exact ⟨i + 1, b, rfl, by go_num, by omega, Nat.le_refl _, by omega, by omega, HB9, HB6⟩
            | false =>
              have HB9 : Hid (BestAt ws out (i + 1) (i : Int)) := Lib.hid (best_take HBe.out hil HCand.out (fun b' hb e => by
                obtain rfl : b' = b := by omega
                exact hL))
              rw [hL] at hlt2
              generalize ws[b] = xb at hlt2 y0 y1 y2
              generalize ws[i] = xi at hlt2 z0 z1 z2
              clear hbw5 HCand HBe hL
              go_wp2_with fail
              go_quiet_grown (first | (go_at_call 79; refine Calls.grown_of (hlt2 _ _)))
              have HB6 : Hid (Below W0.heap.size W0 (grow (w5.drewN nq) osq)) := Lib.hid (HB5.out.trans ((below_grown _ nq osq).mono HB5.out.size))
              clear z0 z1 z2 y0 y1 y2 hlt2
              generalize grow (w5.drewN nq) osq = w6 at HB6 ⊢
              go_wp2_with fail
              go_roundg (n - (i + 1))
              case measure => omega
              case rel => exact ⟨i + 1, i, rfl, by go_num, by omega, Nat.le_refl _, by omega, by omega, HB9, HB6⟩
        · obtain ⟨mp, rfl⟩ : ∃ mp, m = mp + 1 := ⟨m - 1, by omega⟩
          have hmz : (0 : Int) < ((mp + 1 : Nat) : Int) := by omega
          have hmz' : decide (0 < mp + 1) = true := decide_eq_true (by omega)
          have hol : mp < out.length := by omega
          have hgl : out.getLast? = some out[mp] := by
            rw [List.getLast?_eq_getElem?, hm, Nat.add_sub_cancel, List.getElem?_eq_getElem hol]
          have hcb := candB_last hgl ws[i]
          have hlt2 := fun q os => less_any out[mp] ws[i] (grow (wr.drewN q) os)
          have hbw : Below w.heap.size w wr := HB.out.trans (HB1.out.mono hwz)
          obtain ⟨bb, oo, hA1, z0, z1, z2⟩ := HV.out.grown_at hbw hbw.size hil
          obtain ⟨bb', oo', hA2, y0, y1, y2⟩ := HAo.out.grown_at HB1.out HB1.out.size hol
          subst hA1
          subst hA2
          have p0 : (0 : Int) ≤ (mp : Int) := Int.natCast_nonneg _
          have p1 : (mp : Int) < ((mp + 1 : Nat) : Int) := by omega
          have p1' : (mp : Int) < (mp : Int) + 1 := by omega
          have p2 : (0 : Int) ≤ (i : Int) := Int.natCast_nonneg _
          have p3 : (i : Int) < (n : Int) := by omega
          have p4 : IntKind.i64.wrap (mp : Int) = (mp : Int) := by rw [IntKind.wrap_i64]; omega
          have p5 : IntKind.i64.wrap (((mp + 1 : Nat) : Int) - 1) = (mp : Int) := by rw [IntKind.wrap_i64]; omega
          have p6 : IntKind.i64.wrap ((mp : Int) + 1 - 1) = (mp : Int) := by rw [IntKind.wrap_i64]; omega
          cases hL : ltW out[mp] ws[i] with
          | true =>
            have HCand : Hid (candB out ws[i] = true) := Lib.hid (by rw [hcb]; exact hL)
            rw [hL] at hlt2
            generalize out[mp] = xb at hlt2 y0 y1 y2
            have hlt3 : ∀ xi, ws[i] = xi → True := fun _ _ => trivial
            obtain ⟨xi, hxi⟩ : ∃ xi, ws[i] = xi := ⟨_, rfl⟩
            rw [hxi] at hlt2 z0 z1 z2
            have HXi := Lib.hid hxi
            clear hbw hL hcb hgl hlt3 hxi
            go_wp2_with fail
            go_quiet_grown (first | (go_at_call 79; refine Calls.grown_of (hlt2 _ _)))
            have HB5 : Hid (Below W0.heap.size W0 (grow (wr.drewN nq) osq)) := Lib.hid (HB1.out.trans ((below_grown _ nq osq).mono HB1.out.size))
            clear z0 z1 z2 y0 y1 y2 hlt2 p0 p1 p1' p2 p3 p4 p5 p6
            generalize grow (wr.drewN nq) osq = w5 at HB5 ⊢
            clear nq osq
            go_wp2_with fail
            by_cases hb0 : best < 0
            · have hbz : decide (best < 0) = true := decide_eq_true hb0
              have HB9 : Hid (BestAt ws out (i + 1) (i : Int)) := Lib.hid (best_take HBe.out hil HCand.out (fun b hb e => by omega))
              have HB6 : Hid (Below W0.heap.size W0 w5.drew) := Lib.hid HB5.out.drew
              go_wp2_with fail
              go_big_region_o
              generalize w5.drew = w6 at HB6 ⊢
              go_wp2_with fail
              go_roundg (n - (i + 1))
              case measure => omega
              case rel => exact ⟨i + 1, i, rfl, by go_num, by omega, Nat.le_refl _, by omega, by omega, HB9, HB6⟩
            · have hbz : decide (best < 0) = false := decide_eq_false hb0
              obtain ⟨b, hbl, rfl, hbi, _, _⟩ := HBe.out.some_ (by omega)
              have hlt2 := fun q os => less_any ws[b] ws[i] (grow (w5.drewN q) os)
              have hbw5 : Below w.heap.size w w5 := HB.out.trans (HB5.out.mono hwz)
              obtain ⟨bb, oo, hA1, z0, z1, z2⟩ := HV.out.grown_at hbw5 hbw5.size hil
              obtain ⟨bb', oo', hA2, y0, y1, y2⟩ := HV.out.grown_at hbw5 hbw5.size hbl
              first | subst hA1 | cases hA1
              cases hA2
              have p0 : (0 : Int) ≤ (b : Int) := Int.natCast_nonneg _
              have p1 : (b : Int) < (n : Int) := by omega
              have p2 : (0 : Int) ≤ (i : Int) := Int.natCast_nonneg _
              have p3 : (i : Int) < (n : Int) := by omega
              cases hL : ltW ws[b] ws[i] with
              | true =>
                have HB9 : Hid (BestAt ws out (i + 1) (b : Int)) := Lib.hid (best_keep HBe.out hil hbl hL)
                rw [hL] at hlt2
                generalize ws[b] = xb at hlt2 y0 y1 y2
                generalize ws[i] = xi at hlt2 z0 z1 z2
                clear hbw5 HCand HBe hL
                go_wp2_with fail
                go_quiet_grown (first | (go_at_call 79; refine Calls.grown_of (hlt2 _ _)))
                have HB6 : Hid (Below W0.heap.size W0 (grow (w5.drewN nq) osq)) := Lib.hid (HB5.out.trans ((below_grown _ nq osq).mono HB5.out.size))
                clear z0 z1 z2 y0 y1 y2 hlt2
                generalize grow (w5.drewN nq) osq = w6 at HB6 ⊢
                go_wp2_with fail
                go_roundg (n - (i + 1))
                case measure => omega
                case rel => exact ⟨i + 1, b, rfl, by go_num, by omega, Nat.le_refl _, by omega, by omega, HB9, HB6⟩
              | false =>
                have HB9 : Hid (BestAt ws out (i + 1) (i : Int)) := Lib.hid (best_take HBe.out hil HCand.out (fun b' hb e => by
                  obtain rfl : b' = b := by omega
                  exact hL))
                rw [hL] at hlt2
                generalize ws[b] = xb at hlt2 y0 y1 y2
                generalize ws[i] = xi at hlt2 z0 z1 z2
                clear hbw5 HCand HBe hL
                go_wp2_with fail
                go_quiet_grown (first | (go_at_call 79; refine Calls.grown_of (hlt2 _ _)))
                have HB6 : Hid (Below W0.heap.size W0 (grow (w5.drewN nq) osq)) := Lib.hid (HB5.out.trans ((below_grown _ nq osq).mono HB5.out.size))
                clear z0 z1 z2 y0 y1 y2 hlt2
                generalize grow (w5.drewN nq) osq = w6 at HB6 ⊢
                go_wp2_with fail
                go_roundg (n - (i + 1))
                case measure => omega
                case rel => exact ⟨i + 1, i, rfl, by go_num, by omega, Nat.le_refl _, by omega, by omega, HB9, HB6⟩
          | false =>
            have HB9 : Hid (BestAt ws out (i + 1) best) := Lib.hid (best_skip HBe.out hil (by rw [hcb]; exact hL))
            rw [hL] at hlt2
            generalize out[mp] = xb at hlt2 y0 y1 y2
            generalize ws[i] = xi at hlt2 z0 z1 z2
            clear hbw hL hcb hgl
            go_wp2_with fail
            go_quiet_grown (first | (go_at_call 79; refine Calls.grown_of (hlt2 _ _)))
            have HB5 : Hid (Below W0.heap.size W0 (grow (wr.drewN nq) osq)) := Lib.hid (HB1.out.trans ((below_grown _ nq osq).mono HB1.out.size))
            clear z0 z1 z2 y0 y1 y2 hlt2 p0 p1 p1' p2 p3 p4 p5 p6
            generalize grow (wr.drewN nq) osq = w5 at HB5 ⊢
            clear nq osq
            go_wp2_with fail
            go_roundg (n - (i + 1))
            case measure => omega
            case rel => exact ⟨i + 1, best, rfl, by go_num, by omega, Nat.le_refl _, by omega, by omega, HB9, HB5⟩
      · have hltz : ¬ (i : Int) < (n : Int) := by omega
        have hin : ws.length = i := by rw [HN.out]; omega
        have HBe2 : Hid (BestAt ws out ws.length best) := Lib.hid (by rw [hin]; exact HBe.out)
        clear hin HBe
        have hbw : Below w.heap.size w wr := HB.out.trans (HB1.out.mono hwz)
        by_cases hb0 : best < 0
        · have HE : Hid (out = foldW ws) := Lib.hid (out_end HOut.out (fun t ht => HBe2.out.none_ hb0 t ht ht))
          have HO1 : Hid (wr.ownsRow w.heap.size 74 3 (.slice A4 m c4) m (wrCells out)) := Lib.hid (own_kept HO.out HB1.out)
          have HBW := Lib.hid hbw
          clear hbw
          go_wp2_with fail
          go_ret
          have hO := HO1.out
          rw [← hm] at hO
          have := own_end hO HBW.out
          rw [hm, HE.out] at this
          exact this
        · have hbz : ¬ best < 0 := hb0
          obtain ⟨b, hbl, rfl, hbi, hcb, _⟩ := HBe2.out.some_ (by omega)
          have HO2 : Hid (OutAt ws (out ++ [ws[b]])) := Lib.hid (out_step HOut.out HBe2.out hbl)
          have HL2 : Hid (leftB ws (out ++ [ws[b]]) < lf) := Lib.hid (by have := left_less hbl hcb; rw [HL.out] at this; exact this)
          have HO1 : Hid (wr.ownsRow w.heap.size 74 3 (.slice A4 m c4) m (wrCells out)) := Lib.hid (own_kept HO.out HB1.out)
          obtain ⟨bb, oo, hA1, hbb, x1, x2, x3⟩ := HV.out.at_ hbw hbl
          subst hA1
          have HBW := Lib.hid hbw
          have hwz2 : w.heap.size ≤ wr.heap.size := hbw.size
          have hbbw : bb < wr.heap.size := by omega
          have p0 : (0 : Int) ≤ (b : Int) := Int.natCast_nonneg _
          have p1 : (b : Int) < (n : Int) := by have := HN.out; omega
          obtain ⟨x, hx⟩ : ∃ x, ws[b] = x := ⟨_, rfl⟩
          rw [hx] at x1 x2 x3 HO2 HL2
          clear hx hcb hbw HBe2
          obtain ⟨vol, block, data⟩ := x
          simp only at x1 x2 x3
          go_wp2_with (at_builtin; refine wpList_append_own _ rfl (.tmp 47) (.tmp 52) 25 rfl w.heap.size 74 i0 (.agg #[.int .i64 0, .int .i64 0, .string ByteArray.empty]) 3 32 Try.underlying25 hi0 hz0 hz1 hz2 rfl (by decide) (.slice A4 m c4) m (wrCells out) rfl (HO1.out.alloc _) ⟨wr.heap.size, 0, none⟩ 1 1 [.int .i64 vol, .int .i64 block, .string data] rfl rfl (cell_three_new _ _ _ _ _) (by intro u hu; simp at hu; rcases hu with rfl | rfl | rfl <;> rfl) ?c4 ?c5 ?c6 ?_)
          case c4 => unfold maxLen; omega
          case c5 => omega
          case c6 => first | (simp; omega) | omega
          intro v6 w6 hown hg _
          have HO6 : Hid (w6.ownsRow w.heap.size 74 3 v6 (m + 1) (wrCells (out ++ [⟨vol, block, data⟩]))) := Lib.hid (by rw [wrCells_append]; exact hown)
          have HB6 : Hid (Below w.heap.size w w6) := Lib.hid ((HBW.out.alloc HBW.out.size _).grown hg (by have := HBW.out.size; simp; omega) (fun q hq => (HO1.out.lt q hq).1))
          clear hown hg x1 x2 x3 HO1
          go_wp2_with fail
          go_roundg (leftB ws (out ++ [⟨vol, block, data⟩]) + 1)
          case measure => have := HL2.out; omega
          case rel => exact ⟨m + 1, leftB ws (out ++ [⟨vol, block, data⟩]), out ++ [⟨vol, block, data⟩], by rw [List.length_append, hm]; rfl, by have := HL2.out; omega, Nat.le_refl _, Lib.hid rfl, HO2, HO6, HB6⟩
end Go.Proofs.Ythajgoigmkkbgaa

namespace Go.Proofs.Ythajgoigmkkbgaa
open Go.Shelf Go.RowKit Go.Lib Go.Sort

set_option maxHeartbeats 4000000 in
set_option maxRecDepth 100000 in
theorem Folded_any {w : World} {A : Option Addr} {c : Nat} {ws : List Wr} (h : WrsAt w w.heap.size A ws) (hn : ws.length ≤ 4000) :
    Calls Try.prog 43 #[.slice A ws.length c] w fun e w' => e = .returned (.bool (eqW ws (foldW ws))) ∧ Below w.heap.size w w' := by
  have HV := Lib.hid h
  have mixed : Try.prog.follows .mixedOrders = true := by kernel_rfl
  obtain ⟨n, hnn⟩ : ∃ n, ws.length = n := ⟨_, rfl⟩
  have HN := Lib.hid hnn
  rw [hnn] at hn ⊢
  clear h hnn
  go_enter Try.func43, Try.ntmps43
  go_wp2
  go_loopg [3] n (fun kx s wr => ∃ k : Nat, k ≤ n ∧ n - k ≤ kx ∧ s = .int .i64 ((k : Int) + 1) ∧ Hid (∀ i, (hi : i + 1 < ws.length) → i < k → ltW ws[i] ws[i + 1] = true) ∧ Hid (Below w.heap.size w wr))
  case atStart => exact ⟨0, Nat.zero_le _, by omega, rfl, Lib.hid (fun i hi h => by omega), Lib.hid (Below.refl _ _)⟩
  case round =>
    obtain ⟨k, hk, hkx, rfl, HI, HB⟩ := hrel
    by_cases hlt : k + 1 < n
    · have hltz : (k : Int) + 1 < (n : Int) := by omega
      have h1 : k < ws.length := by rw [HN.out]; omega
      have h2 : k + 1 < ws.length := by rw [HN.out]; omega
      have hcg := fun q os => compare_any ws[k] ws[k + 1] (grow (wr.drewN q) os)
      obtain ⟨bb, oo, hA1, z0, z1, z2⟩ := HV.out.grown_at HB.out HB.out.size h1
      obtain ⟨bb', oo', hA2, y0, y1, y2⟩ := HV.out.grown_at HB.out HB.out.size h2
      subst hA1
      cases hA2
      have p0 : (0 : Int) ≤ (k : Int) := Int.natCast_nonneg _
      have p1 : (k : Int) < (n : Int) := by omega
      have p2 : (0 : Int) ≤ (k : Int) + 1 := by omega
      have p3 : ((k : Int) + 1).toNat = k + 1 := by omega
      have p4 : IntKind.i64.wrap (k : Int) = (k : Int) := by rw [IntKind.wrap_i64]; omega
      have p5 : IntKind.i64.wrap ((k : Int) + 1 - 1) = (k : Int) := by rw [IntKind.wrap_i64]; omega
      by_cases hc : cmpW ws[k] ws[k + 1] < 0
      · have HI2 : Hid (∀ i, (hi : i + 1 < ws.length) → i < k + 1 → ltW ws[i] ws[i + 1] = true) := Lib.hid (fun i hi h => by
          by_cases e : i = k
          · subst e; exact (cmpW_lt _ _).1 hc
          · exact HI.out i hi (by omega))
        obtain ⟨r, hr⟩ : ∃ r, cmpW ws[k] ws[k + 1] = r := ⟨_, rfl⟩
        rw [hr] at hcg hc
        have hc' : ¬ 0 ≤ r := by omega
        generalize ws[k] = xb at hcg z0 z1 z2
        generalize ws[k + 1] = xi at hcg y0 y1 y2
        clear hr
        go_wp2_with fail
        go_quiet_grown (first | (go_at_call 58; refine Calls.grown_of (hcg _ _)))
        have HB5 : Hid (Below w.heap.size w (grow (wr.drewN nq) osq)) := Lib.hid (HB.out.trans ((below_grown _ nq osq).mono HB.out.size))
        clear z0 z1 z2 y0 y1 y2 hcg
        generalize grow (wr.drewN nq) osq = w5 at HB5 ⊢
        go_wp2_with fail
        go_roundg (n - (k + 1))
        case measure => omega
        case rel => exact ⟨k + 1, by omega, Nat.le_refl _, by first | rfl | go_num | (congr 1; omega), HI2, HB5⟩
      · have HE : Hid (eqW ws (foldW ws) = false) := Lib.hid (eqW_ne (not_fold h2 (by
          cases hq : ltW ws[k] ws[k + 1] with
          | false => rfl
          | true => exact absurd ((cmpW_lt _ _).2 hq) hc)))
        obtain ⟨r, hr⟩ : ∃ r, cmpW ws[k] ws[k + 1] = r := ⟨_, rfl⟩
        rw [hr] at hcg hc
        have hc' : 0 ≤ r := by omega
        generalize ws[k] = xb at hcg z0 z1 z2
        generalize ws[k + 1] = xi at hcg y0 y1 y2
        clear hr hc
        go_wp2_with fail
        go_quiet_grown (first | (go_at_call 58; refine Calls.grown_of (hcg _ _)))
        have HB5 : Hid (Below w.heap.size w (grow (wr.drewN nq) osq)) := Lib.hid (HB.out.trans ((below_grown _ nq osq).mono HB.out.size))
        clear z0 z1 z2 y0 y1 y2 hcg
        generalize grow (wr.drewN nq) osq = w5 at HB5 ⊢
        go_wp2_with fail
        go_ret
        exact ⟨by rw [HE.out]; rfl, HB5.out⟩
    · have hltz : ¬ (k : Int) + 1 < (n : Int) := by omega
      have HE : Hid (eqW ws (foldW ws) = true) := Lib.hid (by
        have : foldW ws = ws := foldW_self (sorted_of (fun i hi => HI.out i hi (by rw [HN.out] at hi; omega)))
        rw [this]; exact eqW_self _)
      go_wp2_with fail
      go_ret
      exact ⟨by rw [HE.out]; rfl, HB.out⟩

theorem Try.infoMk : (Try.prog.info? 88).map (fun i => (i.zero, i.size, i.bytes)) = some (some (.agg #[.int .i64 0, .int .i64 0]), 2, 16) := by kernel_rfl
def mkOf (x : Wr) : Mk := (x.vol, x.block)
theorem mkOf_take {F : List Wr} {k : Nat} (hk : k < F.length) : (F.take (k + 1)).map mkOf = (F.take k).map mkOf ++ [(F[k].vol, F[k].block)] := by
  rw [List.take_succ_eq_append_getElem hk, List.map_append]; rfl

set_option maxHeartbeats 4000000 in
set_option maxRecDepth 100000 in
theorem Marks_any {w : World} {A : Option Addr} {c : Nat} {ws : List Wr} (h : WrsAt w w.heap.size A ws) (hn : ws.length ≤ 4000) :
    Calls Try.prog 26 #[.slice A ws.length c] w (MksEnd (marksW ws) w) := by
  have HC : Hid (∀ c, Calls Try.prog 52 #[.slice A ws.length c] w (WrsEnd (foldW ws) w)) := Lib.hid (fun c => Fold_any h hn)
  have hF : (foldW ws).length ≤ 4000 := by have := foldW_len ws; omega
  rw [show marksW ws = (foldW ws).map mkOf from rfl]
  obtain ⟨F, hFF⟩ : ∃ F, foldW ws = F := ⟨_, rfl⟩
  rw [hFF] at HC hF ⊢
  clear hFF h hn
  obtain ⟨i0, hi0, hz0, hz1, hz2⟩ := info_parts Try.infoMk
  obtain ⟨n, hnn⟩ : ∃ n, F.length = n := ⟨_, rfl⟩
  have HN := Lib.hid hnn
  rw [hnn] at hF
  go_enter Try.func26, Try.ntmps26
  go_wp2_with fail
  refine (HC.out _).mono ?_
  rintro e w1 ⟨A1, c1, rfl, hA1, _, hb1⟩
  have HV := Lib.hid hA1
  have HB1 := Lib.hid hb1
  rw [hnn]
  clear hA1 hb1 hnn HC
  go_wp2_with fail
  go_loopg [3, 9] n (fun kx s3 s9 wr => ∃ k : Nat, s9 = .int .i64 k ∧ k ≤ n ∧ n - k ≤ kx ∧ Hid (wr.ownsRow w1.heap.size 88 2 s3 k (mkCells ((F.take k).map mkOf))) ∧ Hid (Below w1.heap.size w1 wr))
  case atStart => exact ⟨0, rfl, Nat.zero_le _, by omega, Lib.hid (World.ownsRow_nil _ _ _ _), Lib.hid (Below.refl _ _)⟩
  case round =>
    obtain ⟨k, rfl, hk, hkx, HO, HB⟩ := hrel
    obtain ⟨A4, c4, h4, hxx⟩ := own_lies HO.out
    clear hxx
    subst h4
    by_cases hlt : k < n
    · have hltz : (k : Int) < (n : Int) := by omega
      have hkl : k < F.length := by rw [HN.out]; exact hlt
      obtain ⟨b, off, hA, hbl, x1, x2, x3⟩ := HV.out.at_ HB.out hkl
      have HT := Lib.hid (mkOf_take hkl)
      have hwz : w1.heap.size ≤ wr.heap.size := HB.out.size
      have hbw : b < wr.heap.size := by omega
      subst hA
      obtain ⟨x, hx⟩ : ∃ x, F[k] = x := ⟨_, rfl⟩
      rw [hx] at x1 x2 x3 HT
      clear hx hkl
      obtain ⟨vol, block, data⟩ := x
      simp only at x1 x2 x3 HT
      have HB2 := Lib.hid (HB.out.alloc hwz (.cells #[.int .i64 vol, .int .i64 block, .string data] 74))
      have HO2 := Lib.hid (HO.out.alloc (.cells #[.int .i64 vol, .int .i64 block, .string data] 74))
      go_wp2_with (at_builtin; refine wpList_append_own _ rfl (.tmp 13) (.tmp 19) 55 rfl w1.heap.size 88 i0 (.agg #[.int .i64 0, .int .i64 0]) 2 16 Try.underlying55 hi0 hz0 hz1 hz2 rfl (by decide) (.slice A4 k c4) k _ rfl (HO2.out.alloc _) ⟨wr.heap.size + 1, 0, none⟩ 1 1 [.int .i64 vol, .int .i64 block] (by first | rfl | simp) rfl ?c3 (by intro u hu; simp at hu; rcases hu with rfl | rfl <;> rfl) ?c4 ?c5 ?c6 ?_)
      case c3 =>
        intro j u hj
        have := cell_two_new (wr.alloc (.cells #[.int .i64 vol, .int .i64 block, .string data] 74)) (.int .i64 vol) (.int .i64 block) 88 j u hj
        simpa using this
      case c4 => unfold maxLen; omega
      case c5 => omega
      case c6 => simp; omega
      intro v6 w6 hown hg _
      have HO6 : Hid (w6.ownsRow w1.heap.size 88 2 v6 (k + 1) (mkCells ((F.take (k + 1)).map mkOf))) := Lib.hid (by rw [HT.out, mkCells_append]; first | exact hown | (rw [List.map_take]; exact hown))
      have HB6 : Hid (Below w1.heap.size w1 w6) := Lib.hid ((HB2.out.alloc HB2.out.size _).grown hg (by simp; omega) (fun q hq => (HO.out.lt q hq).1))
      clear hown hg x1 x2 x3
      go_wp2_with fail
      go_roundg (n - (k + 1))
      case measure => omega
      case rel => exact ⟨k + 1, by go_num, by omega, Nat.le_refl _, HO6, HB6⟩
    · have hltz : ¬ (k : Int) < (n : Int) := by omega
      have HE : Hid (MksEnd (F.map mkOf) w (.returned (.slice A4 k c4)) wr) := Lib.hid (by
        have hO := HO.out
        have e1 : F.take k = F := List.take_of_length_le (by rw [HN.out]; omega)
        rw [e1] at hO
        have e2 : k = (F.map mkOf).length := by rw [List.length_map, HN.out]; omega
        rw [e2] at hO ⊢
        exact own_endM hO (HB1.out.trans (HB.out.mono HB1.out.size)))
      go_wp2_with fail
      go_ret
      exact HE.out
end Go.Proofs.Ythajgoigmkkbgaa

namespace Go.Proofs.Ythajgoigmkkbgaa
open Go.Shelf Go.RowKit Go.Lib Go.Sort

end Go.Proofs.Ythajgoigmkkbgaa

namespace Go.Proofs.Ythajgoigmkkbgaa
open Go.Shelf Go.RowKit Go.Lib Go.Sort

theorem pickE_drop {vs : List Vl} {ms : List Mk} {k : Nat} (hk : k < ms.length) : pickE vs (ms.drop k) = if gotE vs ms[k].1 ms[k].2 = 0 then pickE vs (ms.drop (k + 1)) else gotE vs ms[k].1 ms[k].2 := by
  rw [List.drop_eq_getElem_cons hk, pickE]
theorem pickL_take {vs : List Vl} {ms : List Mk} {k : Nat} (hk : k < ms.length) : pickL vs (ms.take (k + 1)) = pickL vs (ms.take k) ++ [⟨ms[k].1, ms[k].2, gotS vs ms[k].1 ms[k].2⟩] := by
  unfold pickL; rw [List.take_succ_eq_append_getElem hk, List.map_append]; rfl
theorem pickL_length (vs : List Vl) (ms : List Mk) : (pickL vs ms).length = ms.length := by unfold pickL; simp
/-- What a call that hands back writes and an error leaves. -/
def WrsErr (us : List Wr) (n : Int) (w : World) (e : Ending) (w' : World) : Prop :=
  ∃ A c, e = .returned (.tuple #[.slice A us.length c, .int .i64 n]) ∧ WrsAt w' w'.heap.size A us ∧ (A = none → c = 0) ∧ Below w.heap.size w w'
theorem WrsErr.none_ (n : Int) {w w' : World} (hb : Below w.heap.size w w') : WrsErr [] n w (.returned (.tuple #[.slice none 0 0, .int .i64 n])) w' := ⟨none, 0, rfl, .inl rfl, fun _ => rfl, hb⟩
theorem pick_bad {vs : List Vl} (ms : List Mk) (h : rightB vs = false) : pickV vs ms = [] ∧ pickEr vs ms = 1 := by
  have : pickEr vs ms = 1 := by unfold pickEr; rw [h]; rfl
  exact ⟨by unfold pickV; rw [this]; rfl, this⟩
theorem pick_err {vs : List Vl} {ms : List Mk} {n : Int} (h : rightB vs = true) (he : pickE vs ms = n) (hn : n ≠ 0) : pickV vs ms = [] ∧ pickEr vs ms = n := by
  have : pickEr vs ms = n := by unfold pickEr; rw [h]; exact he
  exact ⟨by unfold pickV; rw [this, if_neg hn], this⟩
theorem pick_ok {vs : List Vl} {ms : List Mk} (h : rightB vs = true) (he : pickE vs ms = 0) : pickV vs ms = pickL vs ms ∧ pickEr vs ms = 0 := by
  have : pickEr vs ms = 0 := by unfold pickEr; rw [h]; exact he
  exact ⟨by unfold pickV; rw [this, if_pos rfl], this⟩
theorem own_errW {w0 w : World} {base : Nat} {v : Value} {us : List Wr} {t : TypeId} (h : w.ownsRow base t 3 v us.length (wrCells us)) (hb : Below w0.heap.size w0 w) : WrsErr us 0 w0 (.returned (.tuple #[v, .int .i64 0])) w := by
  obtain ⟨A, c, e, h1, h2, h3⟩ := own_end h hb
  cases e
  exact ⟨A, c, rfl, h1, h2, h3⟩

set_option maxHeartbeats 8000000 in
set_option maxRecDepth 100000 in
theorem Pick_any {w : World} {A A2 : Option Addr} {c c2 : Nat} {vs : List Vl} {ms : List Mk} (h : VolsAt w w.heap.size A vs) (hf : VolsFit vs) (h2 : MksAt w w.heap.size A2 ms) (hl2 : ms.length ≤ 4000) :
    Calls Try.prog 25 #[.slice A vs.length c, .slice A2 ms.length c2] w (WrsErr (pickV vs ms) (pickEr vs ms) w) := by
  have HV := Lib.hid h
  have HF := Lib.hid hf
  have HW := Lib.hid h2
  have hl := hf.1
  have HRt : Hid (∀ c, Calls Try.prog 44 #[.slice A vs.length c] w fun e w' => e = .returned (.bool (rightB vs)) ∧ Below w.heap.size w w') := Lib.hid (fun c => Right_any h hf)
  cases hr : rightB vs with
  | false =>
    rw [(pick_bad ms hr).1, (pick_bad ms hr).2]
    rw [hr] at HRt
    clear h hf hr h2
    go_enter Try.func25, Try.ntmps25
    go_wp2_with (go_at_call 44; refine (HRt.out _).mono ?_; rintro e w1 ⟨rfl, hb⟩; replace hb := Lib.hid hb)
    go_ret2
    exact WrsErr.none_ _ hb.out
  | true =>
    rw [hr] at HRt
    have HR := Lib.hid hr
    have HG : Hid (∀ w1 c vol block, Below w.heap.size w w1 → Calls Try.prog 46 #[.slice A vs.length c, .int .i64 vol, .int .i64 block] w1 fun e w' => e = .returned (.tuple #[.string (gotS vs vol block), .int .i64 (gotE vs vol block)]) ∧ Below w1.heap.size w1 w') := Lib.hid (fun w1 c vol block hb => by
      have := Get_any (c := c) (HV.out.next hb) HF.out vol block
      rw [show gtS vs vol block = gotS vs vol block from by unfold gtS; rw [if_pos HR.out], show gtE vs vol block = gotE vs vol block from by unfold gtE; rw [if_pos HR.out]] at this
      exact this)
    obtain ⟨i0, hi0, hz0, hz1, hz2⟩ := info_parts Try.infoWr
    obtain ⟨n, hnn⟩ : ∃ n, ms.length = n := ⟨_, rfl⟩
    have HN := Lib.hid hnn
    rw [hnn] at hl2 ⊢
    clear h hf hr h2 hnn
    go_enter Try.func25, Try.ntmps25
    go_wp2_with (go_at_call 44; refine (HRt.out _).mono ?_; rintro e w1 ⟨rfl, hb⟩; have HB1 := Lib.hid hb; clear hb)
    go_loopg [6, 16] n (fun kx s6 s16 wr => ∃ k : Nat, s16 = .int .i64 k ∧ k ≤ n ∧ n - k ≤ kx ∧ Hid (pickE vs ms = pickE vs (ms.drop k)) ∧ Hid (wr.ownsRow w1.heap.size 74 3 s6 k (wrCells (pickL vs (ms.take k)))) ∧ Hid (Below w1.heap.size w1 wr))
    case atStart => exact ⟨0, rfl, Nat.zero_le _, by omega, Lib.hid rfl, Lib.hid (World.ownsRow_nil _ _ _ _), Lib.hid (Below.refl _ _)⟩
    case round =>
      obtain ⟨k, rfl, hk, hkx, HK, HO, HB⟩ := hrel
      obtain ⟨A4, c4, h4, hxx⟩ := own_lies HO.out
      clear hxx
      subst h4
      have hw1 : w.heap.size ≤ w1.heap.size := HB1.out.size
      have hwz : w1.heap.size ≤ wr.heap.size := HB.out.size
      by_cases hlt : k < n
      · have hltz : (k : Int) < (n : Int) := by omega
        have hkl : k < ms.length := by rw [HN.out]; exact hlt
        have hBw : Below w.heap.size w wr := HB1.out.trans (HB.out.mono hw1)
        obtain ⟨b, off, hA, hbl, x1, x2⟩ := HW.out.at_ hBw hkl
        have hbw : b < wr.heap.size := by omega
        have HBW := Lib.hid hBw
        clear hBw
        subst hA
        have HD := Lib.hid (pickE_drop (vs := vs) hkl)
        have HT := Lib.hid (pickL_take (vs := vs) hkl)
        have HX0 : Hid (b < w.heap.size) := Lib.hid hbl
        have p0 : (0 : Int) ≤ (k : Int) := Int.natCast_nonneg _
        obtain ⟨x, hx⟩ : ∃ x, ms[k] = x := ⟨_, rfl⟩
        rw [hx] at x1 x2 HD HT
        clear hx hkl
        obtain ⟨vol, block⟩ := x
        simp only at x1 x2 HD HT
        have HBm : Hid (Below w.heap.size w (wr.alloc (.cells #[.int .i64 vol, .int .i64 block] 88))) := Lib.hid (HBW.out.alloc HBW.out.size _)
        have HG1 := Lib.hid (fun c => HG.out (wr.alloc (.cells #[.int .i64 vol, .int .i64 block] 88)) c vol block HBm.out)
        obtain ⟨E, hE⟩ : ∃ E, gotE vs vol block = E := ⟨_, rfl⟩
        obtain ⟨S, hS⟩ : ∃ S, gotS vs vol block = S := ⟨_, rfl⟩
        rw [hE, hS] at HG1
        rw [hE] at HD
        rw [hS] at HT
        clear hE hS
        by_cases h0 : E = 0
        · rw [if_pos h0] at HD
          subst h0
          have hcl : Hid (∀ w2, Below (wr.alloc (.cells #[.int .i64 vol, .int .i64 block] 88)).heap.size (wr.alloc (.cells #[.int .i64 vol, .int .i64 block] 88)) w2 → w2.cell? ⟨wr.heap.size, 0, none⟩ = some (.int .i64 vol) ∧ w2.cell? ⟨wr.heap.size, 1, none⟩ = some (.int .i64 block)) := Lib.hid (fun w2 hb => ⟨by rw [hb.cell (p := ⟨wr.heap.size, 0, none⟩) (by simp), Lib.cell_of_heap (heap_alloc_new _ _)]; rfl, by rw [hb.cell (p := ⟨wr.heap.size, 1, none⟩) (by simp), Lib.cell_of_heap (heap_alloc_new _ _)]; rfl⟩)
          go_wp2_with fail
          refine (HG1.out _).mono ?_
          rintro e w2 ⟨rfl, hb2⟩
          have HB2 : Hid (Below w1.heap.size w1 w2) := Lib.hid ((HB.out.alloc hwz _).trans (hb2.mono (by simp; omega)))
          have HO2 : Hid (w2.ownsRow w1.heap.size 74 3 (.slice A4 k c4) k (wrCells (pickL vs (ms.take k)))) := Lib.hid (own_kept (HO.out.alloc _) hb2)
          obtain ⟨y0, y1⟩ := hcl.out w2 hb2
          have hz2' : w1.heap.size ≤ w2.heap.size := HB2.out.size
          clear hb2 hcl HG1
          go_wp2_with (at_builtin; refine wpList_append_own _ rfl (.tmp 32) (.tmp 39) 25 rfl w1.heap.size 74 i0 (.agg #[.int .i64 0, .int .i64 0, .string ByteArray.empty]) 3 32 Try.underlying25 hi0 hz0 hz1 hz2 rfl (by decide) (.slice A4 k c4) k (wrCells (pickL vs (ms.take k))) rfl (HO2.out.alloc _) ⟨w2.heap.size, 0, none⟩ 1 1 [.int .i64 vol, .int .i64 block, .string S] rfl rfl (cell_three_new _ _ _ _ _) (by intro u hu; simp at hu; rcases hu with rfl | rfl | rfl <;> rfl) ?c4 ?c5 ?c6 ?_)
          case c4 => unfold maxLen; omega
          case c5 => omega
          case c6 => simp; omega
          intro v6 w6 hown hg _
          have HO6 : Hid (w6.ownsRow w1.heap.size 74 3 v6 (k + 1) (wrCells (pickL vs (ms.take (k + 1))))) := Lib.hid (by rw [HT.out, wrCells_append]; exact hown)
          have HB6 : Hid (Below w1.heap.size w1 w6) := Lib.hid ((HB2.out.alloc HB2.out.size _).grown hg (by simp; omega) (fun q hq => (HO.out.lt q hq).1))
          clear hown hg x1 x2 y0 y1 HO2
          go_wp2_with fail
          go_roundg (n - (k + 1))
          case measure => omega
          case rel => exact ⟨k + 1, by go_num, by omega, Nat.le_refl _, Lib.hid (HK.out.trans HD.out), HO6, HB6⟩
        · have h0' : (E != 0) = true := by rw [bne_iff_ne]; exact h0
          rw [if_neg h0] at HD
          have HE : Hid (pickV vs ms = [] ∧ pickEr vs ms = E) := Lib.hid (pick_err HR.out (HK.out.trans HD.out) h0)
          clear h0
          go_wp2_with fail
          refine (HG1.out _).mono ?_
          rintro e w2 ⟨rfl, hb2⟩
          have HB2 : Hid (Below w.heap.size w w2) := Lib.hid (HBm.out.trans (hb2.mono HBm.out.size))
          clear hb2
          go_wp2_with fail
          go_ret2
          rw [HE.out.1, HE.out.2]
          exact WrsErr.none_ _ HB2.out
      · have hltz : ¬ (k : Int) < (n : Int) := by omega
        have HE : Hid (WrsErr (pickV vs ms) (pickEr vs ms) w (.returned (.tuple #[.slice A4 k c4, .int .i64 0])) wr) := Lib.hid (by
          have e0 : pickE vs ms = 0 := by rw [HK.out, List.drop_of_length_le (by rw [HN.out]; omega)]; rfl
          rw [(pick_ok HR.out e0).1, (pick_ok HR.out e0).2]
          have hO := HO.out
          have e1 : ms.take k = ms := List.take_of_length_le (by rw [HN.out]; omega)
          rw [e1] at hO
          have e2 : k = (pickL vs ms).length := by rw [pickL_length, HN.out]; omega
          rw [e2] at hO ⊢
          exact own_errW hO (HB1.out.trans (HB.out.mono hw1)))
        go_wp2_with fail
        go_ret2
        exact HE.out
end Go.Proofs.Ythajgoigmkkbgaa

namespace Go.Proofs.Ythajgoigmkkbgaa
open Go.Shelf Go.RowKit Go.Lib Go.Sort

def Try.ren8 : Go.Shelf.Ren := ⟨fun | 4 => 72 | n => n, fun | 0 => 0 | 3 => 3 | 4 => 4 | 9 => 9 | 20 => 20 | 22 => 25 | 25 => 74 | n => n, fun | n => n⟩
theorem Try.lays8 : Lays8.n4 Try.prog Try.ren8 where
  mixed := by kernel_rfl
  f4 := ⟨Try.f72.name, by kernel_rfl, Try.func72.trans (congrArg some (by kernel_rfl))⟩
  t0 := Try.underlying0
  a0 := Try.isAgg0
  z0 := Try.sizeOf0
  v0 := Try.zeroValue0
  t3 := Try.underlying3
  a3 := Try.isAgg3
  z3 := Try.sizeOf3
  v3 := Try.zeroValue3
  t4 := Try.underlying4
  a4 := Try.isAgg4
  z4 := Try.sizeOf4
  v4 := Try.zeroValue4
  t9 := Try.underlying9
  a9 := Try.isAgg9
  z9 := Try.sizeOf9
  v9 := Try.zeroValue9
  t20 := Try.underlying20
  a20 := Try.isAgg20
  z20 := Try.sizeOf20
  v20 := Try.zeroValue20
  t22 := Try.underlying25
  a22 := Try.isAgg25
  z22 := Try.sizeOf25
  v22 := Try.zeroValue25

/-- slices.Grow of a nil slice: a row of the call's own, empty. -/
theorem Grow_nil (w : World) (n : Nat) (hn : n ≤ 4000) : Calls Try.prog 72 #[.slice none 0 0, .int .i64 n] w (OwnEnd 74 3 0 [] w) := by
  by_cases h0 : n = 0
  · subst h0
    refine (Any8.slices_Grow_room Try.lays8 none 0 0 0 w (Nat.le_refl _) (by omega) (by omega) (Nat.le_refl _)).mono ?_
    rintro e w' ⟨rfl, rfl⟩
    exact ⟨_, rfl, World.ownsRow_nil _ _ _ _, Below.refl _ _⟩
  · obtain ⟨i0, hi0, hz0, hz1, hz2⟩ := info_parts Try.infoWr
    have := Any8.slices_Grow_grow Try.lays8 i0 (.agg #[.int .i64 0, .int .i64 0, .string ByteArray.empty]) hi0 hz0 (by rw [hz1]; omega) none 0 0 n [] w (Nat.le_refl _) (by omega) (by rw [hz2]; omega) (by omega) (by simp) (fun _ => rfl) (fun a h => by cases h)
    rw [show Try.ren8.t 25 = 74 from rfl] at this
    refine this.mono ?_
    rintro e w' ⟨rfl, rfl⟩
    have hge : n ≤ grownCap w (0 + n) 0 74 := by have := grownCap_ge w (0 + n) 0 74; omega
    have hle : grownCap w (0 + n) 0 74 ≤ maxLen := grownCap_le_maxLen w (0 + n) 0 74 (by unfold maxLen; omega)
    refine ⟨_, rfl, ⟨rfl, .inr ⟨w.heap.size, _, _, rfl, Nat.le_refl _, heap_alloc_new w.drew _, Nat.zero_le _, hle, ?_, by simp⟩⟩, ?_⟩
    · rw [Array.size_append, Array.size_append, size_zeroCells, size_zeroCells]
      show 0 + (0 + n - 0) * 3 + (grownCap w (0 + n) 0 74 - (0 + n)) * 3 = _
      omega
    · exact (Below.refl w.heap.size w).drew.alloc (Nat.le_refl _) _

set_option maxHeartbeats 4000000 in
set_option maxRecDepth 100000 in
theorem Concat_two {w : World} {g : Nat} {A1 A2 : Option Addr} {c1 c2 : Nat} {xs ys : List Wr} (h1 : WrsAt w w.heap.size A1 xs) (h2 : WrsAt w w.heap.size A2 ys) (hx : xs.length ≤ 400 ∧ (A1 = none → c1 = 0)) (hy : ys.length ≤ 400 ∧ (A2 = none → c2 = 0))
    (hg : g < w.heap.size) (hc0 : w.cell? ⟨g, 0, none⟩ = some (.slice A1 xs.length c1)) (hc1 : w.cell? ⟨g, 1, none⟩ = some (.slice A2 ys.length c2)) :
    Calls Try.prog 56 #[.slice (some ⟨g, 0, none⟩) 2 2] w (OwnEnd 74 3 (xs.length + ys.length) (wrCells (xs ++ ys)) w) := by
  have H1 := Lib.hid h1
  have H2 := Lib.hid h2
  have HX := Lib.hid hx.2
  have HY := Lib.hid hy.2
  have hxl := hx.1
  have hyl := hy.1
  obtain ⟨i0, hi0, hz0, hz1, hz2⟩ := info_parts Try.infoWr
  have HG : Hid (Calls Try.prog 72 #[.slice none 0 0, .int .i64 ((xs.length : Int) + (ys.length : Int))] w (OwnEnd 74 3 0 [] w)) := Lib.hid (by
    have := Grow_nil w (xs.length + ys.length) (by omega)
    rw [Int.natCast_add] at this
    exact this)
  have HC0 := Lib.hid hc0
  have HC1 := Lib.hid hc1
  clear h1 h2 hx hy
  have e1 : ¬ ((xs.length : Int) < 0) := by omega
  have e2 : ¬ ((xs.length : Int) + (ys.length : Int) < 0) := by omega
  go_enter Try.func56, Try.ntmps56
  go_wp2
  refine wp_loop_rounds 3 ?_
  rw [rounds_succ]
  go_wp2_with fail
  rw [rounds_succ]
  go_wp2_with fail
  rw [rounds_succ]
  go_wp2_with fail
  refine HG.out.mono ?_
  rintro e w2 ⟨v2, rfl, ho2, hb2⟩
  have HO2 := Lib.hid ho2
  have HB2 := Lib.hid hb2
  have y0 : w2.cell? ⟨g, 0, none⟩ = some (.slice A1 xs.length c1) := by rw [hb2.cell (p := ⟨g, 0, none⟩) hg]; exact HC0.out
  have hw2 : w.heap.size ≤ w2.heap.size := hb2.size
  clear ho2 hb2 hc0 hc1 HG
  go_wp2_with fail
  refine wp_loop_rounds 3 ?_
  rw [rounds_succ]
  go_wp2_with (at_builtin; refine wpList_append_rows rfl (.tmp 31) (.tmp 32) 25 rfl w.heap.size 74 i0 (.agg #[.int .i64 0, .int .i64 0, .string ByteArray.empty]) 3 32 Try.underlying25 hi0 hz0 hz1 hz2 rfl (by decide) v2 0 [] rfl HO2.out A1 xs.length c1 (wrCells xs) rfl (wrCells_length _) w2.heap.size (H1.out.next HB2.out).lies HX.out (wrCells_one _) ?c1 ?c2 hw2 ?_)
  case c1 => unfold maxLen; omega
  case c2 => omega
  intro v3 w3 ho3 hg3
  have HB3 : Hid (Below w.heap.size w w3) := Lib.hid (HB2.out.grown hg3 hw2 (fun q hq => (HO2.out.lt q hq).1))
  (try rw [List.nil_append, Nat.zero_add] at ho3)
  have HO3 := Lib.hid ho3
  have y1 : w3.cell? ⟨g, 1, none⟩ = some (.slice A2 ys.length c2) := by rw [HB3.out.cell (p := ⟨g, 1, none⟩) hg]; exact HC1.out
  have hw3 : w.heap.size ≤ w3.heap.size := HB3.out.size
  clear ho3 hg3 y0
  go_wp2_with fail
  rw [rounds_succ]
  go_wp2_with (at_builtin; refine wpList_append_rows rfl (.tmp 31) (.tmp 32) 25 rfl w.heap.size 74 i0 (.agg #[.int .i64 0, .int .i64 0, .string ByteArray.empty]) 3 32 Try.underlying25 hi0 hz0 hz1 hz2 rfl (by decide) v3 xs.length (wrCells xs) rfl HO3.out A2 ys.length c2 (wrCells ys) rfl (wrCells_length _) w3.heap.size (H2.out.next HB3.out).lies HY.out (wrCells_one _) ?c3 ?c4 hw3 ?_)
  case c3 => unfold maxLen; omega
  case c4 => omega
  intro v4 w4 ho4 hg4
  have HE : Hid (OwnEnd 74 3 (xs.length + ys.length) (wrCells (xs ++ ys)) w (.returned v4) w4) := Lib.hid ⟨v4, rfl, by rw [wrCells_append]; exact ho4, HB3.out.grown hg4 hw3 (fun q hq => (HO3.out.lt q hq).1)⟩
  clear ho4 hg4
  go_wp2_with fail
  rw [rounds_succ]
  go_wp2_with fail
  go_ret
  exact HE.out

set_option maxHeartbeats 4000000 in
set_option maxRecDepth 100000 in
theorem Merge_any {w : World} {A1 A2 : Option Addr} {c1 c2 : Nat} {xs ys : List Wr} (h1 : WrsAt w w.heap.size A1 xs) (h2 : WrsAt w w.heap.size A2 ys) (hx : xs.length ≤ 400 ∧ (A1 = none → c1 = 0)) (hy : ys.length ≤ 400 ∧ (A2 = none → c2 = 0)) :
    Calls Try.prog 36 #[.slice A1 xs.length c1, .slice A2 ys.length c2] w (WrsEnd (foldW (xs ++ ys)) w) := by
  have hB : Below w.heap.size w (w.alloc (.cells #[.slice A1 xs.length c1, .slice A2 ys.length c2] 25)) := (Below.refl _ _).alloc (Nat.le_refl _) _
  have HC := Lib.hid (Concat_two (g := w.heap.size) (c1 := c1) (c2 := c2) (h1.next hB) (h2.next hB) hx hy (by simp) (by rw [Lib.cell_of_heap (heap_alloc_new _ _)]; rfl) (by rw [Lib.cell_of_heap (heap_alloc_new _ _)]; rfl))
  have HF : Hid (∀ A c w1, WrsAt w1 w1.heap.size A (xs ++ ys) → Calls Try.prog 52 #[.slice A (xs.length + ys.length) c] w1 (WrsEnd (foldW (xs ++ ys)) w1)) := Lib.hid (fun A c w1 h => by
    have := Fold_any (c := c) h (by rw [List.length_append]; omega)
    rw [List.length_append] at this
    exact this)
  obtain ⟨F, hF⟩ : ∃ F, foldW (xs ++ ys) = F := ⟨_, rfl⟩
  rw [hF] at HF ⊢
  have HB := Lib.hid hB
  clear h1 h2 hx hy hF hB
  go_enter Try.func36, Try.ntmps36
  go_wp2_with fail
  refine HC.out.mono ?_
  rintro e w2 ⟨v2, rfl, ho2, hb2⟩
  obtain ⟨A3, c3, hv3, _, hl3⟩ := own_lies ho2
  have HL3 := Lib.hid (WrsAt.of_lies hl3)
  have HB2 : Hid (Below w.heap.size w w2) := Lib.hid (HB.out.trans (hb2.mono HB.out.size))
  clear ho2 hb2 hl3
  subst hv3
  go_wp2_with fail
  refine (HF.out _ _ _ HL3.out).mono ?_
  rintro e w3 ⟨A4, c4, rfl, hA4, hn4, hb4⟩
  have HE : Hid (WrsEnd F w (.returned (.slice A4 F.length c4)) w3) := Lib.hid ⟨A4, c4, rfl, hA4, hn4, HB2.out.trans (hb4.mono HB2.out.size)⟩
  clear hA4 hn4 hb4
  go_wp2_with fail
  go_ret
  exact HE.out

set_option maxHeartbeats 4000000 in
set_option maxRecDepth 100000 in
theorem Join_any {w : World} {A1 A2 : Option Addr} {c1 c2 : Nat} {xs ys : List Wr} (h1 : WrsAt w w.heap.size A1 xs) (h2 : WrsAt w w.heap.size A2 ys) (hx : xs.length ≤ 400 ∧ (A1 = none → c1 = 0)) (hy : ys.length ≤ 400 ∧ (A2 = none → c2 = 0)) :
    Calls Try.prog 33 #[.slice A1 xs.length c1, .slice A2 ys.length c2] w (WrsEnd (xs ++ ys) w) := by
  have H1 := Lib.hid h1
  have H2 := Lib.hid h2
  have HX := Lib.hid hx.2
  have HY := Lib.hid hy.2
  have hxl := hx.1
  have hyl := hy.1
  obtain ⟨i0, hi0, hz0, hz1, hz2⟩ := info_parts Try.infoWr
  clear h1 h2 hx hy
  go_enter Try.func33, Try.ntmps33
  go_wp2_with (at_builtin; refine wpList_append_rows rfl (.tmp 6) (.tmp 7) 25 rfl w.heap.size 74 i0 (.agg #[.int .i64 0, .int .i64 0, .string ByteArray.empty]) 3 32 Try.underlying25 hi0 hz0 hz1 hz2 rfl (by decide) (.slice none 0 0) 0 [] rfl (World.ownsRow_nil _ _ _ _) A1 xs.length c1 (wrCells xs) rfl (wrCells_length _) w.heap.size H1.out.lies HX.out (wrCells_one _) ?c1 ?c2 (Nat.le_refl _) ?_)
  case c1 => unfold maxLen; omega
  case c2 => omega
  intro v3 w3 ho3 hg3
  have HB3 : Hid (Below w.heap.size w w3) := Lib.hid ((Below.refl _ _).grown hg3 (Nat.le_refl _) (fun q hq => by cases hq))
  (try rw [List.nil_append, Nat.zero_add] at ho3)
  have HO3 := Lib.hid ho3
  have hw3 : w.heap.size ≤ w3.heap.size := HB3.out.size
  clear ho3 hg3
  go_wp2_with (at_builtin; refine wpList_append_rows rfl (.tmp 8) (.tmp 9) 25 rfl w.heap.size 74 i0 (.agg #[.int .i64 0, .int .i64 0, .string ByteArray.empty]) 3 32 Try.underlying25 hi0 hz0 hz1 hz2 rfl (by decide) v3 xs.length (wrCells xs) rfl HO3.out A2 ys.length c2 (wrCells ys) rfl (wrCells_length _) w3.heap.size (H2.out.next HB3.out).lies HY.out (wrCells_one _) ?c3 ?c4 hw3 ?_)
  case c3 => unfold maxLen; omega
  case c4 => omega
  intro v4 w4 ho4 hg4
  have HE : Hid (WrsEnd (xs ++ ys) w (.returned v4) w4) := Lib.hid (own_end (by rw [List.length_append, wrCells_append]; exact ho4) (HB3.out.grown hg4 hw3 (fun q hq => (HO3.out.lt q hq).1)))
  clear ho4 hg4
  go_wp2_with fail
  go_ret
  exact HE.out
end Go.Proofs.Ythajgoigmkkbgaa
