/- Folded writes: marks in memory; contracts of the document's SameMarks and Bytes, of Bytes and Folded, of the fixed answer. -/
import Derived.Test.YtaenlcokgplgkaaFoldF
namespace Go.Proofs.Ytaenlcokgplgkaa
open Go.Shelf Go.RowKit Go.Lib Go.Sort

/-! ### Marks in memory -/

abbrev Mk := Int × Int
def MksAt (w : World) (B : Nat) (A : Option Addr) (ms : List Mk) : Prop :=
  ms = [] ∨ ∃ b off, A = some ⟨b, off, none⟩ ∧ b < B ∧ ∀ i, (h : i < ms.length) → w.cell? ⟨b, off + i * 2, none⟩ = some (.int .i64 ms[i].1) ∧ w.cell? ⟨b, off + i * 2 + 1, none⟩ = some (.int .i64 ms[i].2)
theorem MksAt.at_ {w w' : World} {B : Nat} {A : Option Addr} {ms : List Mk} (h : MksAt w B A ms) (hb : Below B w w') {i : Nat} (hi : i < ms.length) :
    ∃ b off, A = some ⟨b, off, none⟩ ∧ b < B ∧ w'.cell? ⟨b, off + i * 2, none⟩ = some (.int .i64 ms[i].1) ∧ w'.cell? ⟨b, off + i * 2 + 1, none⟩ = some (.int .i64 ms[i].2) := by
  rcases h with rfl | ⟨b, off, hA, hlt, hc⟩
  · simp at hi
  · obtain ⟨h1, h2⟩ := hc i hi
    exact ⟨b, off, hA, hlt, (hb.cell (p := ⟨b, off + i * 2, none⟩) hlt).trans h1, (hb.cell (p := ⟨b, off + i * 2 + 1, none⟩) hlt).trans h2⟩
theorem MksAt.below {w w' : World} {B : Nat} {A : Option Addr} {ms : List Mk} (h : MksAt w B A ms) (hb : Below B w w') : MksAt w' B A ms := by
  rcases h with h | ⟨b, off, hA, hlt, hc⟩
  · exact .inl h
  · exact .inr ⟨b, off, hA, hlt, fun i hi => ⟨(hb.cell (p := ⟨b, off + i * 2, none⟩) hlt).trans (hc i hi).1, (hb.cell (p := ⟨b, off + i * 2 + 1, none⟩) hlt).trans (hc i hi).2⟩⟩
theorem MksAt.more {w : World} {B B' : Nat} {A : Option Addr} {ms : List Mk} (h : MksAt w B A ms) (hB : B ≤ B') : MksAt w B' A ms := by
  rcases h with h | ⟨b, off, hA, hlt, hc⟩
  · exact .inl h
  · exact .inr ⟨b, off, hA, by omega, hc⟩
theorem MksAt.next {w w' : World} {A : Option Addr} {ms : List Mk} (h : MksAt w w.heap.size A ms) (hb : Below w.heap.size w w') : MksAt w' w'.heap.size A ms := (h.below hb).more hb.size
def mkCells : List Mk → List Value
  | [] => []
  | x :: ms => .int .i64 x.1 :: .int .i64 x.2 :: mkCells ms
theorem mkCells_length (ms : List Mk) : (mkCells ms).length = ms.length * 2 := by
  induction ms with
  | nil => rfl
  | cons x ms ih => simp [mkCells, ih]; omega
theorem mkCells_append (a b : List Mk) : mkCells (a ++ b) = mkCells a ++ mkCells b := by
  induction a with
  | nil => rfl
  | cons x a ih => simp [mkCells, ih]
theorem mkCells_at {ms : List Mk} {k : Nat} (hk : k < ms.length) : (mkCells ms)[k * 2]? = some (.int .i64 ms[k].1) ∧ (mkCells ms)[k * 2 + 1]? = some (.int .i64 ms[k].2) := by
  induction ms generalizing k with
  | nil => simp at hk
  | cons x ms ih =>
    cases k with
    | zero => exact ⟨rfl, rfl⟩
    | succ k =>
      have := ih (k := k) (by simpa using hk)
      rw [show (k + 1) * 2 = k * 2 + 1 + 1 from by omega]
      simpa [mkCells] using this
theorem MksAt.of_lies {w : World} {B : Nat} {A : Option Addr} {ms : List Mk} (h : Lies w B A (mkCells ms)) : MksAt w B A ms := by
  rcases h with h | ⟨b, off, hA, hlt, hc⟩
  · have := mkCells_length ms
    rw [h] at this
    exact .inl (List.eq_nil_of_length_eq_zero (by simp at this; omega))
  · refine .inr ⟨b, off, hA, hlt, fun i hi => ?_⟩
    have hl := mkCells_length ms
    obtain ⟨g1, g2⟩ := mkCells_at hi
    refine ⟨?_, ?_⟩
    · rw [hc (i * 2) (by omega)]
      rw [List.getElem?_eq_getElem (by omega)] at g1
      exact g1
    · rw [Nat.add_assoc, hc (i * 2 + 1) (by omega)]
      rw [List.getElem?_eq_getElem (by omega)] at g2
      exact g2
/-- What a call that hands back marks leaves. -/
def MksEnd (ms : List Mk) (w : World) (e : Ending) (w' : World) : Prop :=
  ∃ A c, e = .returned (.slice A ms.length c) ∧ MksAt w' w'.heap.size A ms ∧ Below w.heap.size w w'
theorem own_endM {w0 w : World} {base : Nat} {v : Value} {ms : List Mk} {t : TypeId} (h : w.ownsRow base t 2 v ms.length (mkCells ms)) (hb : Below w0.heap.size w0 w) : MksEnd ms w0 (.returned v) w := by
  obtain ⟨A, c, rfl, _, hl⟩ := own_lies h
  exact ⟨A, c, rfl, MksAt.of_lies hl, hb⟩

/-! ### SameMarks -/

def sameM (x y : Mk) : Bool := (x.1 == y.1) && (x.2 == y.2)
theorem sameM_self (x : Mk) : sameM x x = true := by simp [sameM]
theorem sameM_ne {x y : Mk} (h : x ≠ y) : sameM x y = false := by
  rw [Bool.eq_false_iff]
  intro e
  simp only [sameM, Bool.and_eq_true, beq_iff_eq] at e
  exact h (Prod.ext e.1 e.2)
set_option maxRecDepth 100000 in
theorem eqlIn_mark (x y : Mk) (w : World) : (Op.equalIn 10000 75 (.agg #[.int .i64 x.1, .int .i64 x.2]) (.agg #[.int .i64 y.1, .int .i64 y.2])).run Try.prog w = .ok (sameM x y) w := by
  rw [run_equalIn_struct w 9999 75 _ _ (by kernel_rfl) (by kernel_rfl)]
  have hf : (Try.prog.fieldsOf 75).toList.map (fun f => (f.name, f.type, f.offset)) = [("Vol", 3, 0), ("Block", 3, 1)] := by kernel_rfl
  obtain ⟨fs, hfs⟩ : ∃ fs, (Try.prog.fieldsOf 75).toList = fs := ⟨_, rfl⟩
  rw [hfs] at hf ⊢
  match fs, hf with
  | [f1, f2], hf =>
    simp only [List.map_cons, List.map_nil, List.cons.injEq, Prod.mk.injEq, and_true] at hf
    obtain ⟨⟨a1, a2, a3⟩, ⟨b1, b2, b3⟩⟩ := hf
    simp only [Op.eqFields, a1, a2, a3, b1, b2, b3]
    have q1 := run_equalIn_int (P := Try.prog) w 9998 3 .i64 .i64 x.1 y.1 Try.underlying3
    have q2 := run_equalIn_int (P := Try.prog) w 9998 3 .i64 .i64 x.2 y.2 Try.underlying3
    unfold sameM
    cases h1 : x.1 == y.1 <;> rw [h1] at q1 <;> cases h2 : x.2 == y.2 <;> rw [h2] at q2 <;> simp [part, q1, q2, Try.isAgg3, Sem.run_bind, Result.andThen]
theorem neq_mark (x y : Mk) (w : World) : (binOp .neq 75 (.agg #[.int .i64 x.1, .int .i64 x.2]) (.agg #[.int .i64 y.1, .int .i64 y.2])).run Try.prog w = .ok (.bool (!sameM x y)) w := by
  rw [run_neq_struct, eqlIn_mark]; rfl
theorem guard_mark (op : BinOp) (x y : Operand) (xs ys : Array Value) (w : World) : (eqGuard op 75 x y (.agg xs) (.agg ys)).run Try.prog w = .ok () w := run_eqGuard_agg w op _ x y xs ys (by kernel_rfl)
def eqM (a b : List Mk) : Bool := decide (a = b)
theorem eqM_self (a : List Mk) : eqM a a = true := by simp [eqM]
theorem eqM_ne {a b : List Mk} (h : a ≠ b) : eqM a b = false := by simp [eqM, h]

end Go.Proofs.Ytaenlcokgplgkaa
