/- The lag: bounds in memory, contracts of both Right. -/
import Derived.Test.YthajgoigmkkbgaaVolM
import Derived.Test.YthajgoigmkkbgaaMem
namespace Go.Proofs.Ythajgoigmkkbgaa
open Go.RowKit Go.Lib

/-- A bound. -/
structure Bd where
  txns : Int
  bytes : Int
  hold : Bool
def Bd.val (b : Bd) : Value := .agg #[.int .i64 b.txns, .int .i64 b.bytes, .bool b.hold]
def okL (n : Int) : Bool := decide (1 ≤ n ∧ n ≤ 1099511627776)
theorem okL_iff (n : Int) : okL n = true ↔ 1 ≤ n ∧ n ≤ 1099511627776 := by simp [okL]
def bdOk (b : Bd) : Bool := okL b.txns && okL b.bytes
theorem bdOk_iff (b : Bd) : bdOk b = true ↔ 1 ≤ b.txns ∧ b.txns ≤ 1099511627776 ∧ 1 ≤ b.bytes ∧ b.bytes ≤ 1099511627776 := by
  unfold bdOk; rw [Bool.and_eq_true, okL_iff, okL_iff]; omega

/-- A block of three cells. -/
structure Thr (w : World) (H : Nat) (a b c : Value) (ty : TypeId) : Prop where
  blk : w.heap[H]? = some (.cells #[a, b, c] ty (0, 0))
theorem Thr.c0 {w : World} {H : Nat} {a b c : Value} {ty : TypeId} (h : Thr w H a b c ty) : w.cell? ⟨H, 0, none⟩ = some a := by rw [Lib.cell_of_heap h.blk]; rfl
theorem Thr.c1 {w : World} {H : Nat} {a b c : Value} {ty : TypeId} (h : Thr w H a b c ty) : w.cell? ⟨H, 1, none⟩ = some b := by rw [Lib.cell_of_heap h.blk]; rfl
theorem Thr.c2 {w : World} {H : Nat} {a b c : Value} {ty : TypeId} (h : Thr w H a b c ty) : w.cell? ⟨H, 2, none⟩ = some c := by rw [Lib.cell_of_heap h.blk]; rfl
theorem Thr.kept {w w' : World} {H : Nat} {a b c : Value} {ty : TypeId} (h : Thr w H a b c ty) (hb : Below w.heap.size w w') : Thr w' H a b c ty := ⟨(hb.block H (Array.getElem?_eq_some_iff.1 h.blk).1).trans h.blk⟩
theorem Thr.lat {V : World} {H : Nat} {a b c : Value} {ty : TypeId} (h : Thr V H a b c ty) (z : LatW V) : Thr z.wd H a b c ty := h.kept z.bel
theorem Thr.new (w : World) (a b c : Value) (ty : TypeId) : Thr (w.alloc (.cells #[a, b, c] ty (0, 0))) w.heap.size a b c ty := ⟨heap_new _ _⟩

theorem limit_any (n : Int) (w : World) : Calls Try.prog 35 #[.int .i64 n] w fun e w' => e = .returned (.bool (okL n)) ∧ w = w' := by
  by_cases h1 : 1 ≤ n
  · by_cases h2 : n ≤ 1099511627776
    · rw [show okL n = true from (okL_iff n).2 ⟨h1, h2⟩]
      have d2 : decide (n ≤ 1099511627776) = true := decide_eq_true h2
      go_enter Try.func35, Try.ntmps35
      go_wp2_with fail
      go_ret
      exact ⟨rfl, rfl⟩
    · rw [show okL n = false from by rw [Bool.eq_false_iff]; exact fun e => h2 ((okL_iff n).1 e).2]
      have d2 : decide (n ≤ 1099511627776) = false := decide_eq_false h2
      go_enter Try.func35, Try.ntmps35
      go_wp2_with fail
      go_ret
      exact ⟨rfl, rfl⟩
  · rw [show okL n = false from by rw [Bool.eq_false_iff]; exact fun e => h1 ((okL_iff n).1 e).1]
    have d1 : decide (1 ≤ n) = false := decide_eq_false h1
    go_enter Try.func35, Try.ntmps35
    go_wp2_with fail
    go_ret
    exact ⟨rfl, rfl⟩

set_option maxHeartbeats 4000000 in
set_option maxRecDepth 100000 in
theorem LRight_any (b : Bd) (w : World) : Calls Try.prog 12 #[b.val] w fun e w' => e = .returned (.bool (bdOk b)) ∧ Below w.heap.size w w' := by
  obtain ⟨t, y, h⟩ := b
  have HBV := Lib.hid (below_one w (.cells #[.int .i64 t, .int .i64 y, .bool h] 23 (0, 0)))
  have HX := Lib.hid (Thr.new w (.int .i64 t) (.int .i64 y) (.bool h) 23)
  have HT := Lib.hid (fun w => limit_any t w)
  have HY := Lib.hid (fun w => limit_any y w)
  unfold Bd.val bdOk
  simp only
  generalize okL t = T at HT ⊢
  generalize okL y = Y at HY ⊢
  go_enter Try.func12, Try.ntmps12
  go_wp2_with fail
  generalize w.alloc (.cells #[.int .i64 t, .int .i64 y, .bool h] 23 (0, 0)) = V at HBV HX ⊢
  have x0 := fun z : LatW V => (HX.out.lat z).c0
  have x1 := fun z : LatW V => (HX.out.lat z).c1
  obtain ⟨z0, hzs⟩ := LatW.start V
  rw [← hzs]
  clear hzs
  cases T with
  | false =>
    go_wp2_with (first | (go_at_call 35; refine (HT.out _).mono ?_; rintro e w9 ⟨rfl, rfl⟩))
    go_ret
    exact ⟨rfl, lat_end HBV.out _⟩
  | true =>
    go_wp2_with (first | (go_at_call 35; refine (HT.out _).mono ?_; rintro e w9 ⟨rfl, rfl⟩) | (go_at_call 35; refine (HY.out _).mono ?_; rintro e w9 ⟨rfl, rfl⟩))
    go_ret
    exact ⟨by cases Y <;> rfl, lat_end HBV.out _⟩

set_option maxHeartbeats 4000000 in
set_option maxRecDepth 100000 in
theorem DLRight_any (b : Bd) (w : World) : Calls Try.prog 13 #[b.val] w fun e w' => e = .returned (.bool (bdOk b)) ∧ Below w.heap.size w w' := by
  have HK := Lib.hid (bdOk_iff b)
  obtain ⟨t, y, h⟩ := b
  have HBV := Lib.hid (below_one w (.cells #[.int .i64 t, .int .i64 y, .bool h] 23 (0, 0)))
  have HX := Lib.hid (Thr.new w (.int .i64 t) (.int .i64 y) (.bool h) 23)
  unfold Bd.val
  simp only at HK ⊢
  go_enter Try.func13, Try.ntmps13
  go_wp2_with fail
  all_goals
    go_ret
    refine ⟨?_, HBV.out⟩
    first
    | (rw [show bdOk ⟨t, y, h⟩ = false from by rw [Bool.eq_false_iff]; intro e; have := HK.out.1 e; omega]; rfl)
    | (rw [show bdOk ⟨t, y, h⟩ = decide (y ≤ 1099511627776) from by rw [Bool.eq_iff_iff, HK.out, decide_eq_true_iff]; omega]; rfl)
end Go.Proofs.Ythajgoigmkkbgaa
