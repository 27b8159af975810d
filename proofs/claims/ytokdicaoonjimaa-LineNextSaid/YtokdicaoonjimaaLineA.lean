/- Lineages: contracts of follows, end and Right. -/
import Derived.Test.YtokdicaoonjimaaLineM
namespace Go.Proofs.Ytokdicaoonjimaa
open Go.RowKit

theorem below_two (w : World) (o1 o2 : Obj) : Below w.heap.size w ((w.alloc o1).alloc o2) := ((Below.refl _ _).alloc (Nat.le_refl _) _).alloc (by simp) _
theorem brOk_of {e a : Int} {x : Br} (b1 b2 b3 b4 : Bool) (h1 : decide (e < x.1) = b1) (h2 : decide (x.1 ≤ 1099511627776) = b2) (h3 : decide (a ≤ x.2) = b3) (h4 : decide (x.2 ≤ 1099511627776) = b4) : brOk e a x = (b1 && (b2 && (b3 && b4))) := by
  rw [← h1, ← h2, ← h3, ← h4]; simp [brOk]

set_option maxHeartbeats 1600000 in
theorem follows_any (e a : Int) (x1 x2 : Int) (w : World) :
    Calls Try.prog 27 #[.agg #[.int .i64 e, .int .i64 a], .agg #[.int .i64 x1, .int .i64 x2]] w fun r w' => r = .returned (.bool (brOk e a (x1, x2))) ∧ Below w.heap.size w w' := by
  cases h1 : decide (e < x1) with
  | false =>
    rw [brOk_of (x := (x1, x2)) _ _ _ _ h1 rfl rfl rfl]
    go_enter Try.func27, Try.ntmps27
    go_wp2_with fail
    go_ret
    exact ⟨rfl, below_two _ _ _⟩
  | true =>
  cases h2 : decide (x1 ≤ 1099511627776) with
  | false =>
    rw [brOk_of (x := (x1, x2)) _ _ _ _ h1 h2 rfl rfl]
    go_enter Try.func27, Try.ntmps27
    go_wp2_with fail
    go_ret
    exact ⟨rfl, below_two _ _ _⟩
  | true =>
  cases h3 : decide (a ≤ x2) with
  | false =>
    rw [brOk_of (x := (x1, x2)) _ _ _ _ h1 h2 h3 rfl]
    go_enter Try.func27, Try.ntmps27
    go_wp2_with fail
    go_ret
    exact ⟨rfl, below_two _ _ _⟩
  | true =>
    rw [brOk_of (x := (x1, x2)) _ _ _ _ h1 h2 h3 rfl]
    go_enter Try.func27, Try.ntmps27
    go_wp2_with fail
    go_ret
    exact ⟨rfl, below_two _ _ _⟩

theorem lastB_at {l : List Br} {k : Nat} (h : l.length = k + 1) : lastB l = l[k]'(by omega) := by
  unfold lastB
  have e : l.length - 1 = k := by omega
  rw [List.getLast?_eq_getElem?, e, List.getElem?_eq_getElem (by omega)]
  rfl

theorem branch_desc : Try.prog.underlying 31 = some (.struct ((match Try.prog.underlying 31 with | some (.struct fs) => fs | _ => #[]))) := by kernel_rfl

set_option maxHeartbeats 1600000 in
theorem end_any {w : World} {A : Option Addr} {c : Nat} {l : List Br} (h : BrsAt w w.heap.size A l) (hne : l ≠ []) (hl : l.length ≤ 9223372036854775807) :
    Calls Try.prog 28 #[.slice A l.length c] w fun r w' => r = .returned (.agg #[.int .i64 (lastB l).1, .int .i64 (lastB l).2]) ∧ Below w.heap.size w w' := by
  obtain ⟨k, hk⟩ : ∃ k, l.length = k + 1 := by
    cases l with
    | nil => exact absurd rfl hne
    | cons x r => exact ⟨r.length, rfl⟩
  rw [lastB_at hk]
  obtain ⟨b, off, hA, hlt, x1, x2⟩ := h.at_ ((Below.refl w.heap.size w).alloc (Nat.le_refl _) (.cells #[.int .i64 0, .int .i64 0] 31)) (i := k) (by omega)
  subst hA
  obtain ⟨v1, hv1⟩ : ∃ v, (l[k]'(by omega)).1 = v := ⟨_, rfl⟩
  obtain ⟨v2, hv2⟩ : ∃ v, (l[k]'(by omega)).2 = v := ⟨_, rfl⟩
  rw [hv1] at x1 ⊢
  rw [hv2] at x2 ⊢
  rw [hk] at hl ⊢
  have hk8 : (k : Int) < 9223372036854775807 := by omega
  clear hv1 hv2 h hne hk
  go_enter Try.func28, Try.ntmps28
  go_wp2_with fail
  have HR : (w.alloc (.cells #[.int .i64 v1, .int .i64 v2] 31)).heap[w.heap.size]? = some (.cells #[.int .i64 v1, .int .i64 v2] 31 (0, 0)) := by show (w.heap.push _)[w.heap.size]? = _; simp
  refine bodyPost_ret (v := .agg #[.int .i64 v1, .int .i64 v2]) (results_cell_row rfl _ _ w.heap.size 31 #[.int .i64 v1, .int .i64 v2] (0, 0) _ rfl HR branch_desc rfl (by kernel_rfl)) rfl ⟨rfl, ?_⟩
  exact (Below.refl _ _).alloc (Nat.le_refl _) _
end Go.Proofs.Ytokdicaoonjimaa
