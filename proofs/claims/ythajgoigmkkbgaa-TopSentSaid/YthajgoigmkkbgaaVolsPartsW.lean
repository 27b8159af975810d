/- The walk of VolsParts. -/
import Derived.Test.YthajgoigmkkbgaaVolK
namespace Go.Proofs.Ythajgoigmkkbgaa
open Go.RowKit

/-! ### Rows of writes -/

def wrCells : List Wr → List Value
  | [] => []
  | x :: ws => .int .i64 x.vol :: .int .i64 x.block :: .string x.data :: wrCells ws
theorem wrCells_length (ws : List Wr) : (wrCells ws).length = ws.length * 3 := by
  induction ws with
  | nil => rfl
  | cons x ws ih => simp [wrCells, ih]; omega
theorem wrCells_append (a b : List Wr) : wrCells (a ++ b) = wrCells a ++ wrCells b := by
  induction a with
  | nil => rfl
  | cons x a ih => simp [wrCells, ih]
theorem wrCells_at {ws : List Wr} {k : Nat} (hk : k < ws.length) : (wrCells ws)[k * 3]? = some (.int .i64 ws[k].vol) ∧ (wrCells ws)[k * 3 + 1]? = some (.int .i64 ws[k].block) ∧ (wrCells ws)[k * 3 + 2]? = some (.string ws[k].data) := by
  induction ws generalizing k with
  | nil => simp at hk
  | cons x ws ih =>
    cases k with
    | zero => exact ⟨rfl, rfl, rfl⟩
    | succ k =>
      have := ih (k := k) (by simpa using hk)
      rw [show (k + 1) * 3 = k * 3 + 1 + 1 + 1 from by omega]
      simpa [wrCells] using this
theorem wrCells_one (ws : List Wr) : ∀ u ∈ wrCells ws, u.oneCell' = true := by
  induction ws with
  | nil => intro u hu; simp [wrCells] at hu
  | cons x ws ih =>
    intro u hu
    simp only [wrCells, List.mem_cons] at hu
    rcases hu with rfl | rfl | rfl | hu
    · rfl
    · rfl
    · rfl
    · exact ih u hu
theorem WrsAt.lies {w : World} {B : Nat} {A : Option Addr} {ws : List Wr} (h : WrsAt w B A ws) : Lies w B A (wrCells ws) := by
  rcases h with rfl | ⟨b, off, hA, hlt, hc⟩
  · exact .inl rfl
  · refine .inr ⟨b, off, hA, hlt, fun i hi => ?_⟩
    rw [wrCells_length] at hi
    have hk : i / 3 < ws.length := by omega
    obtain ⟨h1, h2, h3⟩ := hc (i / 3) hk
    obtain ⟨g1, g2, g3⟩ := wrCells_at hk
    have e : (wrCells ws)[i]? = some (wrCells ws)[i] := List.getElem?_eq_getElem _
    have hm : i % 3 = 0 ∨ i % 3 = 1 ∨ i % 3 = 2 := by omega
    rcases hm with h0 | h0 | h0
    · rw [show i / 3 * 3 = i from by omega, e] at g1
      rw [show off + i = off + i / 3 * 3 from by omega, h1, ← g1]
    · rw [show i / 3 * 3 + 1 = i from by omega, e] at g2
      rw [show off + i = off + i / 3 * 3 + 1 from by omega, h2, ← g2]
    · rw [show i / 3 * 3 + 2 = i from by omega, e] at g3
      rw [show off + i = off + i / 3 * 3 + 2 from by omega, h3, ← g3]
theorem WrsAt.of_lies {w : World} {B : Nat} {A : Option Addr} {ws : List Wr} (h : Lies w B A (wrCells ws)) : WrsAt w B A ws := by
  rcases h with h | ⟨b, off, hA, hlt, hc⟩
  · have := wrCells_length ws
    rw [h] at this
    exact .inl (List.eq_nil_of_length_eq_zero (by simp at this; omega))
  · refine .inr ⟨b, off, hA, hlt, fun k hk => ?_⟩
    have hl := wrCells_length ws
    obtain ⟨g1, g2, g3⟩ := wrCells_at hk
    rw [List.getElem?_eq_getElem (by omega)] at g1 g2 g3
    refine ⟨?_, ?_, ?_⟩
    · rw [hc (k * 3) (by omega)]; exact g1
    · rw [Nat.add_assoc, hc (k * 3 + 1) (by omega)]; exact g2
    · rw [Nat.add_assoc, hc (k * 3 + 2) (by omega)]; exact g3

theorem Try.infoWr : (Try.prog.info? 74).map (fun i => (i.zero, i.size, i.bytes)) = some (some (.agg #[.int .i64 0, .int .i64 0, .string ByteArray.empty]), 3, 32) := by kernel_rfl

/-- append of a whole slice, nil or not, onto a row of the call's own. -/
theorem wpList_append_rows {P : Program} {w : World} {ops : Array Oper} {rest : List Oper} {o : Oper} {a : Act} {Q : Exit → Act → World → Prop} (hgd : o.guard = none) (s x : Operand) (t : TypeId)
    (ho : o.op = .call { callee := .builtin .append, args := #[s, x], argTypes := #[t, t] })
    (base : Nat) (e : TypeId) (i : TypeInfo) (z : Value) (size bytes : Nat) (ht : P.underlying t = some (.slice e)) (hi : P.info? e = some i) (hz : i.zero = some z)
    (hsize : i.size = size) (hby : i.bytes = bytes) (hzs : z.cells.size = size) (hsz : 0 < size)
    (v : Value) (n : Nat) (xs : List Value) (hs : a.eval s = v) (hown : w.ownsRow base e size v n xs)
    (A : Option Addr) (m c : Nat) (news : List Value) (hx : a.eval x = .slice A m c) (hl : news.length = m * size) (B : Nat) (hlies : Lies w B A news) (hnil : A = none → c = 0) (h1 : ∀ u ∈ news, u.oneCell' = true)
    (h63 : n + m ≤ maxLen) (hbytes : (n + m) * bytes ≤ 140737488355328) (hbase : base ≤ w.heap.size)
    (h : ∀ v' w', w'.ownsRow base e size v' (n + m) (xs ++ news) → w.grownBy w' v.ownBlock → wpList P ops Q rest (a.put o.dst v') w') : wpList P ops Q (o :: rest) a w := by
  cases A with
  | none =>
    have hne : news = [] := by
      rcases hlies with h | ⟨b, off, hA, _⟩
      · exact h
      · cases hA
    subst hne
    have hm0 : m = 0 := by
      have : m * size = 0 := by simpa using hl.symm
      rcases Nat.mul_eq_zero.1 this with h | h
      · exact h
      · omega
    subst hm0
    have hc := hnil rfl
    subst hc
    have hrun := run_append_owned_none (P := P) (w := w) base t o.type e i size ht hi v n xs hown
    refine wpList_plain hgd fun K hK => ?_
    unfold Oper.wp
    simp [execOp, ho, resolve, invoke, builtin, hs, hx, hrun, Result.andThen]
    exact hK _ _ (h v w (by simpa using hown) (grown_refl _ _))
  | some ad =>
    refine wpList_append_own w hgd s x t ho base e i z size bytes ht hi hz hsize hby hzs hsz v n xs hs hown ad m c news hx hl ?_ h1 h63 hbytes hbase (fun v' w' h2 h3 _ => h v' w' h2 h3)
    intro j u hu
    rcases hlies with h | ⟨b, off, hA, _, hc⟩
    · rw [h] at hu; simp at hu
    · cases hA
      obtain ⟨hj1, hj2⟩ := List.getElem?_eq_some_iff.1 hu
      rw [WideShapes.add_plain, hc j hj1, hj2]

/-! ### Writes in two parts -/

theorem parts_ok {vs : List Vl} {a b : List Wr} (h : checkE vs a = 0) : checkE (applyV vs a) b = checkE vs (a ++ b) ∧ applyV (applyV vs a) b = applyV vs (a ++ b) := by
  obtain ⟨hr, hc, hr2⟩ := right_apply h
  have e1 : applyV vs a = a.foldl put1 vs := applyV_ok h
  have e2 : checkE (applyV vs a) b = chk vs b := by rw [e1, checkE_right hr2, chk_shapes (shapes_foldl a vs)]
  have e3 : checkE vs (a ++ b) = chk vs b := by rw [checkE_right hr, chk_append, if_pos hc]
  refine ⟨by rw [e2, e3], ?_⟩
  by_cases h0 : chk vs b = 0
  · have f1 : applyV (applyV vs a) b = b.foldl put1 (applyV vs a) := applyV_ok (by rw [e2]; exact h0)
    have f2 : applyV vs (a ++ b) = (a ++ b).foldl put1 vs := applyV_ok (by rw [e3]; exact h0)
    rw [f1, f2, e1, List.foldl_append]
  · have f1 : applyV (applyV vs a) b = [] := applyV_no (by rw [e2]; exact h0)
    have f2 : applyV vs (a ++ b) = [] := applyV_no (by rw [e3]; exact h0)
    rw [f1, f2]
theorem fit_apply {vs : List Vl} {ws : List Wr} : VolsFit (applyV vs ws) := by
  by_cases h : checkE vs ws = 0
  · rw [applyV_ok h]; exact right_fit (right_apply h).2.2
  · rw [applyV_no h]; exact ⟨by simp, by simp⟩

end Go.Proofs.Ythajgoigmkkbgaa
