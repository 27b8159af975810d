/- The laws through the layers: a row of slices that grows ('SlRow'), and what stays while it turns. -/
import Derived.Test.YthajgoigmkkbgaaTopC
namespace Go.Proofs.Ythajgoigmkkbgaa
open Go.Shelf Go.RowKit Go.Lib Go.Sort

/-- All cells of a block are slices. -/
def SlAll (w : World) (g : Nat) : Prop := ∀ j v, w.cell? ⟨g, j, none⟩ = some v → ∃ A n c, v = Value.slice A n c
theorem WrsAt.slid {F : Nat → Prop} {w w' : World} {B : Nat} {A : Option Addr} {us : List Wr} (h : WrsAt w B A us) (hm : Moves F w w') (hF : ∀ k, F k → SlAll w k) : WrsAt w' B A us := by
  refine WrsAt.of_lies (h.lies.moves hm fun b off hA hn hFb => ?_)
  rcases h with h | ⟨b', off', hA', hlt, hc⟩
  · exact hn (by rw [h]; rfl)
  · rw [hA] at hA'; cases hA'
    have hne : us ≠ [] := fun e => hn (by rw [e]; rfl)
    obtain ⟨g0, _, _⟩ := hc 0 (List.length_pos_iff.2 hne)
    obtain ⟨_, _, _, e⟩ := hF b hFb _ _ g0
    cases e
theorem SetsAt.slid {F : Nat → Prop} {w w' : World} {B : Nat} {A : Option Addr} {l : List SetV} (h : SetsAt w B A l) (hm : Moves F w w') (hF : ∀ k, F k → SlAll w k) : SetsAt w' B A l := by
  refine ⟨h.1.moves hm fun b off hA hn hFb => ?_, fun x hx => ⟨(h.2 x hx).1.slid hm hF, (h.2 x hx).2⟩⟩
  have hne : 0 < l.length := by cases l with
    | nil => exact absurd rfl hn
    | cons x l => simp
  obtain ⟨b', off', hA', _, g0, g1, g2, _⟩ := h.at_ (Below.refl _ _) hne
  rw [hA] at hA'; cases hA'
  obtain ⟨_, _, _, e⟩ := hF b hFb _ _ g0
  cases e
theorem QuAt.slid {F : Nat → Prop} {w w' : World} {B : Nat} {q : QuV} (h : QuAt w B q) (hm : Moves F w w') (hF : ∀ k, F k → SlAll w k) : QuAt w' B q := ⟨h.1.slid hm hF, h.2.slid hm hF, h.3, h.4⟩
theorem VolsAt.slid {F : Nat → Prop} {w w' : World} {B : Nat} {A : Option Addr} {vs : List Vl} (h : VolsAt w B A vs) (hm : Moves F w w') (hF : ∀ k, F k → SlAll w k) : VolsAt w' B A vs := by
  rcases h with h | ⟨b, off, hA, hlt, hc⟩
  · exact .inl h
  · by_cases hn : vs = []
    · exact .inl hn
    · have hoff : ¬ F b := fun hFb => by
        obtain ⟨a, c, h1, h2, _⟩ := hc 0 (List.length_pos_iff.2 hn)
        obtain ⟨_, _, _, e⟩ := hF b hFb _ _ h1
        cases e
      refine .inr ⟨b, off, hA, hlt, fun i hi => ?_⟩
      obtain ⟨a, c, h1, h2, h3⟩ := hc i hi
      have hb : b < w.heap.size := World.block_lt_of_cell? w _ h1
      have e := hm.block b hb hoff
      refine ⟨a, c, ?_, ?_, ?_⟩
      · rw [World.cell?_of_block (w := w) (a := ⟨b, off + i * 2, none⟩) e]; exact h1
      · rw [World.cell?_of_block (w := w) (a := ⟨b, off + i * 2 + 1, none⟩) e]; exact h2
      · refine h3.moves hm fun b' o' hA' hne hFb => ?_
        obtain ⟨bb, oo, hAA, hl2, hcs⟩ := h3.at_ hne
        rw [hA'] at hAA; cases hAA
        have h0 := hcs 0 (List.length_pos_iff.2 hne)
        obtain ⟨_, _, _, e⟩ := hF b' hFb _ _ h0
        have hst : ∃ s, (vs[i].2.map Value.string)[0]'(List.length_pos_iff.2 hne) = Value.string s := ⟨_, by rw [List.getElem_map]⟩
        obtain ⟨s, hst⟩ := hst
        rw [hst] at e
        cases e
theorem Four.slid {F : Nat → Prop} {w w' : World} {H : Nat} {a b : Value} {x y : Int} {ty : TypeId} (h : Four w H a b (.int .i64 x) (.int .i64 y) ty) (hm : Moves F w w') (hF : ∀ k, F k → SlAll w k) : Four w' H a b (.int .i64 x) (.int .i64 y) ty := by
  refine ⟨(hm.block H (Array.getElem?_eq_some_iff.1 h.blk).1 fun hFb => ?_).trans h.blk⟩
  obtain ⟨_, _, _, e⟩ := hF H hFb _ _ h.c2
  cases e
theorem Thr.slid {F : Nat → Prop} {w w' : World} {H : Nat} {x : Int} {b c : Value} {ty : TypeId} (h : Thr w H (.int .i64 x) b c ty) (hm : Moves F w w') (hF : ∀ k, F k → SlAll w k) : Thr w' H (.int .i64 x) b c ty := by
  refine ⟨(hm.block H (Array.getElem?_eq_some_iff.1 h.blk).1 fun hFb => ?_).trans h.blk⟩
  obtain ⟨_, _, _, e⟩ := hF H hFb _ _ h.c0
  cases e

/-- A row of slices to volumes that a call owns. -/
def SlRow (w : World) (base : Nat) (v : Value) (xs : List Value) : Prop :=
  ∃ g cap cur, v = .slice (some ⟨g, 0, none⟩) xs.length cap ∧ base ≤ g ∧ w.heap[g]? = some (.cells cur 47 (0, 0)) ∧ xs.length ≤ cap ∧ cap ≤ maxLen ∧ cur.size = cap ∧ cur.toList.take xs.length = xs ∧ ∀ u ∈ cur.toList, ∃ A n c, u = Value.slice A n c
theorem SlRow.kept {w w' : World} {base : Nat} {v : Value} {xs : List Value} (h : SlRow w base v xs) (hb : Below w.heap.size w w') : SlRow w' base v xs := by
  obtain ⟨g, cap, cur, h1, h2, h3, h4⟩ := h
  exact ⟨g, cap, cur, h1, h2, (hb.block g (Array.getElem?_eq_some_iff.1 h3).1).trans h3, h4⟩
theorem SlRow.turned {F : Nat → Prop} {w w' : World} {base : Nat} {v : Value} {xs : List Value} (h : SlRow w base v xs) (hm : Moves F w w') (hF : ∀ k, F k → QBlk w k) : SlRow w' base v xs := by
  obtain ⟨g, cap, cur, h1, h2, h3, h4, h5, h6, h7, h8⟩ := h
  refine ⟨g, cap, cur, h1, h2, (hm.block g (Array.getElem?_eq_some_iff.1 h3).1 fun hFb => ?_).trans h3, h4, h5, h6, h7, h8⟩
  obtain ⟨A1, n1, c1, A2, n2, c2, f, t, hq⟩ := (hF g hFb).cells
  have e : w.cell? ⟨g, 2, none⟩ = some (.int .i64 f) := hq 2
  rw [Lib.cell_of_heap h3] at e
  obtain ⟨_, _, _, e2⟩ := h8 (.int .i64 f) (by
    obtain ⟨hlt, he⟩ := Array.getElem?_eq_some_iff.1 e
    rw [← he]; exact Array.getElem_mem_toList _)
  cases e2
theorem SlRow.form {w : World} {base : Nat} {v : Value} {xs : List Value} (h : SlRow w base v xs) : ∃ g cap, v = .slice (some ⟨g, 0, none⟩) xs.length cap ∧ xs.length ≤ cap ∧ SlAll w g ∧ ∀ w', Below w.heap.size w w' → ∀ i, (hi : i < xs.length) → w'.cell? ⟨g, i, none⟩ = some xs[i] := by
  obtain ⟨g, cap, cur, h1, h2, h3, h4, h5, h6, h7, h8⟩ := h
  refine ⟨g, cap, h1, h4, fun j v hv => ?_, fun w' hb i hi => ?_⟩
  · rw [Lib.cell_of_heap h3] at hv
    obtain ⟨hlt, he⟩ := Array.getElem?_eq_some_iff.1 hv
    exact h8 v (by rw [← he]; exact Array.getElem_mem_toList _)
  · rw [hb.cell (p := ⟨g, i, none⟩) (Array.getElem?_eq_some_iff.1 h3).1, Lib.cell_of_heap h3]
    have e : (cur.toList.take xs.length)[i]? = some xs[i] := by rw [h7]; exact List.getElem?_eq_getElem hi
    rw [List.getElem?_take, if_pos hi] at e
    simpa using e
theorem SlRow.one {w : World} {base : Nat} (A : Option Addr) (n c : Nat) (hb : base ≤ w.heap.size) : SlRow (w.alloc (.cells #[.slice A n c] 47 (0, 0))) base (.slice (some ⟨w.heap.size, 0, none⟩) 1 1) [.slice A n c] :=
  ⟨w.heap.size, 1, _, rfl, hb, heap_new _ _, Nat.le_refl _, by unfold maxLen; omega, rfl, rfl, fun u hu => by
    have : u = .slice A n c := by simpa using hu
    exact ⟨A, n, c, this⟩⟩
theorem infoVols : (Try.prog.info? 47).map (fun i => (i.zero, i.size, i.bytes)) = some (some (.slice none 0 0), 1, 24) := by kernel_rfl
theorem run_append_sl {t ty : TypeId} (ht : Try.prog.underlying t = some (.slice 47)) {w : World} {base : Nat} {v : Value} {xs : List Value} (h : SlRow w base v xs) (hbase : base ≤ w.heap.size)
    (a : Addr) (c : Nat) (u : Value) (hu : w.cell? a = some u) (hs : ∃ A n c, u = Value.slice A n c) (hl : xs.length + 1 ≤ 4000) :
    ∃ v' w', (Builtin.append_ #[t, t] ty #[v, .slice (some a) 1 c]).run Try.prog w = .ok v' w' ∧ SlRow w' base v' (xs ++ [u]) ∧ ∃ F, Moves F w w' ∧ (∀ k, F k → SlAll w k) ∧ ∀ k, F k → base ≤ k := by
  obtain ⟨i0, hi0, hz0, hz1, hz2⟩ := info_parts infoVols
  have hfo := h.form
  obtain ⟨g, cap, cur, rfl, h2, h3, h4, h5, h6, h7, h8⟩ := h
  obtain ⟨g', cap', e, _, hall, hcs⟩ := hfo
  simp only [Value.slice.injEq, Option.some.injEq, Addr.mk.injEq, and_true, true_and] at e
  obtain ⟨rfl, rfl⟩ := e
  have hnews : ∀ j v, [u][j]? = some v → w.cell? (a.add j) = some v := fun j v hj => by
    cases j with
    | zero => simp only [List.getElem?_cons_zero, Option.some.injEq] at hj; subst hj; have e : a.add 0 = a := by cases a; simp [Addr.add]
              rw [e]; exact hu
    | succ j => simp at hj
  have h1c : ∀ x ∈ [u], x.oneCell' = true := fun x hx => by
    obtain ⟨A, n, c, rfl⟩ := hs
    rw [List.mem_singleton.1 hx]; rfl
  by_cases hroom : xs.length + 1 ≤ cap
  · have hr := run_append_room (P := Try.prog) w t ty 47 i0 ht hi0 g xs.length cap cur h3 a 1 c [u] (by rw [hz1]; rfl) hnews h1c hroom (by rw [hz1, h6, Nat.mul_one]; exact hroom)
    rw [hz1, Nat.mul_one] at hr
    refine ⟨_, _, hr, ⟨g, cap, _, by simp, h2, setRow_heap w g cur _ 47 _ h3, by simpa using hroom, h5, ?_, ?_, ?_⟩, fun k => k = g, ⟨rfl, rfl, rfl, by simp, fun k _ hk => setRow_other w g k _ hk⟩, fun k hk => by rw [hk]; exact hall, fun k hk => by rw [hk]; exact h2⟩
    · simp only [List.size_toArray, List.length_append, List.length_take, List.length_drop, Array.length_toList, List.length_singleton]
      omega
    · rw [h7]
      exact List.take_left
    · intro x hx
      rcases List.mem_append.1 hx with hx | hx
      · rcases List.mem_append.1 hx with hx | hx
        · exact h8 x (List.mem_of_mem_take hx)
        · rw [List.mem_singleton.1 hx]; exact hs
      · exact h8 x (List.mem_of_mem_drop hx)
  · have hr := run_append_grow (P := Try.prog) w t ty 47 i0 (.slice none 0 0) ht hi0 hz0 ⟨g, 0, none⟩ xs.length cap xs (by rw [hz1, Nat.mul_one]) (fun j v hj => by
      obtain ⟨hlt, he⟩ := List.getElem?_eq_some_iff.1 hj
      rw [WideShapes.add_plain, Nat.zero_add, ← he]
      exact hcs w (Below.refl _ _) j hlt) a 1 c [u] (by rw [hz1]; rfl) hnews (by omega) (by omega) (growslice_fits (by omega) (by rw [hz2]; omega))
    have hge := grownCap_ge w (xs.length + 1) cap 47
    have hcm := grownCap_le_maxLen w (xs.length + 1) cap 47 (by unfold maxLen; omega)
    refine ⟨_, _, hr, ⟨w.heap.size, _, _, by simp, hbase, heap_alloc_new w.drew _, by simpa using hge, hcm, ?_, ?_, ?_⟩, fun _ => False, ⟨rfl, rfl, rfl, by simp, fun k hk _ => by show (w.drew.heap.push _)[k]? = w.heap[k]?; rw [Array.getElem?_push, if_neg (show ¬ k = w.drew.heap.size from Nat.ne_of_lt hk)]; rfl⟩, fun _ hk => hk.elim, fun _ hk => hk.elim⟩
    · simp only [Array.size_append, List.size_toArray, size_zeroCells, List.length_singleton, Value.cells]
      simp
      omega
    · simp only [Array.toList_append, List.length_append, List.length_singleton]
      exact List.take_left' (by simp)
    · intro x hx
      simp only [Array.toList_append, List.mem_append] at hx
      rcases hx with (hx | hx) | hx
      · have : x ∈ cur.toList.take xs.length := by rw [h7]; simpa using hx
        exact h8 x (List.mem_of_mem_take this)
      · have : x = u := by simpa using hx
        rw [this]; exact hs
      · refine ⟨none, 0, 0, ?_⟩
        simp only [Builtin.zeroCells, Value.cells] at hx
        simp [Nat.mod_one] at hx
        exact hx.2.symm
theorem wpList_append_sl {ops : Array Oper} {rest : List Oper} {o : Oper} {a : Act} {Q : Exit → Act → World → Prop} {w : World} (hgd : o.guard = none) (s x : Operand) (t : TypeId)
    (ho : o.op = .call { callee := .builtin .append, args := #[s, x], argTypes := #[t, t] }) (ht : Try.prog.underlying t = some (.slice 47))
    (base : Nat) (v : Value) (xs : List Value) (hs : a.eval s = v) (hrow : SlRow w base v xs) (hbase : base ≤ w.heap.size) (ad : Addr) (c : Nat) (hx : a.eval x = .slice (some ad) 1 c) (u : Value) (hu : w.cell? ad = some u) (hsl : ∃ A n c, u = Value.slice A n c) (hl : xs.length + 1 ≤ 4000)
    (h : ∀ v' w', SlRow w' base v' (xs ++ [u]) → (∃ F, Moves F w w' ∧ (∀ k, F k → SlAll w k) ∧ ∀ k, F k → base ≤ k) → wpList Try.prog ops Q rest (a.put o.dst v') w') : wpList Try.prog ops Q (o :: rest) a w := by
  refine wpList_plain hgd fun K hK => ?_
  obtain ⟨v', w', hr, h2, h3⟩ := run_append_sl (ty := o.type) ht hrow hbase ad c u hu hsl hl
  unfold Oper.wp execOp
  simp only [ho, resolve, invoke, builtin, Sem.run_bind, Sem.run_pure, Result.andThen_ok, List.map_toArray, List.map_cons, List.map_nil, hs, hx, hr]
  exact hK _ _ (h v' w' h2 h3)
end Go.Proofs.Ythajgoigmkkbgaa
