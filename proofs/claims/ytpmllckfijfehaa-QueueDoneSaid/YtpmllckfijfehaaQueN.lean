/- Queues, the document's answer: contract of Done. -/
import Derived.Test.YtpmllckfijfehaaQueMb
namespace Go.Proofs.Ytpmllckfijfehaa
open Go.Shelf Go.RowKit Go.Lib Go.Sort

theorem keepS_take {l : List SetV} {k : Nat} {seq : Int} (hk : k < l.length) : (l.take (k + 1)).filter (keepS seq) = (l.take k).filter (keepS seq) ++ (if keepS seq l[k] = true then [l[k]] else []) := by
  rw [List.take_succ_eq_append_getElem hk, List.filter_append]
  by_cases h : keepS seq l[k] = true <;> simp [h]

set_option maxHeartbeats 8000000 in
set_option maxRecDepth 100000 in
theorem DQDone_any {w : World} {q : QuV} (seq : Int) (h : QuAt w w.heap.size q) (hs : q.sets.length ≤ 500) :
    Calls Try.prog 23 #[q.val, .int .i64 seq] w (QuEnd (quDone q.qu seq) w) := by
  obtain ⟨A, c, l, A2, c2, ws, f, t⟩ := q
  show Calls _ _ #[.agg #[.slice A l.length c, .slice A2 ws.length c2, .int .i64 f, .int .i64 t], .int .i64 seq] w _
  simp only at hs
  obtain ⟨V1, hV1⟩ : ∃ V1, V1 = w.alloc (.cells #[.slice A l.length c, .slice A2 ws.length c2, .int .i64 f, .int .i64 t] 25 (0, 0)) := ⟨_, rfl⟩
  obtain ⟨V2, hV2⟩ : ∃ V2, V2 = V1.alloc (.cells #[.slice none 0 0, .slice none 0 0, .int .i64 0, .int .i64 0] 25 (0, 0)) := ⟨_, rfl⟩
  obtain ⟨V, hV⟩ : ∃ V, V = V2.alloc (.cells #[.slice none 0 0, .slice A2 ws.length c2, .int .i64 f, .int .i64 t] 25 (0, 0)) := ⟨_, rfl⟩
  have hb1 : Below w.heap.size w V1 := by rw [hV1]; exact below_one _ _
  have hb2 : Below V1.heap.size V1 V2 := by rw [hV2]; exact below_one _ _
  have hb3 : Below V2.heap.size V2 V := by rw [hV]; exact below_one _ _
  have hs1 : V1.heap.size = w.heap.size + 1 := by rw [hV1]; simp
  have hs2 : V2.heap.size = w.heap.size + 2 := by rw [hV2]; simp [hs1]
  have HBV : Hid (Below w.heap.size w V) := Lib.hid (below_next (below_next hb1 hb2) hb3)
  have HF0 : Hid (Four V w.heap.size (.slice A l.length c) (.slice A2 ws.length c2) (.int .i64 f) (.int .i64 t) 25) := Lib.hid ⟨by
    rw [hb3.block _ (by omega), hb2.block _ (by omega), hV1]; exact heap_new _ _⟩
  have HF1 : Hid (Four V (w.heap.size + 1) (.slice none 0 0) (.slice none 0 0) (.int .i64 0) (.int .i64 0) 25) := Lib.hid ⟨by
    rw [hb3.block _ (by omega), hV2, ← hs1]; exact heap_new _ _⟩
  have HF2 : Hid (Four V (w.heap.size + 2) (.slice none 0 0) (.slice A2 ws.length c2) (.int .i64 f) (.int .i64 t) 25) := Lib.hid ⟨by
    rw [← hs2, hV]; exact heap_new _ _⟩
  have HSz : Hid (w.heap.size + 3 ≤ V.heap.size) := Lib.hid (by rw [hV]; simp [hs2])
  have HV : Hid (V = ((w.alloc (.cells #[.slice A l.length c, .slice A2 ws.length c2, .int .i64 f, .int .i64 t] 25 (0, 0))).alloc (.cells #[.slice none 0 0, .slice none 0 0, .int .i64 0, .int .i64 0] 25 (0, 0))).alloc (.cells #[.slice none 0 0, .slice A2 ws.length c2, .int .i64 f, .int .i64 t] 25 (0, 0))) := Lib.hid (by rw [hV, hV2, hV1])
  clear hb1 hb2 hb3 hs1 hs2 hV hV2 hV1
  have HQV : Hid (QuAt V V.heap.size ⟨A, c, l, A2, c2, ws, f, t⟩) := Lib.hid (h.next HBV.out)
  have HEnd : Hid (∀ (wr W : World) (A5 : Option Addr) (c5 : Nat), Moves (fun k => k = w.heap.size + 2) V wr → wr.ownsRow V.heap.size 56 3 (.slice A5 (l.filter (keepS seq)).length c5) (l.filter (keepS seq)).length (svCells (l.filter (keepS seq))) → QBlk wr (w.heap.size + 2) → Moves (fun k => k = w.heap.size + 1) wr W → QuEnd (quDone (QuV.qu ⟨A, c, l, A2, c2, ws, f, t⟩) seq) w (.returned (.agg #[.slice A5 (l.filter (keepS seq)).length c5, .slice A2 ws.length c2, .int .i64 f, .int .i64 t])) W) := Lib.hid (fun wr W A5 c5 hm ho hq2 hm2 => by
    have hB : ∀ k, k = w.heap.size + 2 → QBlk V k := by rintro k rfl; exact QBlk.of HF2.out.blk
    have hqr := (HQV.out.turned hm hB).more hm.size
    obtain ⟨A9, c9, h9, _, hl9⟩ := own_lies ho
    have hnil : A5 = none → c5 = 0 := fun e => by
      subst e
      rcases ho.2 with ⟨e, _⟩ | ⟨g, cap, cur, e, _⟩
      · simp only [Value.slice.injEq] at e; exact e.2.2
      · simp only [Value.slice.injEq] at e; exact absurd e.1 (by simp)
    simp only [Value.slice.injEq, true_and] at h9
    obtain ⟨rfl, rfl⟩ := h9
    have hq : QuAt wr wr.heap.size ⟨A5, c5, l.filter (keepS seq), A2, c2, ws, f, t⟩ := ⟨⟨hl9, fun x hx => hqr.sets.2 x (List.mem_filter.1 hx).1⟩, hqr.opn, hnil, hqr.nil2⟩
    have hF1r : QBlk wr (w.heap.size + 1) := QBlk.of (ty := 25) ((hm.block _ (by have := HSz.out; omega) (by omega)).trans HF1.out.blk)
    have hq3 := (hq.turned hm2 (by rintro k rfl; exact hF1r)).more hm2.size
    refine ⟨_, by simp [QuV.qu, quDone, plainS_filter], rfl, hq3, ?_⟩
    have h1 := hm.below (B := w.heap.size) HBV.out.size (by rintro k rfl; omega)
    have h2 := hm2.below (B := w.heap.size) (Nat.le_trans HBV.out.size hm.size) (by rintro k rfl; omega)
    exact HBV.out.trans (h1.trans h2))
  have HF0r : Hid (∀ wr, Moves (fun k => k = w.heap.size + 2) V wr → Four wr w.heap.size (.slice A l.length c) (.slice A2 ws.length c2) (.int .i64 f) (.int .i64 t) 25) := Lib.hid (fun wr hm => ⟨(hm.block _ (by have := HSz.out; omega) (by omega)).trans HF0.out.blk⟩)
  have HF1r : Hid (∀ wr, Moves (fun k => k = w.heap.size + 2) V wr → Four wr (w.heap.size + 1) (.slice none 0 0) (.slice none 0 0) (.int .i64 0) (.int .i64 0) 25) := Lib.hid (fun wr hm => ⟨(hm.block _ (by have := HSz.out; omega) (by omega)).trans HF1.out.blk⟩)
  have HSr : Hid (∀ wr, Moves (fun k => k = w.heap.size + 2) V wr → SetsAt wr wr.heap.size A l) := Lib.hid (fun wr hm => (HQV.out.sets.turned hm (by rintro k rfl; exact QBlk.of HF2.out.blk)).more hm.size)
  obtain ⟨i0, hi0, hz0, hz1, hz2⟩ := info_parts Try.infoSet
  clear h HQV HF0 HF1
  generalize QuV.qu ⟨A, c, l, A2, c2, ws, f, t⟩ = U at HEnd ⊢
  obtain ⟨n, hn⟩ : ∃ n, l.length = n := ⟨_, rfl⟩
  have HN := Lib.hid hn
  rw [hn] at HF0r HV hs ⊢
  generalize ws.length = wn at HF0r HF2 HV HEnd ⊢
  clear hn
  have hne : w.heap.size + 1 ≠ w.heap.size + 2 := by omega
  have hne2 : w.heap.size + 2 ≠ w.heap.size + 1 := by omega
  have hne3 : w.heap.size ≠ w.heap.size + 2 := by omega
  have hne4 : w.heap.size + 2 ≠ w.heap.size := by omega
  go_enter Try.func23, Try.ntmps23
  go_wp2_with fail
  rw [← HV.out]
  simp only [Nat.add_assoc, Nat.reduceAdd]
  clear HV
  go_loopg [6] n (fun kx s6 wr => ∃ (k m : Nat) (A5 : Option Addr) (c5 : Nat), s6 = .int .i64 k ∧ k ≤ n ∧ n - k ≤ kx ∧ m ≤ k ∧ Hid (((l.take k).filter (keepS seq)).length = m) ∧ Hid (wr.ownsRow V.heap.size 56 3 (.slice A5 m c5) m (svCells ((l.take k).filter (keepS seq)))) ∧ Hid (Four wr (w.heap.size + 2) (.slice A5 m c5) (.slice A2 wn c2) (.int .i64 f) (.int .i64 t) 25) ∧ Hid (Moves (fun k => k = w.heap.size + 2) V wr))
  case atStart => exact ⟨0, 0, none, 0, rfl, Nat.zero_le _, by omega, Nat.le_refl _, Lib.hid rfl, Lib.hid (World.ownsRow_nil _ _ _ _), HF2, Lib.hid (Moves.refl _ _)⟩
  case round =>
    obtain ⟨k, m, A5, c5, rfl, hk, hkx, hmk, HMl, HO, HF, HM⟩ := hrel
    have HX := Lib.hid (HF0r.out wr HM.out)
    have x0 := HX.out.c0
    by_cases hlt : k < n
    · have hltz : (k : Int) < (n : Int) := by omega
      have hkl : k < l.length := by rw [HN.out]; exact hlt
      obtain ⟨b, off, hA, hbl, y1, y2, y3, y4, y5⟩ := (HSr.out wr HM.out).at_ (Below.refl _ _) hkl
      have HT := Lib.hid (keepS_take (seq := seq) hkl)
      obtain ⟨x, hx⟩ : ∃ x, l[k] = x := ⟨_, rfl⟩
      rw [hx] at y1 y2 y3 HT
      clear hx hkl y4 y5
      obtain ⟨xf, xt, xw, xa, xc⟩ := x
      simp only at y1 y2 y3
      subst hA
      cases hq : decide (seq < xt) with
      | false =>
        have HT2 : Hid ((l.take (k + 1)).filter (keepS seq) = (l.take k).filter (keepS seq)) := Lib.hid (by rw [HT.out, if_neg (by unfold keepS; rw [hq]; simp), List.append_nil])
        generalize xw.length = nx at y3
        go_wp2_with fail
        go_roundg (n - (k + 1))
        case measure => omega
        case rel => exact ⟨k + 1, m, A5, c5, by go_num, by omega, Nat.le_refl _, by omega, Lib.hid (by rw [HT2.out]; exact HMl.out), Lib.hid (by rw [HT2.out]; exact HO.out), HF, HM⟩
      | true =>
        have HT2 : Hid ((l.take (k + 1)).filter (keepS seq) = (l.take k).filter (keepS seq) ++ [⟨xf, xt, xw, xa, xc⟩]) := Lib.hid (by rw [HT.out, if_pos (by unfold keepS; exact hq)])
        obtain ⟨nx, hnx⟩ : ∃ nx, xw.length = nx := ⟨_, rfl⟩
        have HNx := Lib.hid hnx
        rw [hnx] at y3
        have hk0 : (0 : Int) ≤ (k : Int) := Int.natCast_nonneg _
        have z0 := HF.out.c0
        have zf := HF.out.fr
        clear hnx HT
        have hbw : b < wr.heap.size := hbl
        have hHw : w.heap.size < wr.heap.size := (Array.getElem?_eq_some_iff.1 HX.out.blk).1
        have hH2w : w.heap.size + 2 < wr.heap.size := (Array.getElem?_eq_some_iff.1 HF.out.blk).1
        have hVw : V.heap.size ≤ wr.heap.size := HM.out.size
        have HOo : Hid ((wr.alloc (.cells #[.int .i64 xf, .int .i64 xt, .slice xa nx xc] 56 (0, 0))).drew.ownsRow V.heap.size 56 3 (.slice A5 m c5) m (svCells ((l.take k).filter (keepS seq)))) := Lib.hid (own_kept HO.out ((below_one wr (.cells #[.int .i64 xf, .int .i64 xt, .slice xa nx xc] 56 (0, 0))).drew))
        have a0 : (wr.alloc (.cells #[.int .i64 xf, .int .i64 xt, .slice xa nx xc] 56 (0, 0))).cell? ⟨w.heap.size, 0, none⟩ = _ := ((below_one wr (.cells #[.int .i64 xf, .int .i64 xt, .slice xa nx xc] 56 (0, 0))).cell (p := ⟨w.heap.size, 0, none⟩) hHw).trans x0
        have a1 : (wr.alloc (.cells #[.int .i64 xf, .int .i64 xt, .slice xa nx xc] 56 (0, 0))).cell? ⟨w.heap.size + 2, 0, none⟩ = _ := ((below_one wr (.cells #[.int .i64 xf, .int .i64 xt, .slice xa nx xc] 56 (0, 0))).cell (p := ⟨w.heap.size + 2, 0, none⟩) hH2w).trans z0
        have hnew : ∀ j u, ([.int .i64 xf, .int .i64 xt, .slice xa nx xc] : List Value)[j]? = some u → (wr.alloc (.cells #[.int .i64 xf, .int .i64 xt, .slice xa nx xc] 56 (0, 0))).drew.cell? (Addr.add ⟨wr.heap.size, 0, none⟩ j) = some u := fun j u hj => cell_three_new wr _ _ _ _ j u hj
        have HFin : Hid (∀ g cap w7, (wr.alloc (.cells #[.int .i64 xf, .int .i64 xt, .slice xa nx xc] 56 (0, 0))).drew.grownBy w7 (Value.slice A5 m c5).ownBlock → w7.ownsRow V.heap.size 56 3 (.slice (some ⟨g, 0, none⟩) (m + 1) cap) (m + 1) (svCells ((l.take k).filter (keepS seq)) ++ [.int .i64 xf, .int .i64 xt, .slice xa nx xc]) → Four w7 (w.heap.size + 2) (.slice A5 m c5) (.slice A2 wn c2) (.int .i64 f) (.int .i64 t) 25 ∧ Moves (fun k => k = w.heap.size + 2) V w7 ∧ (w7.setCell ⟨w.heap.size + 2, 0, none⟩ (.slice (some ⟨g, 0, none⟩) (m + 1) cap)).ownsRow V.heap.size 56 3 (.slice (some ⟨g, 0, none⟩) (m + 1) cap) (m + 1) (svCells ((l.take k).filter (keepS seq)) ++ [.int .i64 xf, .int .i64 xt, .slice xa nx xc])) := Lib.hid (fun g cap w7 hg ho => by
          have hlow : ∀ q, (Value.slice A5 m c5).ownBlock = some q → V.heap.size ≤ q := fun q hq => (HO.out.lt q hq).1
          have hz := HSz.out
          refine ⟨⟨?_⟩, ?_, ?_⟩
          · rw [hg.block _ (by simp; omega) (fun e => by have := hlow _ e.symm; omega)]
            exact ((below_one wr (.cells #[.int .i64 xf, .int .i64 xt, .slice xa nx xc] 56 (0, 0))).drew.block _ hH2w).trans HF.out.blk
          · have hb7 : Below V.heap.size V w7 ∨ True := Or.inr trivial
            exact (HM.out.trans (Moves.of_below (F := fun _ => False) (below_one wr (.cells #[.int .i64 xf, .int .i64 xt, .slice xa nx xc] 56 (0, 0))).drew) (fun _ h => h.elim)).trans (Moves.of_grown (F := fun q => V.heap.size ≤ q) hg (fun q hq => hlow q hq)) (fun q hq => Or.inr hq)
          · exact ho.kept (row := some (w.heap.size + 2)) ⟨rfl, rfl, rfl, by simp [World.setCell], fun q _ hq => Below.heap_setCell _ _ _ _ (fun e => hq (by rw [e]))⟩ (by
              cases hq : (Value.slice (some (⟨g, 0, none⟩ : Addr)) (m + 1) cap).ownBlock with
              | none => exact Or.inl rfl
              | some q => exact Or.inr (fun e => by cases e; have := (ho.lt _ hq).1; omega)))
        go_wp2_with fail
        go_region_law (refine step_append_lies _ (by rfl) _ _ _ (by rfl) V.heap.size 56 i0 (.agg #[.int .i64 0, .int .i64 0, .slice none 0 0]) 3 40 Try.underlying22 hi0 hz0 hz1 hz2 rfl (by decide) (.slice A5 m c5) m (svCells ((l.take k).filter (keepS seq))) (by rfl) HOo.out ⟨wr.heap.size, 0, none⟩ 1 1 [.int .i64 xf, .int .i64 xt, .slice xa nx xc] (by rfl) (by rfl) hnew (by simp [Value.oneCell']) (by omega) (by unfold maxLen; omega) (by omega) (by simp; omega) _ rfl ?_; intro g cap w7 hown hg hat hlt7; have HF7 := Lib.hid (HFin.out g cap w7 hg hown); have u0 := HF7.out.1.c0; have uf := HF7.out.1.fr; clear hown hg hat hlt7)
        all_goals
          go_wp2_with fail
          go_roundg (n - (k + 1))
          case measure => omega
          case rel => exact ⟨k + 1, m + 1, some ⟨g, 0, none⟩, cap, by go_num, by omega, Nat.le_refl _, by omega, Lib.hid (by rw [HT2.out, List.length_append, HMl.out]; rfl), Lib.hid (by rw [HT2.out, svCells_append, show svCells [(⟨xf, xt, xw, xa, xc⟩ : SetV)] = [.int .i64 xf, .int .i64 xt, .slice xa nx xc] from by rw [← HNx.out]; rfl]; exact HF7.out.2.2), Lib.hid (HF7.out.1.set0 _), Lib.hid (HF7.out.2.1.setCell (p := ⟨w.heap.size + 2, 0, none⟩) rfl _)⟩
    · have hltz : ¬ (k : Int) < (n : Int) := by omega
      have hkn : l.take k = l := List.take_of_length_le (by rw [HN.out]; omega)
      rw [hkn] at HMl HO
      have hm := HMl.out
      have HE2 : Hid (∀ W, Moves (fun k => k = w.heap.size + 1) wr W → QuEnd (quDone U seq) w (.returned (.agg #[.slice A5 m c5, .slice A2 wn c2, .int .i64 f, .int .i64 t])) W) := Lib.hid (fun W hm2 => by
        have := HEnd.out wr W A5 c5 HM.out (by rw [hm]; exact HO.out) (QBlk.of HF.out.blk) hm2
        rw [hm] at this; exact this)
      have HF1w := Lib.hid (HF1r.out wr HM.out)
      have z0 := HF.out.c0
      have z1 := HF.out.c1
      have z2 := HF.out.c2
      have z3 := HF.out.c3
      have p0 := HF1w.out.c0
      have p1 := HF1w.out.c1
      have p2 := HF1w.out.c2
      have p3 := HF1w.out.c3
      have pf := HF1w.out.fr
      clear hkn hm
      go_wp2_with fail
      have HR1 := Lib.hid (HF1w.out.set (.slice A5 m c5) (.slice A2 wn c2) (.int .i64 f) (.int .i64 t))
      have HMv := Lib.hid ((Moves.refl (fun k => k = w.heap.size + 1) wr).four (H := w.heap.size + 1) rfl (.slice A5 m c5) (.slice A2 wn c2) (.int .i64 f) (.int .i64 t))
      have HEE := Lib.hid (HE2.out _ HMv.out)
      generalize ((((wr.setCell ⟨w.heap.size + 1, 0, none⟩ (.slice A5 m c5)).setCell ⟨w.heap.size + 1, 1, none⟩ (.slice A2 wn c2)).setCell ⟨w.heap.size + 1, 2, none⟩ (.int .i64 f)).setCell ⟨w.heap.size + 1, 3, none⟩ (.int .i64 t)) = W3 at HR1 HMv HEE ⊢
      have r0 := HR1.out.c0
      have r1 := HR1.out.c1
      have r2 := HR1.out.c2
      have r3 := HR1.out.c3
      exact bodyPost_ret (v := .agg #[.slice A5 m c5, .slice A2 wn c2, .int .i64 f, .int .i64 t]) (by simp [results, Try.results23, go_sem, r0, r1, r2, r3]) rfl HEE.out
end Go.Proofs.Ytpmllckfijfehaa
