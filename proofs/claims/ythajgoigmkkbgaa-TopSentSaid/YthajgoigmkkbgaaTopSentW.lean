/- The walk of TopSent. -/
import Derived.Test.YthajgoigmkkbgaaTopE
import Derived.Test.YthajgoigmkkbgaaTopB
import Derived.Test.YthajgoigmkkbgaaLagBoundsW
import Derived.Test.YthajgoigmkkbgaaShieldP
namespace Go.Proofs.Ythajgoigmkkbgaa
open Go.Shelf Go.RowKit Go.Lib Go.Sort

/-- Volumes behind a slice. -/
structure StV where
  A : Option Addr
  c : Nat
  vs : List Vl
def stCells (l : List StV) : List Value := l.map (fun s => .slice s.A s.vs.length s.c)
def stPl (l : List StV) : List (List Vl) := l.map (fun s => s.vs)
theorem stCells_length (l : List StV) : (stCells l).length = l.length := List.length_map ..
theorem stPl_length (l : List StV) : (stPl l).length = l.length := List.length_map ..
theorem stCells_snoc (l : List StV) (s : StV) : stCells (l ++ [s]) = stCells l ++ [.slice s.A s.vs.length s.c] := by simp [stCells]
theorem stPl_snoc (l : List StV) (s : StV) : stPl (l ++ [s]) = stPl l ++ [s.vs] := by simp [stPl]
theorem stPl_at {l : List StV} {i : Nat} (h : i < l.length) : stV (stPl l) (i : Int) = l[i].vs := by
  unfold stV stPl
  rw [List.getD_eq_getElem?_getD, Int.toNat_natCast, List.getElem?_map, List.getElem?_eq_getElem h]; rfl
/-- What lies in memory in each round. -/
structure SnAt (w : World) (P Pb : Nat) (b : Bd) (wd : World) (q : QuV) (v : Value) (sv ex : List StV) : Prop where
  lb : LbAt w P Pb b wd q
  row : SlRow wd w.heap.size v (stCells sv)
  vols : ∀ s ∈ sv, VolsAt wd wd.heap.size s.A s.vs
  ex_ : ∀ s ∈ ex, VolsAt wd wd.heap.size s.A s.vs
theorem SnAt.later {w wd w' : World} {P Pb : Nat} {b : Bd} {q : QuV} {v : Value} {sv ex : List StV} (h : SnAt w P Pb b wd q v sv ex) (hb : Below wd.heap.size wd w') : SnAt w P Pb b w' q v sv ex :=
  ⟨h.lb.later hb, h.row.kept hb, fun s hs => (h.vols s hs).next hb, fun s hs => (h.ex_ s hs).next hb⟩
theorem SnAt.less {w wd : World} {P Pb : Nat} {b : Bd} {q : QuV} {v : Value} {sv ex ex' : List StV} (h : SnAt w P Pb b wd q v sv ex) (hx : ∀ s ∈ ex', VolsAt wd wd.heap.size s.A s.vs) : SnAt w P Pb b wd q v sv ex' := ⟨h.lb, h.row, h.vols, hx⟩
theorem SnAt.store {w wd : World} {P Pb : Nat} {b : Bd} {q q3 : QuV} {v : Value} {sv ex : List StV} (h : SnAt w P Pb b wd q v sv ex) (hq : QuAt wd wd.heap.size q3) (hne : Pb ≠ P) (hP : w.heap.size ≤ P) : SnAt w P Pb b ((((wd.setCell ⟨P, 0, none⟩ (.slice q3.A q3.sets.length q3.c)).setCell ⟨P, 1, none⟩ (.slice q3.A2 q3.opn.length q3.c2)).setCell ⟨P, 2, none⟩ (.int .i64 q3.frm)).setCell ⟨P, 3, none⟩ (.int .i64 q3.to_)) q3 v sv ex := by
  have hm := (Moves.refl (fun k => k = P) wd).four (H := P) rfl (.slice q3.A q3.sets.length q3.c) (.slice q3.A2 q3.opn.length q3.c2) (.int .i64 q3.frm) (.int .i64 q3.to_)
  have hB : ∀ k, k = P → QBlk wd k := by rintro k rfl; exact QBlk.of h.lb.box.blk
  exact ⟨h.lb.store hq hne hP, h.row.turned hm hB, fun s hs => ((h.vols s hs).turned hm hB).more hm.size, fun s hs => ((h.ex_ s hs).turned hm hB).more hm.size⟩
theorem SnAt.grown {w wd w' : World} {P Pb : Nat} {b : Bd} {q : QuV} {v v' : Value} {sv ex : List StV} {s : StV} {F : Nat → Prop} (h : SnAt w P Pb b wd q v sv ex) (hm : Moves F wd w') (hS : ∀ k, F k → SlAll wd k) (hF : ∀ k, F k → w.heap.size ≤ k) (hr : SlRow w' w.heap.size v' (stCells sv ++ [.slice s.A s.vs.length s.c])) (hs : s ∈ ex) : SnAt w P Pb b w' q v' (sv ++ [s]) ex :=
  ⟨⟨(h.lb.qu.slid hm hS).more hm.size, h.lb.box.slid hm hS, h.lb.bd.slid hm hS, h.lb.bel.trans (hm.below h.lb.bel.size hF)⟩, by rw [stCells_snoc]; exact hr, fun t ht => by
    rcases List.mem_append.1 ht with ht | ht
    · exact ((h.vols t ht).slid hm hS).more hm.size
    · rw [List.mem_singleton.1 ht]; exact ((h.ex_ s hs).slid hm hS).more hm.size, fun t ht => ((h.ex_ t ht).slid hm hS).more hm.size⟩
theorem SentSt.fit {q : Qu} {sv : List StV} {th : List Vl} {a : Int} (h : SentSt q (stPl sv) th a) : ∀ s ∈ sv, VolsFit s.vs := fun s hs => right_fit (h.right _ (List.mem_map.2 ⟨s, hs, rfl⟩))

/-- Folded writes that are possible name at most all blocks. -/
theorem few_blocks {vs : List Vl} {l : List Wr} (h : checkE vs l = 0) (hs : foldW l = l) : l.length ≤ 128 := by
  obtain ⟨hr, _, _⟩ := right_apply h
  have h1 := note_room (keep_nil hr) h
  have h2 := sum_room hr
  have h3 : (noteN [] l vs).length = l.length := by
    have hp := (fold_takes h).1
    have hl : (pickL vs (marksW l)).length = l.length := by rw [pickL_length]; unfold marksW; rw [List.length_map, hs]
    have hso : sortedW (pickL vs (marksW l)) := by
      rw [pick_keys, hs]
      have h0 : sortedW l := by rw [← hs]; exact foldW_sorted l
      rw [← pairwise_sorted] at h0 ⊢
      rw [List.pairwise_map]
      exact h0.imp (fun {a b} hab => by rw [ltW_iff] at hab ⊢; exact hab)
    unfold noteN pickV
    rw [if_pos hp, List.append_nil, foldW_self hso, hl]
  omega
theorem SentSt.few {q : Qu} {st : List (List Vl)} {th : List Vl} {a : Int} (h : SentSt q st th a) : q.opn.length ≤ 128 := few_blocks h.opn.1 h.ok.2.2.2.2.2.1

set_option maxHeartbeats 32000000 in
set_option maxRecDepth 100000 in
theorem TopSent_walk {w : World} {A A1 A2 A3 : Option Addr} {c c1 c2 c3 : Nat} {vs : List Vl} (b : Bd) {l : List (List Wr)} {cs ts : List Bool} (h0 : VolsAt w w.heap.size A vs) (f0 : VolsFit vs) (h1 : WlsAt w w.heap.size A1 l) (hl : l.length ≤ 9223372036854775807) (hx : ∀ x ∈ l, ∀ u ∈ x, u.data.size ≤ 140737488351232) (h2 : BolsAt w A2 cs) (_ : cs.length ≤ 9223372036854775807) (h3 : BolsAt w A3 ts) (_ : ts.length ≤ 9223372036854775807) :
    Calls Try.prog 6 #[.slice A vs.length c, b.val, .slice A1 l.length c1, .slice A2 cs.length c2, .slice A3 ts.length c3] w fun e w' => e = .returned (.bool true) ∧ Below w.heap.size w w' := by
  obtain ⟨V, hV⟩ : ∃ V, V = w.alloc (.cells #[.int .i64 b.txns, .int .i64 b.bytes, .bool b.hold] 23 (0, 0)) := ⟨_, rfl⟩
  have hbV : Below w.heap.size w V := by rw [hV]; exact below_one _ _
  have HX : Hid (Thr V w.heap.size (.int .i64 b.txns) (.int .i64 b.bytes) (.bool b.hold) 23) := Lib.hid (by rw [hV]; exact Thr.new _ _ _ _ _)
  have hsV : V.heap.size = w.heap.size + 1 := by rw [hV]; simp
  have HV := Lib.hid hV
  have HBV := Lib.hid hbV
  have HVv := Lib.hid h0
  have HFv := Lib.hid f0
  have HL1 := Lib.hid h1
  have HL2 := Lib.hid h2
  have HL3 := Lib.hid h3
  have HXs := Lib.hid hx
  have HSm : Hid (Calls Try.prog 20 #[.slice A vs.length c, .slice A1 l.length c1, .int .i64 40] V fun e w' => e = .returned (.bool (smallT vs l 40)) ∧ Below V.heap.size V w') := Lib.hid (SmallT_any (h0.next hbV) f0 (by
    rcases h1 with h1 | ⟨bb, off, hA, hlt, hc⟩
    · exact .inl h1
    · refine .inr ⟨bb, off, hA, Nat.lt_of_lt_of_le hlt hbV.size, fun i hi => ?_⟩
      obtain ⟨a, c, g1, g2, g3, g4⟩ := hc i hi
      exact ⟨a, c, (hbV.cell (p := ⟨bb, off + i, none⟩) hlt).trans g1, (g2.next hbV), g3, g4⟩) hl 40 (by omega))
  have HR := Lib.hid (fun w => LRight_any b w)
  clear h0 f0 h1 hl h2 h3 hx hV hbV
  unfold Bd.val at HR ⊢
  have b0 := HX.out.c0
  have b1 := HX.out.c1
  have b2 := HX.out.c2
  cases hsm : smallT vs l 40 with
  | false =>
    rw [hsm] at HSm
    clear hsm hsV
    go_enter Try.func6, Try.ntmps6
    go_wp2_with fail
    rw [← HV.out]
    refine HSm.out.mono ?_
    rintro e w1 ⟨rfl, hb1⟩
    have HB1 := Lib.hid (below_next HBV.out hb1)
    clear hb1 b0 b1 b2
    go_wp2_with fail
    refine (stored_any _).mono ?_
    rintro e w9 ⟨rfl, hb9⟩
    have HB9 := Lib.hid (below_next HB1.out hb9)
    clear hb9
    go_wp2_with fail
    go_ret
    exact ⟨rfl, HB9.out⟩
  | true =>
  rw [hsm] at HSm
  have HSt := Lib.hid hsm
  clear hsm
  cases hb : bdOk b with
  | false =>
    have HR1 := Lib.hid (fun w => HR.out w)
    rw [hb] at HR1
    clear hb hsV
    go_enter Try.func6, Try.ntmps6
    go_wp2_with fail
    rw [← HV.out]
    refine HSm.out.mono ?_
    rintro e w1 ⟨rfl, hb1⟩
    have HX1 := Lib.hid (HX.out.kept hb1)
    have HB1 := Lib.hid (below_next HBV.out hb1)
    clear hb1 b0 b1 b2
    have b0 := HX1.out.c0
    have b1 := HX1.out.c1
    have b2 := HX1.out.c2
    go_wp2_with fail
    refine (HR1.out _).mono ?_
    rintro e w2 ⟨rfl, hb2⟩
    have HB2 := Lib.hid (below_next HB1.out hb2)
    clear hb2 b0 b1 b2
    go_wp2_with fail
    refine (stored_any _).mono ?_
    rintro e w9 ⟨rfl, hb9⟩
    have HB9 := Lib.hid (below_next HB2.out hb9)
    clear hb9
    go_wp2_with fail
    go_ret
    exact ⟨rfl, HB9.out⟩
  | true =>
  have HBk := Lib.hid hb
  have HBn := Lib.hid ((bdOk_iff b).1 hb)
  have HLg := Lib.hid (LagSt.start hb 20)
  have HRv : Hid (rightB vs = true) := Lib.hid (by have := HSt.out; unfold smallT at this; rw [Bool.and_eq_true] at this; exact this.1)
  have HSh : Hid (∀ i, (h : i < l.length) → i < 40 → l[i].length ≤ 20) := Lib.hid ((shortL_iff l 40).1 (by have := HSt.out; unfold smallT at this; rw [Bool.and_eq_true] at this; exact this.2))
  have HSe := Lib.hid (SentSt.start HRv.out)
  have HR1 := Lib.hid (fun w => HR.out w)
  rw [hb] at HR1
  clear hb HSt
  go_enter Try.func6, Try.ntmps6
  go_wp2_with fail
  rw [← HV.out]
  refine HSm.out.mono ?_
  rintro e w1 ⟨rfl, hb1⟩
  have HX1 := Lib.hid (HX.out.kept hb1)
  have HB1 := Lib.hid (below_next HBV.out hb1)
  have HS1 : Hid (w.heap.size + 1 ≤ w1.heap.size) := Lib.hid (by have := hb1.size; omega)
  clear hb1 b0 b1 b2 hsV HX HBV HV HSm
  have b0 := HX1.out.c0
  have b1 := HX1.out.c1
  have b2 := HX1.out.c2
  go_wp2_with fail
  refine (HR1.out _).mono ?_
  rintro e w2 ⟨rfl, hb2⟩
  have HX2 := Lib.hid (HX1.out.kept hb2)
  have HB2 := Lib.hid (below_next HB1.out hb2)
  have HS2 : Hid (w.heap.size + 1 ≤ w2.heap.size) := Lib.hid (by have := hb2.size; have := HS1.out; omega)
  clear hb2 b0 b1 b2 HX1 HB1 HS1 HR HR1
  have HN := Lib.hid (QNew_any 0 w2)
  rw [new_zero.1, new_zero.2] at HN
  go_wp2_with fail
  refine HN.out.mono ?_
  rintro e wn ⟨q0, hq0, rfl, hA, hbn⟩
  rw [← hq0] at HLg HSe
  unfold QuV.val
  have HX3 := Lib.hid (HX2.out.kept hbn)
  have HB3 := Lib.hid (below_next HB2.out hbn)
  have HS3 : Hid (w.heap.size + 1 ≤ wn.heap.size) := Lib.hid (by have := hbn.size; have := HS2.out; omega)
  have HQ3 := Lib.hid hA
  clear hbn hq0 hA HN HX2 HB2 HS2
  obtain ⟨wp, hwp⟩ : ∃ V, V = wn.alloc (.cells #[.slice q0.A q0.sets.length q0.c, .slice q0.A2 q0.opn.length q0.c2, .int .i64 q0.frm, .int .i64 q0.to_] 27 (0, 0)) := ⟨_, rfl⟩
  obtain ⟨wl, hwl⟩ : ∃ V, V = wp.alloc (.cells #[.slice A vs.length c] 47 (0, 0)) := ⟨_, rfl⟩
  have hbp : Below wn.heap.size wn wp := by rw [hwp]; exact below_one _ _
  have hbl : Below wp.heap.size wp wl := by rw [hwl]; exact below_one _ _
  have hsp : wp.heap.size = wn.heap.size + 1 := by rw [hwp]; simp
  have HAp : Hid (LbAt w wn.heap.size w.heap.size b wp q0) := Lib.hid ⟨HQ3.out.next hbp, by rw [hwp]; exact Four.new _ _ _ _ _ _, HX3.out.kept hbp, below_next HB3.out hbp⟩
  have HA0 : Hid (SnAt w wn.heap.size w.heap.size b wl q0 (.slice (some ⟨wp.heap.size, 0, none⟩) 1 1) [⟨A, c, vs⟩] [⟨A, c, vs⟩]) := Lib.hid ⟨HAp.out.later hbl, by rw [hwl]; exact SlRow.one A vs.length c HAp.out.bel.size, fun s hs => by rw [List.mem_singleton.1 hs]; exact HVv.out.next (below_next HAp.out.bel hbl), fun s hs => by rw [List.mem_singleton.1 hs]; exact HVv.out.next (below_next HAp.out.bel hbl)⟩
  have HWl : Hid ((wn.alloc (.cells #[.slice q0.A q0.sets.length q0.c, .slice q0.A2 q0.opn.length q0.c2, .int .i64 q0.frm, .int .i64 q0.to_] 27 (0, 0))).alloc (.cells #[.slice A vs.length c] 47 (0, 0)) = wl) := Lib.hid (by rw [hwl, hwp])
  rw [hsp] at HA0
  clear hwp hbp hwl hbl hsp HX3 HQ3 HB3 HAp
  go_wp2_with fail
  rw [HWl.out]
  clear HWl wp
  obtain ⟨P, hP⟩ : ∃ P, wn.heap.size = P := ⟨_, rfl⟩
  obtain ⟨Pb, hPb⟩ : ∃ Pb, w.heap.size = Pb := ⟨_, rfl⟩
  have HNe : Hid (Pb ≠ P) := Lib.hid (by have := HS3.out; omega)
  have HPw : Hid (w.heap.size ≤ P) := Lib.hid (by have := HS3.out; omega)
  rw [hP] at HA0 ⊢
  have HA' : Hid (SnAt w P Pb b wl q0 (.slice (some ⟨P + 1, 0, none⟩) 1 1) [⟨A, c, vs⟩] [⟨A, c, vs⟩]) := Lib.hid (by rw [← hPb]; exact HA0.out)
  clear HA0 HS3 hP
  have hPb2 := hPb
  simp only [hPb]
  clear hPb hPb2
  go_loopg [13, 14, 15, 16] 40 (fun kx s13 s14 s15 s16 wr => ∃ (k a : Nat) (q : QuV) (sv : List StV) (At : Option Addr) (ct : Nat) (th : List Vl), s14 = .slice At th.length ct ∧ s15 = .int .i64 a ∧ s16 = .int .i64 k ∧ k ≤ 40 ∧ 40 - k ≤ kx ∧ Hid (LagSt b q.qu 20 k k) ∧ Hid (SentSt q.qu (stPl sv) th a) ∧ Hid (SnAt w P Pb b wr q s13 sv [⟨At, ct, th⟩]))
  case atStart => exact ⟨0, 0, q0, [⟨A, c, vs⟩], A, c, vs, rfl, rfl, rfl, by omega, by omega, HLg, HSe, HA'⟩
  case round =>
    clear HLg HSe HA'
    obtain ⟨k, a, q, sv, At, ct, th, rfl, rfl, rfl, hk40, hkx, HLg, HSe, HA⟩ := hrel
    have hwk : IntKind.i64.wrap ((k : Int) + 1) = (k : Int) + 1 := by rw [IntKind.wrap_i64]; omega
    by_cases hkn : k < l.length
    · have hknz : (k : Int) < (l.length : Int) := by omega
      by_cases hk4 : k < 40
      · have hk4z : (k : Int) < 40 := by omega
        obtain ⟨bl, off, ax, cx, hA1, hbw, hnx, hfar⟩ := HL1.out.far hkn
        have HXk := Lib.hid hfar
        have HNx := Lib.hid hnx
        have HXb : Hid (∀ u ∈ l[k], u.data.size ≤ 140737488351232) := Lib.hid (HXs.out _ (List.getElem_mem hkn))
        have HX20 := Lib.hid (HSh.out k hkn hk4)
        obtain ⟨x, hx⟩ : ∃ x, l[k] = x := ⟨_, rfl⟩
        rw [hx] at HXk HXb HX20
        clear hfar hx hnx hbw
        subst hA1
        have lc := (HXk.out _ HA.out.lb.bel).1
        obtain ⟨nu1, nu2, nu3, nu4, nu5, nu6, nu7⟩ := HSe.out.nums
        have hlen := HSe.out.len
        have hto := HLg.out.to_
        rw [stPl_length] at hlen nu5 nu7
        obtain ⟨n1, hn1⟩ : ∃ n1, sv.length = n1 + 1 := ⟨sv.length - 1, by omega⟩
        have HN1 := Lib.hid hn1
        have HTo : Hid (q.qu.to_ = (n1 : Int)) := Lib.hid (by rw [hn1] at hlen; omega)
        have hn40 : n1 ≤ 40 := by rw [hn1] at hlen; omega
        obtain ⟨g, cap, hv, hcap, hall, hcs⟩ := HA.out.row.form
        subst hv
        have hsl : (stCells sv).length = n1 + 1 := by rw [stCells_length]; exact hn1
        have hlt : n1 < sv.length := by omega
        obtain ⟨nw, hnw⟩ : ∃ nw, sv[n1] = nw := ⟨_, rfl⟩
        have hcell : ∀ w', Below wr.heap.size wr w' → w'.cell? ⟨g, n1, none⟩ = some (.slice nw.A nw.vs.length nw.c) := fun w' hb => by
          have e := hcs w' hb n1 (by omega)
          rw [e]
          simp only [stCells, List.getElem_map, hnw]
        have HCell := Lib.hid hcell
        have HNw : Hid (stV (stPl sv) q.qu.to_ = nw.vs) := Lib.hid (by rw [HTo.out, stPl_at hlt, hnw])
        have HVn : Hid (VolsAt wr wr.heap.size nw.A nw.vs) := Lib.hid (by rw [← hnw]; exact HA.out.vols _ (List.getElem_mem hlt))
        have HFn : Hid (VolsFit nw.vs) := Lib.hid (by rw [← hnw]; exact HSe.out.fit _ (List.getElem_mem hlt))
        rw [hsl] at HA ⊢
        clear hall hcs hcap hsl hlt hnw hn1 hlen nu1 nu2 nu3 nu4 nu5 nu6 nu7 hto
        have hc0 := hcell wr (Below.refl _ _)
        clear hcell
        have hx20 := HX20.out
        have HAp := Lib.hid (Apply_any (c := nw.c) (c2 := cx) HVn.out HFn.out ((HXk.out _ HA.out.lb.bel).2.more HA.out.lb.bel.size) (Nat.le_trans hx20 (by omega)))
        obtain ⟨E, hE⟩ : ∃ E, checkE nw.vs x = E := ⟨_, rfl⟩
        have HE := Lib.hid hE
        rw [hE] at HAp
        clear hE
        have hn1w : IntKind.i64.wrap ((n1 : Int) + 1 - 1) = (n1 : Int) := by rw [IntKind.wrap_i64]; omega
        go_wp2_with fail
        refine HAp.out.mono ?_
        rintro e w2 ⟨An, cn, rfl, hvn, hb⟩
        have HA2 : Hid (SnAt w P Pb b w2 q (.slice (some ⟨g, 0, none⟩) (n1 + 1) cap) sv [⟨An, cn, applyV nw.vs x⟩, ⟨At, ct, th⟩]) := Lib.hid ((HA.out.later hb).less (fun s hs => by
          rcases List.mem_cons.1 hs with rfl | hs
          · exact hvn
          · exact (HA.out.later hb).ex_ s hs))
        obtain ⟨nx, hnx⟩ : ∃ nx, applyV nw.vs x = nx := ⟨_, rfl⟩
        have HNxe := Lib.hid hnx
        rw [hnx] at HA2 ⊢
        clear hnx hvn hb lc HAp HVn HFn HA hc0 HCell
        go_upto_region 13 with fail
        have HIn := Lib.hid (HLg.out.small HBk.out (by omega) (by omega))
        have HJ : Hid (∀ p : LatW w2, Calls Try.prog 10 #[.agg #[.int .i64 b.txns, .int .i64 b.bytes, .bool b.hold], .agg #[.slice q.A q.sets.length q.c, .slice q.A2 q.opn.length q.c2, .int .i64 q.frm, .int .i64 q.to_], .slice ax x.length cx] p.wd fun e w' => e = .returned (.int .i64 (judgeB b q.qu x)) ∧ Below p.wd.heap.size p.wd w') := Lib.hid (fun p => Judge_any (c3 := cx) b (HA2.out.later p.bel).lb.qu HIn.out.fine HIn.out.joined ((HXk.out _ (HA2.out.later p.bel).lb.bel).2.more (HA2.out.later p.bel).lb.bel.size) (Nat.le_trans hx20 (by omega)) (by have := HIn.out.bytes; have := bytes_lot (Nat.le_trans hx20 (by omega)) HXb.out; omega))
        obtain ⟨J, hJ⟩ : ∃ J, judgeB b q.qu x = J := ⟨_, rfl⟩
        have HJe := Lib.hid hJ
        rw [hJ] at HJ
        clear hJ
        go_cut [80] from 69 to 80 (fun v wx => ∃ bb : Bool, v = .bool bb ∧ (bb = true → E = 0 ∧ J = 1) ∧ Hid (SnAt w P Pb b wx q (.slice (some ⟨g, 0, none⟩) (n1 + 1) cap) sv [⟨An, cn, nx⟩, ⟨At, ct, th⟩]))
        case first =>
          have d0 := fun p : LatW w2 => (HA2.out.later p.bel).lb.bd.c0
          have d1 := fun p : LatW w2 => (HA2.out.later p.bel).lb.bd.c1
          have d2 := fun p : LatW w2 => (HA2.out.later p.bel).lb.bd.c2
          have f0 := fun p : LatW w2 => (HA2.out.later p.bel).lb.box.c0
          have f1 := fun p : LatW w2 => (HA2.out.later p.bel).lb.box.c1
          have f2 := fun p : LatW w2 => (HA2.out.later p.bel).lb.box.c2
          have f3 := fun p : LatW w2 => (HA2.out.later p.bel).lb.box.c3
          have fl := fun p : LatW w2 => (HXk.out _ (HA2.out.later p.bel).lb.bel).1
          by_cases hE0 : E = 0
          · have HE0 := Lib.hid hE0
            have hE1 : (E == 0) = true := by rw [beq_iff_eq]; exact hE0
            clear hE0
            refine wp_region_later (by kernel_rfl) (by kernel_rfl) ?_
            repeat (first | go_big_quiet_skip | quiet_step (first | (go_at_call 10; exact Calls.later_of (HJ.out _))) | (go_big_quiet_want; go_big_quiet_op; go_big_quiet_on))
            refine wpQuiet_nil ?_
            intro w9 hw9
            obtain ⟨p9, hw9'⟩ := hw9
            subst hw9'
            go_wp2_with fail
            go_meet
            case rel => exact ⟨J == 1, rfl, fun e => ⟨HE0.out, by simpa using e⟩, Lib.hid (HA2.out.later p9.bel)⟩
          · have hE1 : (E == 0) = false := by rw [beq_eq_false_iff_ne]; exact hE0
            clear hE0
            refine wp_region_later (by kernel_rfl) (by kernel_rfl) ?_
            repeat (first | go_big_quiet_skip | quiet_step (first | (go_at_call 10; exact Calls.later_of (HJ.out _))) | (go_big_quiet_want; go_big_quiet_op; go_big_quiet_on))
            refine wpQuiet_nil ?_
            intro w9 hw9
            obtain ⟨p9, hw9'⟩ := hw9
            subst hw9'
            go_wp2_with fail
            go_meet
            case rel => exact ⟨false, rfl, fun e => (by cases e), Lib.hid (HA2.out.later p9.bel)⟩
        case rest =>
          clear HA2 HJ HIn
          obtain ⟨bb, rfl, hbb, HA2⟩ := hcut
          obtain ⟨w2', hw2'⟩ : ∃ w2', w2' = wc := ⟨_, rfl⟩
          subst hw2'
          go_upto_if 80 with fail
          go_cut [12, 13] from 81 to 95 (fun v12 v13 wx => ∃ (q3 : QuV) (sv3 : List StV), Hid (LagSt b q3.qu 20 k (k + 1)) ∧ Hid (SentSt q3.qu (stPl sv3) th a) ∧ Hid (SnAt w P Pb b wx q3 v13 sv3 [⟨At, ct, th⟩]))
          case first =>
            cases bb with
            | false =>
              go_wp2_with fail
              go_meet
              case rel => exact ⟨q, sv, Lib.hid (HLg.out.more (Nat.le_refl _) (Nat.le_succ _)), HSe, Lib.hid (HA2.out.less (fun s hs => HA2.out.ex_ s (List.mem_cons_of_mem _ hs)))⟩
            | true =>
              obtain ⟨rfl, rfl⟩ := hbb rfl
              have HS3 := Lib.hid (HLg.out.add HJe.out hx20 (by omega))
              have HT3 := Lib.hid (HSe.out.add (ws := x) (by rw [HNw.out]; exact HE.out) (by rw [HTo.out]; omega))
              rw [HNw.out, HNxe.out] at HT3
              have HAd : Hid (Calls Try.prog 15 #[.agg #[.slice q.A q.sets.length q.c, .slice q.A2 q.opn.length q.c2, .int .i64 q.frm, .int .i64 q.to_], .slice ax x.length cx] w2'.drew (QuErr (quAdd q.qu x) 0 w2'.drew)) := Lib.hid (by
                have hA3 := HA2.out.later (w' := w2'.drew) (Below.refl _ _).drew
                have t := QAdd_any (c3 := cx) hA3.lb.qu (HLg.out.sm.fine rfl (by omega) (by omega)) ((HXk.out _ hA3.lb.bel).2.more hA3.lb.bel.size) (Nat.le_trans HSe.out.few (by omega)) ⟨Nat.le_trans hx20 (by omega), HNx.out⟩
                rw [(qadd_yes ((quRight_iff _).2 HLg.out.ok) (by have := HTo.out; have e : q.qu.to_ = q.to_ := rfl; omega) x).1, (qadd_yes ((quRight_iff _).2 HLg.out.ok) (by have := HTo.out; have e : q.qu.to_ = q.to_ := rfl; omega) x).2] at t
                exact t)
              unfold QuErr QuV.val at HAd
              have f0 := HA2.out.lb.box.c0
              have f1 := HA2.out.lb.box.c1
              have f2 := HA2.out.lb.box.c2
              have f3 := HA2.out.lb.box.c3
              have ff := HA2.out.lb.box.fr
              have lc := (HXk.out _ HA2.out.lb.bel).1
              have hbd : Hid (Below w2'.heap.size w2' w2'.drew) := Lib.hid (Below.refl _ _).drew
              go_upto_region 14 with fail
              go_cut [12] from 81 to 89 (fun v12 wx => v12 = .int .i64 0 ∧ Hid (∃ q3 : QuV, q3.qu = quAdd q.qu x ∧ SnAt w P Pb b wx q3 (.slice (some ⟨g, 0, none⟩) (n1 + 1) cap) sv [⟨An, cn, nx⟩, ⟨At, ct, th⟩]))
              case first =>
                go_region_law (first | (go_simp; go_at_call 15; refine HAd.out.mono ?_; rintro e w3 ⟨q3, hq3, rfl, hA3, hb3⟩; have HL3 := Lib.hid (HA2.out.later (hbd.out.trans (hb3.mono hbd.out.size))); have HA3 := Lib.hid (HL3.out.store hA3 HNe.out HPw.out); have HF3 := Lib.hid HL3.out.lb.box; have u0 := HF3.out.c0; have u1 := HF3.out.c1; have u2 := HF3.out.c2; have u3 := HF3.out.c3; have uf := HF3.out.fr; clear hA3 hb3; dsimp only))
                all_goals
                  go_wp2_with fail
                  go_meet
                  case rel => exact ⟨rfl, Lib.hid ⟨q3, hq3, HA3.out⟩⟩
              case rest =>
                obtain ⟨rfl, HC⟩ := hcut
                obtain ⟨q3, hq3, hA3⟩ := HC.out
                rw [← hq3] at HS3 HT3
                have HA3 := Lib.hid hA3
                clear HC hq3 hA3 HAd f0 f1 f2 f3 ff lc hbd HA2
                obtain ⟨w4, hw4⟩ : ∃ w4, w4 = wc.alloc (.cells #[.slice An nx.length cn] 47 (0, 0)) := ⟨_, rfl⟩
                have hb4 : Below wc.heap.size wc w4 := by rw [hw4]; exact below_one _ _
                have HA4 := Lib.hid (HA3.out.later hb4)
                have hc4 : w4.cell? ⟨wc.heap.size, 0, none⟩ = some (.slice An nx.length cn) := by rw [hw4, Lib.cell_of_heap (heap_new _ _)]; rfl
                have HC4 := Lib.hid hc4
                have HW4 := Lib.hid hw4
                have HSl : Hid (SlRow w4 w.heap.size (.slice (some ⟨g, 0, none⟩) (n1 + 1) cap) (stCells sv)) := Lib.hid HA4.out.row
                have hz4 : w.heap.size ≤ w4.heap.size := HA4.out.lb.bel.size
                have HHz := Lib.hid hz4
                clear hb4 hc4 hw4 hz4 HA3
                go_wp2_with (at_builtin; rw [← HW4.out]; refine wpList_append_sl rfl (.tmp 92) (.tmp 94) 49 rfl Try.underlying49 w.heap.size (.slice (some ⟨g, 0, none⟩) (n1 + 1) cap) (stCells sv) rfl HSl.out HHz.out ⟨wc.heap.size, 0, none⟩ 1 rfl (.slice An nx.length cn) HC4.out ⟨An, nx.length, cn, rfl⟩ ?c1 ?_)
                case c1 => rw [stCells_length, HN1.out]; omega
                intro v5 w5 hr5 F hm5 hS5 hF5
                have HA5 := Lib.hid (HA4.out.grown (s := ⟨An, cn, nx⟩) hm5 hS5 hF5 hr5 (by simp))
                clear hr5 hm5 hS5 hF5 HSl HC4 HW4 HA4 HHz
                go_wp2_with fail
                go_meet
                case rel => exact ⟨q3, sv ++ [⟨An, cn, nx⟩], HS3, Lib.hid (by rw [stPl_snoc]; exact HT3.out), Lib.hid (HA5.out.less (fun s hs => HA5.out.ex_ s (List.mem_cons_of_mem _ hs)))⟩
          case rest =>
            clear HA2 HLg HSe HNw HNxe HTo HN1 HE HJe hn1w hbb HXk HNx HXb HX20 hx20
            obtain ⟨q3, sv3, HG3, HT3, HA3⟩ := hcut
            obtain ⟨wA, hwA⟩ : ∃ wA, wA = wc := ⟨_, rfl⟩
            subst hwA
            go_upto_region 18 with fail
            go_cut [112] from 96 to 112 (fun v wx => (∃ bb : Bool, v = .bool bb ∧ (bb = true → q3.frm < q3.to_)) ∧ wx = wA)
            case first =>
              have f2 := HA3.out.lb.box.c2
              have f3 := HA3.out.lb.box.c3
              by_cases hkc : k < cs.length
              · have hkcz : (k : Int) < (cs.length : Int) := by omega
                obtain ⟨b2, oo, hA2, hcf⟩ := HL2.out.far hkc
                have lb := hcf _ HA3.out.lb.bel
                subst hA2
                clear hcf
                cases hcb : cs[k] with
                | false =>
                  rw [hcb] at lb
                  clear hcb
                  go_wp2_with fail
                  go_meet
                  case rel => exact ⟨⟨_, rfl, fun e => (by cases e)⟩, rfl⟩
                | true =>
                  rw [hcb] at lb
                  clear hcb
                  go_wp2_with fail
                  go_meet
                  case rel => exact ⟨⟨_, rfl, fun e => (by have := of_decide_eq_true e; omega)⟩, rfl⟩
              · have hkcz : ¬ (k : Int) < (cs.length : Int) := by omega
                go_wp2_with fail
                go_meet
                case rel => exact ⟨⟨_, rfl, fun e => (by cases e)⟩, rfl⟩
            case rest =>
              obtain ⟨⟨bb, rfl, hbb⟩, rfl⟩ := hcut
              go_upto_if 112 with fail
              go_cut [113] from 113 to 117 (fun v wx => Hid (∃ q4 : QuV, LagSt b q4.qu 20 (k + 1) (k + 1) ∧ SentSt q4.qu (stPl sv3) th a ∧ SnAt w P Pb b wx q4 _ sv3 [⟨At, ct, th⟩]))
              case first =>
                cases bb with
                | false =>
                  go_wp2_with fail
                  go_meet
                  case rel => exact Lib.hid ⟨q3, HG3.out.more (Nat.le_succ _) (Nat.le_refl _), HT3.out, HA3.out⟩
                | true =>
                  have hlt := hbb rfl
                  have HCq : Hid (Calls Try.prog 16 #[.agg #[.slice q3.A q3.sets.length q3.c, .slice q3.A2 q3.opn.length q3.c2, .int .i64 q3.frm, .int .i64 q3.to_]] wc (QuErr (quCut q3.qu) 0 wc)) := Lib.hid (by
                    have t := QCut_any HA3.out.lb.qu (HG3.out.sm.fine rfl (by omega) (by omega)) (Nat.le_trans (HG3.out.sm.sets rfl) (by omega))
                    rw [(qcut_yes ((quRight_iff _).2 HG3.out.ok) (by have e1 : q3.qu.to_ = q3.to_ := rfl; have e2 : q3.qu.frm = q3.frm := rfl; omega)).1, (qcut_yes ((quRight_iff _).2 HG3.out.ok) (by have e1 : q3.qu.to_ = q3.to_ := rfl; have e2 : q3.qu.frm = q3.frm := rfl; omega)).2] at t
                    exact t)
                  have HS4 := Lib.hid (HG3.out.cut (by have e1 : q3.qu.to_ = q3.to_ := rfl; have e2 : q3.qu.frm = q3.frm := rfl; omega))
                  have HT4 := Lib.hid (HT3.out.cut (by have e1 : q3.qu.to_ = q3.to_ := rfl; have e2 : q3.qu.frm = q3.frm := rfl; omega))
                  unfold QuErr QuV.val at HCq
                  have f0 := HA3.out.lb.box.c0
                  have f1 := HA3.out.lb.box.c1
                  have f2 := HA3.out.lb.box.c2
                  have f3 := HA3.out.lb.box.c3
                  go_wp2_with fail
                  refine HCq.out.mono ?_
                  rintro e w4 ⟨q4, hq4, rfl, hA4, hb4⟩
                  have HF4 := Lib.hid (HA3.out.later hb4).lb.box
                  have HA4 := Lib.hid ((HA3.out.later hb4).store hA4 HNe.out HPw.out)
                  clear f0 f1 f2 f3 hA4 hb4
                  have u0 := HF4.out.c0
                  have u1 := HF4.out.c1
                  have u2 := HF4.out.c2
                  have u3 := HF4.out.c3
                  have uf := HF4.out.fr
                  go_wp2_with fail
                  go_meet
                  case rel => exact Lib.hid ⟨q4, by rw [hq4]; exact HS4.out, by rw [hq4]; exact HT4.out, HA4.out⟩
              case rest =>
                clear HA3 HG3 HT3 hbb
                obtain ⟨q4, hS4, hT4, hA4⟩ := hcut.out
                have HS4 := Lib.hid hS4
                have HT4 := Lib.hid hT4
                have HA4 := Lib.hid hA4
                clear hcut hS4 hT4 hA4
                obtain ⟨wB, hwB⟩ : ∃ wB, wB = wc := ⟨_, rfl⟩
                subst hwB
                go_upto_region 20 with fail
                go_cut [133] from 118 to 133 (fun v wx => (∃ bb : Bool, v = .bool bb ∧ (bb = true → q4.sets ≠ [])) ∧ wx = wB)
                case first =>
                  by_cases hkc : k < ts.length
                  · have hkcz : (k : Int) < (ts.length : Int) := by omega
                    obtain ⟨b3, oo, hA3, hcf⟩ := HL3.out.far hkc
                    have lb := hcf _ HA4.out.lb.bel
                    subst hA3
                    clear hcf
                    cases hcb : ts[k] with
                    | false =>
                      rw [hcb] at lb
                      clear hcb
                      go_wp2_with fail
                      go_meet
                      case rel => exact ⟨⟨_, rfl, fun e => (by cases e)⟩, rfl⟩
                    | true =>
                      rw [hcb] at lb
                      clear hcb
                      by_cases hnl : q4.sets = []
                      · have hn0 : q4.sets.length = 0 := by rw [hnl]; rfl
                        have hF := HA4.out.lb.box
                        rw [hn0] at hF
                        have pc0 := hF.c0
                        clear hF
                        go_wp2_with fail
                        go_meet
                        case rel => exact ⟨⟨_, rfl, fun e => (by cases e)⟩, rfl⟩
                      · obtain ⟨nq, hnq⟩ : ∃ nq, q4.sets.length = nq + 1 := ⟨q4.sets.length - 1, by have := List.length_pos_iff.2 hnl; omega⟩
                        have hF := HA4.out.lb.box
                        rw [hnq] at hF
                        have pc0 := hF.c0
                        clear hF
                        have hnp : (0 : Int) < (nq : Int) + 1 := by omega
                        go_wp2_with fail
                        go_meet
                        case rel => exact ⟨⟨_, rfl, fun _ => hnl⟩, rfl⟩
                  · have hkcz : ¬ (k : Int) < (ts.length : Int) := by omega
                    go_wp2_with fail
                    go_meet
                    case rel => exact ⟨⟨_, rfl, fun e => (by cases e)⟩, rfl⟩
                case rest =>
                  obtain ⟨⟨bb, rfl, hne⟩, rfl⟩ := hcut
                  go_upto_if 133 with fail
                  go_cut [14, 15, 19, 20] from 134 to 154 (fun v14 v15 v19 v20 wx => ∃ (q5 : QuV) (a5 : Nat) (At5 : Option Addr) (ct5 : Nat) (th5 : List Vl), v14 = .slice At5 th5.length ct5 ∧ v15 = .int .i64 a5 ∧ Hid (LagSt b q5.qu 20 (k + 1) (k + 1)) ∧ Hid (SentSt q5.qu (stPl sv3) th5 a5) ∧ Hid (SnAt w P Pb b wx q5 _ sv3 [⟨At5, ct5, th5⟩]))
                  case first =>
                    cases bb with
                    | false =>
                      go_wp2_with fail
                      go_meet
                      case rel => exact ⟨q4, a, At, ct, th, rfl, rfl, HS4, HT4, HA4⟩
                    | true =>
                      replace hne := hne rfl
                      obtain ⟨A9, c9, ls, B2, d2, op, fr, tq⟩ := q4
                      cases ls with
                      | nil => exact absurd rfl hne
                      | cons s r =>
                        clear hne
                        obtain ⟨t1, HT5⟩ := HT4.out.take (s := s.set) (r := plainS r) rfl
                        have HT5h := Lib.hid HT5
                        have HC1 := Lib.hid t1
                        obtain ⟨sb, so, hsA, hsl, y1, y2, y3, y4, y5⟩ := HA4.out.lb.qu.sets.at_ (Below.refl _ _) (i := 0) (by simp)
                        simp only [Nat.zero_mul, Nat.add_zero, List.getElem_cons_zero] at y1 y2 y3 y4 y5 hsA
                        subst hsA
                        have HY4 := Lib.hid y4
                        have hsw : s.ws.length ≤ 4000 := Nat.le_trans (HS4.out.sm.each rfl s (by simp)) (by omega)
                        have HSw := Lib.hid hsw
                        have HFt : Hid (VolsFit th) := Lib.hid (by rw [HT4.out.th]; exact right_fit (HT4.out.right _ (stV_mem HT4.out.nums.2.2.2.2.2.1 HT4.out.nums.2.2.2.2.2.2)))
                        have HRt := Lib.hid ((quRight_iff _).2 HS4.out.ok)
                        have HFine := Lib.hid (HS4.out.sm.fine (q := ⟨some ⟨sb, so, none⟩, c9, s :: r, B2, d2, op, fr, tq⟩) rfl (by omega) (by omega))
                        have HSets := Lib.hid (Nat.le_trans (HS4.out.sm.sets (q := ⟨some ⟨sb, so, none⟩, c9, s :: r, B2, d2, op, fr, tq⟩) rfl) (show k + 1 ≤ 500 by omega))
                        have HD5 : Hid (∀ m, LagSt b (quDone (QuV.qu ⟨some ⟨sb, so, none⟩, c9, s :: r, B2, d2, op, fr, tq⟩) m) 20 (k + 1) (k + 1)) := Lib.hid (fun m => HS4.out.done m)
                        have hto5 : 0 ≤ s.set.to_ := HT5.nums.2.2.2.2.2.1
                        obtain ⟨a5, ha5⟩ : ∃ a5 : Nat, s.to_ = (a5 : Int) := ⟨s.to_.toNat, by have : s.set.to_ = s.to_ := rfl; omega⟩
                        have HTo5 : Hid (SentSt (quDone (QuV.qu ⟨some ⟨sb, so, none⟩, c9, s :: r, B2, d2, op, fr, tq⟩) a5) (stPl sv3) (applyV th s.ws) a5) := Lib.hid (by
                          have := HT5h.out
                          have e1 : s.set.to_ = (a5 : Int) := ha5
                          rw [e1] at this
                          exact this)
                        have HCk : Hid (checkE th s.ws = 0) := Lib.hid HC1.out
                        rw [ha5] at y2
                        clear t1 HT5 HT5h HC1 hto5 y4 y5 hsl hsw ha5
                        obtain ⟨nn, hnn⟩ : ∃ nn, (s :: r).length = nn + 1 := ⟨r.length, rfl⟩
                        have hnz : (0 : Int) < (nn : Int) + 1 := by omega
                        have hnp : decide (0 < nn + 1) = true := by simp
                        have HNN := Lib.hid hnn
                        clear hnn
                        obtain ⟨w6, hw6⟩ : ∃ w6, w6 = wc.alloc (.cells #[.int .i64 s.frm, .int .i64 a5, .slice s.a s.ws.length s.c] 42 (0, 0)) := ⟨_, rfl⟩
                        have hb6 : Below wc.heap.size wc w6 := by rw [hw6]; exact below_one _ _
                        have HT6 : Hid (Thr w6 wc.heap.size (.int .i64 s.frm) (.int .i64 a5) (.slice s.a s.ws.length s.c) 42) := Lib.hid (by rw [hw6]; exact Thr.new _ _ _ _ _)
                        have HA6 := Lib.hid (HA4.out.later hb6)
                        have HY6 := Lib.hid (HY4.out.next hb6)
                        have HW6 := Lib.hid hw6
                        have HAp := Lib.hid (Apply_any (c := ct) (c2 := s.c) (HA6.out.ex_ ⟨At, ct, th⟩ (by simp)) HFt.out HY6.out (Nat.le_trans HSw.out (by omega)))
                        rw [HCk.out] at HAp
                        have HF := Lib.hid HA4.out.lb.box
                        simp only at HF
                        rw [HNN.out] at HF
                        have f0 := HF.out.c0
                        have z1 := (HF.out.kept hb6).c0
                        rw [hw6] at z1
                        have z2 := HT6.out.c2
                        rw [hw6] at z2
                        clear hb6 hw6
                        go_upto_region 22 with fail
                        rw [← HW6.out]
                        clear z1 z2 f0 y1 y2 y3
                        have z2 := HT6.out.c2
                        go_wp2_with fail
                        refine HAp.out.mono ?_
                        rintro e w7 ⟨A7, c7, rfl, h7, hb7⟩
                        have HA7 : Hid (SnAt w P Pb b w7 _ _ sv3 [⟨A7, c7, applyV th s.ws⟩]) := Lib.hid ((HA6.out.later hb7).less (fun x hx => by rw [List.mem_singleton.1 hx]; exact h7))
                        have HT7 := Lib.hid (HT6.out.kept hb7)
                        clear h7 hb7 HA6 HT6 HY6 HAp z2 HF HA4 HW6
                        have HDo : Hid (Calls Try.prog 17 #[.agg #[.slice (some ⟨sb, so, none⟩) (nn + 1) c9, .slice B2 op.length d2, .int .i64 fr, .int .i64 tq], .int .i64 a5] w7 (QuErr (quDone (QuV.qu ⟨some ⟨sb, so, none⟩, c9, s :: r, B2, d2, op, fr, tq⟩) a5) 0 w7)) := Lib.hid (by
                          have t := QDone_any (a5 : Int) HA7.out.lb.qu HFine.out HSets.out
                          rw [(qdone_yes HRt.out (a5 : Int)).1, (qdone_yes HRt.out (a5 : Int)).2] at t
                          unfold QuV.val at t
                          simp only [HNN.out] at t
                          exact t)
                        unfold QuErr QuV.val at HDo
                        have HF := Lib.hid HA7.out.lb.box
                        simp only at HF
                        rw [HNN.out] at HF
                        have f0 := HF.out.c0
                        have f1 := HF.out.c1
                        have f2 := HF.out.c2
                        have f3 := HF.out.c3
                        have t1 := HT7.out.c1
                        go_wp2_with fail
                        refine HDo.out.mono ?_
                        rintro e w8 ⟨q5, hq5, rfl, hA8, hb8⟩
                        have HL8 := Lib.hid (HA7.out.later hb8)
                        have HA8 := Lib.hid (HL8.out.store hA8 HNe.out HPw.out)
                        have HF8 := Lib.hid (HF.out.kept hb8)
                        clear f0 f1 f2 f3 t1 hA8 hb8
                        have u0 := HF8.out.c0
                        have u1 := HF8.out.c1
                        have u2 := HF8.out.c2
                        have u3 := HF8.out.c3
                        have uf := HF8.out.fr
                        go_wp2_with fail
                        go_meet
                        case rel => exact ⟨q5, a5, A7, c7, applyV th s.ws, rfl, rfl, Lib.hid (by rw [hq5]; exact HD5.out _), Lib.hid (by rw [hq5]; exact HTo5.out), HA8⟩
                  case rest =>
                    clear HA4 HS4 HT4 hne
                    obtain ⟨q5, a5, At5, ct5, th5, rfl, rfl, HG5, HT5, HA5⟩ := hcut
                    have HIn := Lib.hid (HG5.out.small HBk.out (by omega) (by omega))
                    have HLo := Lib.hid HG5.out.load
                    obtain ⟨l1, l2, l3, l4, l5, l6, l7, l8⟩ := HT5.out.tells
                    rw [stPl_length] at l2 l5 l7 l8
                    obtain ⟨n3, hn3⟩ : ∃ n3, sv3.length = n3 + 1 := ⟨sv3.length - 1, by omega⟩
                    have hto := HG5.out.to_
                    have hlen := HT5.out.len
                    rw [stPl_length] at hlen
                    have hn340 : n3 ≤ 41 := by omega
                    have e3 : ((sv3.length : Nat) : Int) - 1 = (n3 : Int) := by omega
                    rw [e3] at l5 l7 l8
                    have hlt : a5 < sv3.length := by omega
                    have hlt3 : n3 < sv3.length := by omega
                    obtain ⟨g3, cap3, hv3, hcap3, hall3, hcs3⟩ := HA5.out.row.form
                    subst hv3
                    have hsl : (stCells sv3).length = n3 + 1 := by rw [stCells_length]; exact hn3
                    obtain ⟨sA, hsA⟩ : ∃ sA, sv3[a5] = sA := ⟨_, rfl⟩
                    obtain ⟨sL, hsL⟩ : ∃ sL, sv3[n3] = sL := ⟨_, rfl⟩
                    have hcA : ∀ w', Below wc.heap.size wc w' → w'.cell? ⟨g3, a5, none⟩ = some (.slice sA.A sA.vs.length sA.c) := fun w' hb => by
                      have e := hcs3 w' hb a5 (by omega)
                      rw [e]
                      simp only [stCells, List.getElem_map, hsA]
                    have hcL : ∀ w', Below wc.heap.size wc w' → w'.cell? ⟨g3, n3, none⟩ = some (.slice sL.A sL.vs.length sL.c) := fun w' hb => by
                      have e := hcs3 w' hb n3 (by omega)
                      rw [e]
                      simp only [stCells, List.getElem_map, hsL]
                    have HCA := Lib.hid hcA
                    have HCL := Lib.hid hcL
                    have HTA : Hid (th5 = sA.vs) := Lib.hid (by rw [l3, stPl_at hlt, hsA])
                    have HFA : Hid (VolsFit sA.vs) := Lib.hid (by rw [← hsA]; exact HT5.out.fit _ (List.getElem_mem hlt))
                    have HFL : Hid (VolsFit sL.vs) := Lib.hid (by rw [← hsL]; exact HT5.out.fit _ (List.getElem_mem hlt3))
                    have HVA : Hid (∀ w', Below wc.heap.size wc w' → VolsAt w' w'.heap.size sA.A sA.vs) := Lib.hid (fun w' hb => by rw [← hsA]; exact (HA5.out.vols _ (List.getElem_mem hlt)).next hb)
                    have HVL : Hid (∀ w', Below wc.heap.size wc w' → VolsAt w' w'.heap.size sL.A sL.vs) := Lib.hid (fun w' hb => by rw [← hsL]; exact (HA5.out.vols _ (List.getElem_mem hlt3)).next hb)
                    have HVT : Hid (∀ w', Below wc.heap.size wc w' → VolsAt w' w'.heap.size At5 th5) := Lib.hid (fun w' hb => (HA5.out.ex_ ⟨At5, ct5, th5⟩ (by simp)).next hb)
                    rw [stPl_at hlt3, hsL] at l7 l8
                    have HRA : Hid (sameB th5 sA.vs = true) := Lib.hid (by rw [HTA.out] at l4 ⊢; exact same_one l4)
                    have HRL : Hid (sameB sL.vs sL.vs = true) := Lib.hid (same_one l8)
                    have HFT : Hid (VolsFit th5) := Lib.hid (right_fit l4)
                    have HC6 := Lib.hid l6
                    have HC7 := Lib.hid l7
                    have HN5 := Lib.hid l5
                    rw [hsl] at HA5 ⊢
                    have ha5 : (a5 : Int) < (n3 : Int) + 1 := by omega
                    have ha5n : a5 < n3 + 1 := by omega
                    have HRq0 : Hid (quRight q5.qu = true) := Lib.hid HLo.out.2.2
                    obtain ⟨M5, hM5⟩ : ∃ M, qLoadB q5.qu = M := ⟨_, rfl⟩
                    have HLd : Hid (Calls Try.prog 18 #[.agg #[.slice q5.A q5.sets.length q5.c, .slice q5.A2 q5.opn.length q5.c2, .int .i64 q5.frm, .int .i64 q5.to_]] wc fun e w' => e = .returned (.tuple #[.int .i64 ((n3 : Int) - (a5 : Int)), .int .i64 M5]) ∧ Below wc.heap.size wc w') := Lib.hid (by
                      have t := QLoad_any HA5.out.lb.qu HIn.out.fine HIn.out.joined (by have := HIn.out.bytes; omega)
                      rw [HN5.out, hM5] at t
                      exact t)
                    have hn5 : ¬ b.txns < (n3 : Int) - (a5 : Int) := by have := HLo.out.1; rw [HN5.out] at this; omega
                    have hm5 : ¬ b.bytes < M5 := by have := HLo.out.2.1; omega
                    have hw3 : IntKind.i64.wrap ((n3 : Int) + 1 - 1) = (n3 : Int) := by rw [IntKind.wrap_i64]; omega
                    have hw4 : IntKind.i64.wrap ((n3 : Int) - (a5 : Int)) = (n3 : Int) - (a5 : Int) := by rw [IntKind.wrap_i64]; omega
                    clear hM5 l1 l2 l3 l4 l5 l6 l7 l8 hn3 hto hlen e3 hlt hlt3 hcap3 hall3 hcs3 hsl hsA hsL hcA hcL HTA HLo HN5
                    have f0 := HA5.out.lb.box.c0
                    have f1 := HA5.out.lb.box.c1
                    have f2 := HA5.out.lb.box.c2
                    have f3 := HA5.out.lb.box.c3
                    go_wp2_with fail
                    refine HLd.out.mono ?_
                    rintro e w6 ⟨rfl, hb6⟩
                    have HA6 := Lib.hid (HA5.out.later hb6)
                    have HB6 : Hid (Below wc.heap.size wc w6) := Lib.hid hb6
                    clear f0 f1 f2 f3 hb6 HLd
                    have ca := HCA.out _ HB6.out
                    have HSa := Lib.hid (Same_any (c1 := ct5) (c2 := sA.c) (HVT.out _ HB6.out) (HVA.out _ HB6.out) HFT.out HFA.out)
                    rw [HRA.out] at HSa
                    have d0 := HA6.out.lb.bd.c0
                    have d1 := HA6.out.lb.bd.c1
                    go_wp2_with fail
                    refine HSa.out.mono ?_
                    rintro e w7 ⟨rfl, hb7⟩
                    have HA7 := Lib.hid (HA6.out.later hb7)
                    have HB7 : Hid (Below wc.heap.size wc w7) := Lib.hid (HB6.out.trans (hb7.mono HB6.out.size))
                    clear ca d0 d1 hb7 HSa HA6 HB6 HCA HVA HRA HFA
                    have HAl := Lib.hid (QAll_any HA7.out.lb.qu HIn.out.fine HIn.out.joined)
                    have HQA : Hid (qAll q5.qu = quAll q5.qu) := Lib.hid (by unfold qAll; rw [if_pos HRq0.out])
                    have HQl : Hid ((quAll q5.qu).length ≤ 9223372036854775807) := Lib.hid (Nat.le_trans (foldW_len (quJoined q5.qu)) (by have := HIn.out.joined; rw [quJoined_is, List.length_append]; omega))
                    rw [HQA.out] at HAl
                    obtain ⟨AL, hAL⟩ : ∃ AL, quAll q5.qu = AL := ⟨_, rfl⟩
                    rw [hAL] at HAl HQl HC6 HC7
                    clear hAL HQA
                    unfold QuV.val at HAl
                    have f0 := HA7.out.lb.box.c0
                    have f1 := HA7.out.lb.box.c1
                    have f2 := HA7.out.lb.box.c2
                    have f3 := HA7.out.lb.box.c3
                    have d0 := HA7.out.lb.bd.c0
                    have d1 := HA7.out.lb.bd.c1
                    go_wp2_with fail
                    refine HAl.out.mono ?_
                    rintro e w8 ⟨Al, cl, rfl, hal, _, hb8⟩
                    have HA8 := Lib.hid (HA7.out.later hb8)
                    have HB8 : Hid (Below wc.heap.size wc w8) := Lib.hid (HB7.out.trans (hb8.mono HB7.out.size))
                    have HAp := Lib.hid (Apply_any (c := ct5) (c2 := cl) (HVT.out _ HB8.out) HFT.out hal HQl.out)
                    rw [HC6.out, HC7.out] at HAp
                    clear f0 f1 f2 f3 d0 d1 hb8 hal HAl HA7 HB7
                    go_wp2_with fail
                    refine HAp.out.mono ?_
                    rintro e w9 ⟨Az, cz, rfl, haz, hb9⟩
                    have HA9 := Lib.hid (HA8.out.later hb9)
                    have HB9 : Hid (Below wc.heap.size wc w9) := Lib.hid (HB8.out.trans (hb9.mono HB8.out.size))
                    have HSb := Lib.hid (Same_any (c1 := cz) (c2 := sL.c) haz (HVL.out _ HB9.out) HFL.out HFL.out)
                    rw [HRL.out] at HSb
                    have cl9 := HCL.out _ HB9.out
                    clear hb9 haz HAp HA8 HB8
                    go_wp2_with fail
                    refine HSb.out.mono ?_
                    rintro e w10 ⟨rfl, hb10⟩
                    have HA10 := Lib.hid (HA9.out.later hb10)
                    clear cl9 hb10 HSb HA9 HB9
                    go_wp2_with fail
                    go_roundg (40 - (k + 1))
                    case measure => omega
                    case rel => exact ⟨k + 1, a5, q5, sv3, At5, ct5, th5, rfl, rfl, by go_num, by omega, Nat.le_refl _, HG5, HT5, HA10⟩
      · have hk4z : ¬ (k : Int) < 40 := by omega
        have HBa := Lib.hid HA.out.lb.bel
        go_wp2_with fail
        refine (stored_any _).mono ?_
        rintro e w9 ⟨rfl, hb9⟩
        have HB9 := Lib.hid (below_next HBa.out hb9)
        clear hb9
        go_wp2_with fail
        go_ret
        exact ⟨rfl, HB9.out⟩
    · have hknz : ¬ (k : Int) < (l.length : Int) := by omega
      have HBa := Lib.hid HA.out.lb.bel
      go_wp2_with fail
      refine (stored_any _).mono ?_
      rintro e w9 ⟨rfl, hb9⟩
      have HB9 := Lib.hid (below_next HBa.out hb9)
      clear hb9
      go_wp2_with fail
      go_ret
      exact ⟨rfl, HB9.out⟩
end Go.Proofs.Ythajgoigmkkbgaa
