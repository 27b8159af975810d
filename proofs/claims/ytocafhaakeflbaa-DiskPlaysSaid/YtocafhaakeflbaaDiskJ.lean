/- act over a disk and the document's disk: Crash, Flush, Write; all together. -/
import Derived.Test.YtocafhaakeflbaaDiskI
namespace Go.Proofs.Ytocafhaakeflbaa
open Go.RowKit

theorem KeepB.lies {W w : World} {A : Option Addr} {bs : List Bool} (h : KeepB W A bs) (hb : Below W.heap.size W w) : Lies w w.heap.size A (bs.map boolV) := by
  rcases h with rfl | ⟨b, off, hA, hlt, hc⟩
  · exact .inl rfl
  · refine .inr ⟨b, off, hA, Nat.lt_of_lt_of_le hlt hb.size, fun i hi => ?_⟩
    rw [hb.cell (p := ⟨b, off + i, none⟩) hlt, List.getElem_map]
    exact hc i (by simpa using hi)

set_option maxHeartbeats 4000000 in
set_option maxRecDepth 100000 in
theorem act_crash {w W : World} {F : Nat → Prop} {a : Nat} {d : DSt} {x : ActV} {fA aA wA : Option Addr} {fc ac wc : Nat} (h : ActIn w W F a d x fA aA ac wA wc) (hq : kindN x.k = 6) :
    Calls Try.prog 18 #[.pointer (some ⟨a, 0, none⟩), .agg #[.slice fA d.firm.length fc, .slice aA d.loose.length ac, .slice wA d.loose.length wc, .int .i64 d.leftR, .bool d.off], .agg #[.int .i64 x.k, .int .i64 x.at_, .int .i64 x.n, .string x.s, .slice x.A x.len x.cap]] w (ActRet fA aA wA w F a (actS d x)) := by
  have HIn := Lib.hid h
  have hAD : actS d x = d.crashD x.bs := by unfold actS; rw [hq]; rfl
  rw [hAD]
  clear h hAD
  have hlo := HIn.out.loose
  go_enter Try.func18, Try.ntmps18
  go_wp2_with fail
  refine (kind_any _ _ _ _ _ _).mono ?_
  rintro e w4 ⟨rfl, hb4⟩
  have HM := Lib.hid (actMid (fc := fc) HIn.out hb4)
  rw [hq]
  clear hb4 hq
  obtain ⟨c0, c1, c2, c3, c4, cf⟩ := HM.out.blk.d.cells
  obtain ⟨d0, d1, d2, d3, d4⟩ := HM.out.blk.act
  go_wp2_with fail
  refine (Crash_any HM.out.disk (by omega) (HIn.out.act.keep.is HM.out.bel HIn.out.new) HIn.out.act.len HIn.out.act.len2).mono ?_
  rintro e w6 ⟨rfl, hm6, F6, hd6, hF6⟩
  have HB6 := Lib.hid (HM.out.blk.moves hm6 HM.out.low)
  have HD6 := Lib.hid hd6
  have HM6 : Hid (Moves F w w6) := Lib.hid (HM.out.mov.trans hm6 (fun _ h => Or.inl h))
  have HF6 : Hid (∀ q, F6 q → F q ∨ w4.heap.size ≤ q) := Lib.hid hF6
  have HR6 := Lib.hid (HM.out.ref.moves hm6 HIn.out.off)
  have HW6 : Hid (Below W.heap.size W w6) := Lib.hid (HM.out.bel.trans (hm6.below HM.out.bel.size HIn.out.new))
  clear c0 c1 c2 c3 c4 cf d0 d1 d2 d3 d4 hm6 hd6 hF6
  obtain ⟨c0, c1, c2, c3, c4, cf⟩ := HB6.out.d.cells
  obtain ⟨d0, d1, d2, d3, d4⟩ := HB6.out.act
  go_wp2_with fail
  refine (RefCrash_any HM.out.disk.1 HR6.out (by omega) (HIn.out.act.keep.lies HW6.out) HIn.out.act.len HIn.out.act.len2 _ _).mono ?_
  rintro e w5 ⟨b5, fc5, rfl, hb5', hr5, hb5⟩
  have HB5 := Lib.hid (HB6.out.below hb5)
  have HD5 := Lib.hid (HD6.out.below hb5)
  have HM5 : Hid (Moves F w w5) := Lib.hid (HM6.out.trans (G := fun _ => False) (Moves.of_below hb5) (fun _ h => h.elim))
  have HR5 := Lib.hid hr5
  have HLo6 : Hid (∀ q, F6 q → q < w6.heap.size) := Lib.hid HD6.out.low
  have HS6 : Hid (w.heap.size + 3 ≤ w6.heap.size ∧ w6.heap.size ≤ b5) := Lib.hid ⟨HB6.out.size, hb5'⟩
  clear c0 c1 c2 c3 c4 cf d0 d1 d2 d3 d4 hb5 hb5' hr5
  obtain ⟨e0, e1, e2, e3, e4, ef⟩ := HB5.out.r.cells
  obtain ⟨m1, hm1⟩ : ∃ m1 : Int, -1 = m1 := ⟨_, rfl⟩
  have HM1 := Lib.hid hm1
  rw [hm1]
  clear hm1
  obtain ⟨N5, hN5⟩ : ∃ N5, (d.crashF x.bs).length = N5 := ⟨_, rfl⟩
  have HN5 := Lib.hid hN5
  rw [hN5]
  clear hN5
  go_wp2_with fail
  exact bodyPost_ret (v := .tuple #[.agg #[.slice (some ⟨b5, 0, none⟩) N5 fc5, .slice none 0 0, .slice none 0 0, .int .i64 m1, .bool false], .bool true]) (by simp [results, Try.results18, go_sem, e0, e1, e2, e3, e4]) rfl
    (by
      have h6 := HS6.out
      have hend := actRet_end (d := d.crashD x.bs) (fA := some ⟨b5, 0, none⟩) (fc := fc5) (aA := none) (ac := 0) (wA := none) (wc := 0) (H := w.heap.size + 1 + 1) HM5.out HD5.out (fun q hq => (HF6.out q hq).imp id (fun h => Nat.le_trans HM.out.mov.size h)) (by omega)
        (fun hf => by
          have h3 := HM.out.blk.size
          rcases HF6.out _ hf with h | h
          · have := HM.out.low _ h; omega
          · omega) HR5.out
        (fun b off e hf => by
          have := HLo6.out b hf
          rcases e with e | e | e
          · simp only [Option.some.injEq, Addr.mk.injEq] at e; omega
          · cases e
          · cases e)
        (fun b off e => by
          rcases e with e | e | e
          · simp only [Option.some.injEq, Addr.mk.injEq] at e; omega
          · cases e
          · cases e)
        (fA0 := fA) (aA0 := aA) (wA0 := wA)
        (fun b off e => by
          rcases e with e | e | e
          · simp only [Option.some.injEq, Addr.mk.injEq] at e; exact .inl (by omega)
          · cases e
          · cases e)
      rw [leftR_crash, HM1.out, show (d.crashD x.bs).firm.length = N5 from HN5.out] at hend
      exact hend _ _ _ _ _)

/-- Behind the document's call: its disk lies in a block of its own, ahead of the disk's call. -/
structure ActYet (fA0 aA0 wA0 : Option Addr) (w V W : World) (F : Nat → Prop) (a : Nat) (d d' : DSt) (x : ActV) (B : Nat) (fA : Option Addr) (fc : Nat) (aA : Option Addr) (ac : Nat) (wA : Option Addr) (wc : Nat) : Prop where
  y : Five V B (.slice fA d'.firm.length fc) (.slice aA d'.loose.length ac) (.slice wA d'.loose.length wc) (.int .i64 d'.leftR) (.bool d'.off)
  act : V.heap[w.heap.size + 1]? = some (.cells (actCells x) 39 (0, 0))
  r : Five V (w.heap.size + 1 + 1) (.slice none 0 0) (.slice none 0 0) (.slice none 0 0) (.int .i64 0) (.bool false)
  hB : w.heap.size + 3 ≤ B ∧ B < V.heap.size
  disk : IsDisk V F a d
  mov : Moves F w V
  ref : RefAt V V.heap.size d'.firm d'.loose fA aA ac wA wc
  off : RefOff F fA aA wA
  ne : ∀ b off, (fA = some ⟨b, off, none⟩ ∨ aA = some ⟨b, off, none⟩ ∨ wA = some ⟨b, off, none⟩) → b ≠ w.heap.size + 1 + 1 ∧ b < V.heap.size
  low : ∀ k, F k → k < w.heap.size
  fresh : RefFresh w.heap.size fA0 aA0 wA0 fA aA wA

theorem actYet {w w4 w5 W : World} {F : Nat → Prop} {a : Nat} {d d' : DSt} {x : ActV} {fA aA wA fA' aA' wA' : Option Addr} {fc ac wc fc' ac' wc' : Nat} (hI : ActIn w W F a d x fA aA ac wA wc) (hM : ActMid w w4 W F a d x fA fc aA ac wA wc)
    (hb : Below w4.heap.size w4 w5) (hr : RefAt w5 w5.heap.size d'.firm d'.loose fA' aA' ac' wA' wc') (hfr : RefFresh w4.heap.size fA aA wA fA' aA' wA') (hpos : 0 < d'.firm.length) :
    ActYet fA aA wA w (w5.alloc (.cells #[.slice fA' d'.firm.length fc', .slice aA' d'.loose.length ac', .slice wA' d'.loose.length wc', .int .i64 d'.leftR, .bool d'.off] 35)).drew W F a d d' x w5.heap.size fA' fc' aA' ac' wA' wc' := by
  have hbl := hM.blk.below hb
  have hsz := hbl.size
  have hba : Below w5.heap.size w5 (w5.alloc (.cells #[.slice fA' d'.firm.length fc', .slice aA' d'.loose.length ac', .slice wA' d'.loose.length wc', .int .i64 d'.leftR, .bool d'.off] 35)).drew := ((Below.refl _ _).alloc (Nat.le_refl _) _).drew
  refine ⟨Five.new _ _ _ _ _ _, (hba.block _ (by omega)).trans hbl.a, hbl.r.below hba (by omega), ⟨hsz, by show _ < (w5.alloc _).heap.size; simp⟩, (hM.disk.below hb).below hba, (hM.mov.trans (G := fun _ => False) (Moves.of_below hb) (fun _ h => h.elim)).trans (G := fun _ => False) (Moves.of_below hba) (fun _ h => h.elim), hr.next hba, hfr.off hI.off hM.disk.low, fun b off e => ⟨?_, ?_⟩, hM.low, fun b off e => (hfr b off e).imp (fun h => Nat.le_trans hM.mov.size h) id⟩
  · rcases hfr b off e with h | h
    · have := hM.blk.size; omega
    · have := hM.lt b off h; omega
  · have := hr.lt hpos b off e
    show _ < (w5.alloc _).heap.size
    simp; omega

/-- Behind the disk's call: the two blocks, and what is to be said at the end. -/
theorem actYet_end {w V w7 W : World} {F : Nat → Prop} {a : Nat} {d d' : DSt} {x : ActV} {B : Nat} {fA aA wA fA0 aA0 wA0 : Option Addr} {fc ac wc : Nat} (h : ActYet fA0 aA0 wA0 w V W F a d d' x B fA fc aA ac wA wc) {v : Value} {e : Ending} (h7 : DiskEnd V F a d' v e w7) :
    e = .returned v ∧ Five w7 B (.slice fA d'.firm.length fc) (.slice aA d'.loose.length ac) (.slice wA d'.loose.length wc) (.int .i64 d'.leftR) (.bool d'.off) ∧ (w7.heap[w.heap.size + 1]? = some (.cells (actCells x) 39 (0, 0))) ∧
    Five w7 (w.heap.size + 1 + 1) (.slice none 0 0) (.slice none 0 0) (.slice none 0 0) (.int .i64 0) (.bool false) ∧
    (∀ u0 u1 u2 u3 u4, ActRet fA0 aA0 wA0 w F a d' (.returned (.tuple #[.agg #[.slice fA d'.firm.length fc, .slice aA d'.loose.length ac, .slice wA d'.loose.length wc, .int .i64 d'.leftR, .bool d'.off], .bool true])) (((((w7.setCell ⟨w.heap.size + 1 + 1, 0, none⟩ u0).setCell ⟨w.heap.size + 1 + 1, 1, none⟩ u1).setCell ⟨w.heap.size + 1 + 1, 2, none⟩ u2).setCell ⟨w.heap.size + 1 + 1, 3, none⟩ u3).setCell ⟨w.heap.size + 1 + 1, 4, none⟩ u4)) := by
  obtain ⟨he, hm, F7, hd7, hF7⟩ := h7
  have hn : ∀ q, w.heap.size ≤ q → ¬ F q := fun q hq hf => by have := h.low q hf; omega
  have hB := h.hB
  refine ⟨he, (hm.block B hB.2 (hn B (by omega))).trans h.y, (hm.block _ (by omega) (hn _ (by omega))).trans h.act, (hm.block _ (by omega) (hn _ (by omega))).trans h.r, fun u0 u1 u2 u3 u4 => ?_⟩
  refine actRet_end (h.mov.trans hm (fun _ h => Or.inl h)) hd7 (fun q hq => (hF7 q hq).imp id (fun h' => Nat.le_trans h.mov.size h')) (by omega) (fun hf => ?_) (h.ref.moves hm h.off) (h.off.next (fun b off e => (h.ne b off e).2) hF7) (fun b off e => (h.ne b off e).1) h.fresh u0 u1 u2 u3 u4
  rcases hF7 _ hf with h' | h'
  · have := h.low _ h'; omega
  · omega

set_option maxHeartbeats 4000000 in
set_option maxRecDepth 100000 in
theorem act_flush {w W : World} {F : Nat → Prop} {a : Nat} {d : DSt} {x : ActV} {fA aA wA : Option Addr} {fc ac wc : Nat} (h : ActIn w W F a d x fA aA ac wA wc) (hq : kindN x.k = 3) :
    Calls Try.prog 18 #[.pointer (some ⟨a, 0, none⟩), .agg #[.slice fA d.firm.length fc, .slice aA d.loose.length ac, .slice wA d.loose.length wc, .int .i64 d.leftR, .bool d.off], .agg #[.int .i64 x.k, .int .i64 x.at_, .int .i64 x.n, .string x.s, .slice x.A x.len x.cap]] w (ActRet fA aA wA w F a (actS d x)) := by
  have HIn := Lib.hid h
  have hAD : actS d x = d.flushD := by unfold actS; rw [hq]; rfl
  rw [hAD]
  clear h hAD
  have hlo := HIn.out.loose
  go_enter Try.func18, Try.ntmps18
  go_wp2_with fail
  refine (kind_any _ _ _ _ _ _).mono ?_
  rintro e w4 ⟨rfl, hb4⟩
  have HM := Lib.hid (actMid (fc := fc) HIn.out hb4)
  rw [hq]
  clear hb4 hq
  obtain ⟨c0, c1, c2, c3, c4, cf⟩ := HM.out.blk.d.cells
  go_wp2_with fail
  refine (RefFlush_any HM.out.disk.1 HM.out.ref (by omega)).mono ?_
  rintro e w5 ⟨fA', fc', aA', ac', wA', wc', rfl, hr5, hb5, hfr⟩
  have HY := Lib.hid (actYet (fc' := fc') HIn.out HM.out hb5 hr5 hfr HM.out.disk.1.flushD.firm_pos.1)
  have HFl : Hid (∀ V, IsDisk V F a d → Calls Try.prog 11 #[.pointer (some ⟨a, 0, none⟩)] V (DiskEnd V F a d.flushD (.int .i64 d.flushE))) := Lib.hid (fun V hV => Flush_any hV (by omega))
  clear c0 c1 c2 c3 c4 cf hb5 hr5 hfr
  generalize d.flushD = d' at *
  generalize d.flushE = E at *
  go_wp2_with fail
  generalize w5.alloc (.cells #[.slice fA' d'.firm.length fc', .slice aA' d'.loose.length ac', .slice wA' d'.loose.length wc', .int .i64 d'.leftR, .bool d'.off] 35) = V at *
  generalize w5.heap.size = B at *
  obtain ⟨b0, b1, b2, b3, b4, bf⟩ := HY.out.y.cells
  rw [drew_cell] at b0 b1 b2 b3 b4
  go_region_with (first | (go_at_call 11; refine (HFl.out _ HY.out.disk).mono ?_; rintro e w7 h7; obtain ⟨rfl, k1, k2, k3, k4⟩ := actYet_end HY.out h7; obtain ⟨g0, g1, g2, g3, g4, gf⟩ := k1.cells; obtain ⟨r0, r1, r2, r3, r4, rf⟩ := k3.cells))
  all_goals
    have HK4 := Lib.hid k4
    clear k1 k2 k3 k4 h7
    go_wp2_with fail
    exact bodyPost_ret (v := .tuple #[.agg #[.slice fA' d'.firm.length fc', .slice aA' d'.loose.length ac', .slice wA' d'.loose.length wc', .int .i64 d'.leftR, .bool d'.off], .bool true]) (by simp [results, Try.results18, go_sem, r0, r1, r2, r3, r4]) rfl (HK4.out _ _ _ _ _)

set_option maxHeartbeats 4000000 in
set_option maxRecDepth 100000 in
theorem act_write {w W : World} {F : Nat → Prop} {a : Nat} {d : DSt} {x : ActV} {fA aA wA : Option Addr} {fc ac wc : Nat} (h : ActIn w W F a d x fA aA ac wA wc) (hq : kindN x.k < 3) :
    Calls Try.prog 18 #[.pointer (some ⟨a, 0, none⟩), .agg #[.slice fA d.firm.length fc, .slice aA d.loose.length ac, .slice wA d.loose.length wc, .int .i64 d.leftR, .bool d.off], .agg #[.int .i64 x.k, .int .i64 x.at_, .int .i64 x.n, .string x.s, .slice x.A x.len x.cap]] w (ActRet fA aA wA w F a (actS d x)) := by
  have HIn := Lib.hid h
  have hAD : actS d x = d.writeD x.at_ x.s.data.toList := by unfold actS; rw [if_neg (by omega), if_neg (by omega), if_neg (by omega), if_neg (by omega)]
  rw [hAD]
  clear h hAD
  have hlo := HIn.out.loose
  have hs1 : x.s.size ≤ 9223372036854775807 := HIn.out.act.s1
  obtain ⟨q, hqe⟩ : ∃ q, kindN x.k = q := ⟨_, rfl⟩
  have HQ := Lib.hid hqe
  rw [hqe] at hq
  clear hqe
  have q3 : ((q : Int) == 3) = false := by rw [beq_eq_false_iff_ne]; omega
  have q4 : ((q : Int) == 4) = false := by rw [beq_eq_false_iff_ne]; omega
  have q5 : ((q : Int) == 5) = false := by rw [beq_eq_false_iff_ne]; omega
  have q6 : ((q : Int) == 6) = false := by rw [beq_eq_false_iff_ne]; omega
  go_enter Try.func18, Try.ntmps18
  go_wp2_with fail
  refine (kind_any _ _ _ _ _ _).mono ?_
  rintro e w4 ⟨rfl, hb4⟩
  have HM := Lib.hid (actMid (fc := fc) HIn.out hb4)
  rw [HQ.out]
  clear hb4 hq
  obtain ⟨c0, c1, c2, c3, c4, cf⟩ := HM.out.blk.d.cells
  obtain ⟨d0, d1, d2, d3, d4⟩ := HM.out.blk.act
  go_wp2_with fail
  refine (RefWrite_any HM.out.disk.1 HM.out.ref hlo x.at_ x.s hs1).mono ?_
  rintro e w5 ⟨fA', fc', aA', ac', wA', wc', rfl, hr5, hb5, hfr⟩
  have HY := Lib.hid (actYet (fc' := fc') HIn.out HM.out hb5 hr5 hfr (HM.out.disk.1.writeD _ _).firm_pos.1)
  have HFl : Hid (∀ V, IsDisk V F a d → Calls Try.prog 10 #[.pointer (some ⟨a, 0, none⟩), .int .i64 x.at_, .string x.s] V (DiskEnd V F a (d.writeD x.at_ x.s.data.toList) (.int .i64 (d.writeE x.at_ x.s.data.toList)))) := Lib.hid (fun V hV => Write_any hV x.at_ x.s hs1 hlo)
  clear c0 c1 c2 c3 c4 cf d0 d1 d2 d3 d4 hb5 hr5 hfr
  generalize d.writeD x.at_ x.s.data.toList = d' at *
  generalize d.writeE x.at_ x.s.data.toList = E at *
  go_wp2_with fail
  generalize w5.alloc (.cells #[.slice fA' d'.firm.length fc', .slice aA' d'.loose.length ac', .slice wA' d'.loose.length wc', .int .i64 d'.leftR, .bool d'.off] 35) = V at *
  generalize w5.heap.size = B at *
  obtain ⟨b0, b1, b2, b3, b4, bf⟩ := HY.out.y.cells
  rw [drew_cell] at b0 b1 b2 b3 b4
  have y1 : V.cell? ⟨w.heap.size + 1, 1, none⟩ = some (.int .i64 x.at_) := by rw [Lib.cell_of_heap (show V.heap[w.heap.size + 1]? = _ from HY.out.act)]; rfl
  have y3 : V.cell? ⟨w.heap.size + 1, 3, none⟩ = some (.string x.s) := by rw [Lib.cell_of_heap (show V.heap[w.heap.size + 1]? = _ from HY.out.act)]; rfl
  go_region_with (first | (go_at_call 10; refine (HFl.out _ HY.out.disk).mono ?_; rintro e w7 h7; obtain ⟨rfl, k1, k2, k3, k4⟩ := actYet_end HY.out h7; obtain ⟨g0, g1, g2, g3, g4, gf⟩ := k1.cells; obtain ⟨r0, r1, r2, r3, r4, rf⟩ := k3.cells))
  all_goals
    have HK4 := Lib.hid k4
    clear k1 k2 k3 k4 h7
    go_wp2_with fail
    exact bodyPost_ret (v := .tuple #[.agg #[.slice fA' d'.firm.length fc', .slice aA' d'.loose.length ac', .slice wA' d'.loose.length wc', .int .i64 d'.leftR, .bool d'.off], .bool true]) (by simp [results, Try.results18, go_sem, r0, r1, r2, r3, r4]) rfl (HK4.out _ _ _ _ _)

theorem act_any {w W : World} {F : Nat → Prop} {a : Nat} {d : DSt} {x : ActV} {fA aA wA : Option Addr} {fc ac wc : Nat} (h : ActIn w W F a d x fA aA ac wA wc) :
    Calls Try.prog 18 #[.pointer (some ⟨a, 0, none⟩), .agg #[.slice fA d.firm.length fc, .slice aA d.loose.length ac, .slice wA d.loose.length wc, .int .i64 d.leftR, .bool d.off], .agg #[.int .i64 x.k, .int .i64 x.at_, .int .i64 x.n, .string x.s, .slice x.A x.len x.cap]] w (ActRet fA aA wA w F a (actS d x)) := by
  have h7 := kindN_lt x.k
  rcases (show kindN x.k < 3 ∨ kindN x.k = 3 ∨ kindN x.k = 4 ∨ kindN x.k = 5 ∨ kindN x.k = 6 by omega) with hq | hq | hq | hq | hq
  · exact act_write h hq
  · exact act_flush h hq
  · exact act_read h hq
  · exact act_arm h hq
  · exact act_crash h hq
end Go.Proofs.Ytocafhaakeflbaa
