/- The contract of Tick once more, with where the packets lie: in a block of the call's own. The contract of send once more, with what it leaves alone. A packet of the line's row written anew. -/
import Derived.Test.YtdhmkcomngbmaaaLinkF
import Derived.Test.YtdhmkcomngbmaaaLinkQ
import Derived.Test.YtdhmkcomngbmaaaLinkCo
namespace Go.Proofs.Ytdhmkcomngbmaaa
open Go.RowKit

def TxtsIsS (xs : List (List UInt8)) (w : World) (e : Ending) (w' : World) : Prop := ∃ A c, e = .returned (.slice A xs.length c) ∧ Strs w' w'.heap.size A xs ∧ (A = none → c = 0) ∧ xs.length ≤ c ∧ Below w.heap.size w w' ∧ ∀ a, A = some a → w.heap.size ≤ a.block

set_option maxHeartbeats 4000000 in
set_option maxRecDepth 100000 in
theorem LTick_okS (x : LEnd) (A : Option Addr) (c : Nat) (w : World) (h : Strs w w.heap.size A x.out) (hx : x.Ok) :
    Calls Try.prog 13 #[x.val A c] w (TxtsIsS (tickL x) w) := by
  have hb1 := below_one w (.cells #[.int .i64 x.ep, .int .i64 x.ot, .int .i64 x.fi, .slice A x.out.length c, .int .i64 x.wa] 24)
  have hlen := hx.len
  have hf1 := hx.f1
  have hf2 := hx.f2
  have HF := Lib.hid (Five.new w (.int .i64 x.ep) (.int .i64 x.ot) (.int .i64 x.fi) (.slice A x.out.length c) (.int .i64 x.wa) 24)
  have HRt := Lib.hid (LRight_any x A c _ (h.next hb1) (by omega))
  have HB1 := Lib.hid hb1
  have HOk := Lib.hid ((okB_iff x).2 hx)
  have HSe : Hid (∀ (k : Nat) (hk : k < x.out.length) (W : World), k < 4 → Calls Try.prog 35 #[x.val A c, .int .i64 (1 : Nat), .int .i64 (x.fi + k), .string (str x.out[k])] W fun e w' => e = .returned (.string (str (pktB x 1 (x.fi + k) x.out[k]))) ∧ Below W.heap.size W w') := Lib.hid (fun k hk W h4 => lseal_any x A c 1 (x.fi + k) x.out[k] W hx.ok3 (.inl rfl) (by omega) (by omega) (hx.each _ (List.getElem_mem hk)))
  have HA := Lib.hid h
  have HTk := Lib.hid (fun k h1 h2 => @tickL_at x k h1 h2)
  obtain ⟨m, hm⟩ : ∃ m, (tickL x).length = m := ⟨_, rfl⟩
  have hm2 : m = min 4 x.out.length := by rw [← hm, tickL_len15]
  have hmi : min (x.out.length : Int) 4 = (m : Int) := by omega
  have hm4 : m ≤ 4 := by omega
  have hmn : m ≤ x.out.length := by omega
  have HM := Lib.hid hm
  have hmk := fun W => run_make_row' (P := Try.prog) 22 9 (.string ⟨#[]⟩) 16 Try.underlying22 Try.infoStr rfl .i64 .i64 m (by omega) (by omega) W
  unfold LEnd.val at HRt HSe ⊢
  clear h hx hb1 hm hm2
  go_enter Try.func13, Try.ntmps13
  go_wp2_with (go_at_call 14; refine HRt.out.mono ?_; rw [HOk.out]; rintro e w1 ⟨rfl, hb9⟩; have HF1 := Lib.hid (HF.out.below hb9); have HB2 := Lib.hid (below_next HB1.out hb9); clear hb9; have x0 := HF1.out.c0; have x1 := HF1.out.c1; have x2 := HF1.out.c2; have x3 := HF1.out.c3; have x4 := HF1.out.c4)
  have hP : w.heap.size < w1.heap.size := HF1.out.lt
  have HF2 := Lib.hid (HF1.out.below (below_one w1 (.cells (madeCells #[.string ⟨#[]⟩] m) 9)))
  have HB3 := Lib.hid (below_next HB2.out (below_one w1 (.cells (madeCells #[.string ⟨#[]⟩] m) 9)))
  have HRow : Hid ((w1.alloc (.cells (madeCells #[.string ⟨#[]⟩] m) 9)).heap[w1.heap.size]? = some (.cells (fillC (tickL x) 0) 9 (0, 0))) := Lib.hid (by rw [fillC_none, HM.out]; exact heap_alloc_new _ _)
  clear x0 x1 x2 x3 x4 HF HF1 HB2
  generalize w1.heap.size = R at *
  clear HRt HOk hmk hmi
  go_loopw [15] (fun i wr => ∃ k : Nat, k ≤ m ∧ i = .int .i64 k ∧ Hid (Five wr w.heap.size (.int .i64 x.ep) (.int .i64 x.ot) (.int .i64 x.fi) (.slice A x.out.length c) (.int .i64 x.wa) 24) ∧ Hid (wr.heap[R]? = some (.cells (fillC (tickL x) k) 9 (0, 0))) ∧ Hid (Below w.heap.size w wr)) (fun i _ => m - (intOf i).toNat)
  case atStart => exact ⟨0, by omega, rfl, HF2, HRow, HB3⟩
  case round =>
    clear HF2 HB3 HRow
    obtain ⟨k, hk, rfl, HFr, HRow, HBr⟩ := hrel
    by_cases hlt : k < m
    · have hkn : k < x.out.length := by omega
      have hkt : k < (tickL x).length := by rw [HM.out]; exact hlt
      obtain ⟨b, off, hA, hbl, hc0⟩ := HA.out.at_ hkn
      subst hA
      have HC0 := Lib.hid (fun (W : World) (hW : Below w.heap.size w W) => (hW.cell (p := ⟨b, off + k, none⟩) hbl).trans hc0)
      have HS := Lib.hid (fun W => HSe.out k hkn W (by omega))
      have e1 := HTk.out k hkt hkn
      have HSt := Lib.hid (fillC_step hkt)
      have HAt := Lib.hid (fillC_at hkt)
      rw [e1] at HSt
      clear e1 hc0
      unfold txt at HC0 HSt
      generalize pktB x 1 (x.fi + k) x.out[k] = PK at *
      generalize x.out[k] = pc at *
      have hd0 := HFr.out.drew.all
      have hd1 : wr.drew.cell? ⟨b, off + k, none⟩ = some (.string (str pc)) := HC0.out _ HBr.out.drew
      have HLt := Lib.hid (fun z : LatW wr => (HFr.out.lat z).all)
      have HLc : Hid (∀ z : LatW wr, z.wd.cell? ⟨b, off + k, none⟩ = some (.string (str pc))) := Lib.hid (fun z => HC0.out _ (lat_end HBr.out z))
      obtain ⟨d0, d1, d2, d3, d4⟩ := hd0
      have hRP : w.heap.size ≠ R := by omega
      have HRz : Hid (∀ z : LatW wr, z.wd.heap[R]? = some (.cells (fillC (tickL x) k) 9 (0, 0))) := Lib.hid (fun z => (z.bel.block R (heap_lt HRow.out)).trans HRow.out)
      have q0 : ∀ z : LatW wr, z.wd.cell? ⟨R, k, none⟩ = some (.string ⟨#[]⟩) := fun z => by rw [Lib.cell_of_heap (HRz.out z) k, HAt.out]
      have qf : ∀ z : LatW wr, z.wd.frozen? ⟨R, k, none⟩ = false := fun z => Lib.frozen_of_heap (HRz.out z) k
      have HLs : Hid (∀ z : LatW wr, (z.wd.setCell ⟨R, k, none⟩ (.string (str PK))).cell? ⟨w.heap.size, 0, none⟩ = some (.int .i64 x.ep) ∧ (z.wd.setCell ⟨R, k, none⟩ (.string (str PK))).cell? ⟨w.heap.size, 1, none⟩ = some (.int .i64 x.ot) ∧ (z.wd.setCell ⟨R, k, none⟩ (.string (str PK))).cell? ⟨w.heap.size, 2, none⟩ = some (.int .i64 x.fi) ∧ (z.wd.setCell ⟨R, k, none⟩ (.string (str PK))).cell? ⟨w.heap.size, 3, none⟩ = some (.slice (some ⟨b, off, none⟩) x.out.length c) ∧ (z.wd.setCell ⟨R, k, none⟩ (.string (str PK))).cell? ⟨w.heap.size, 4, none⟩ = some (.int .i64 x.wa) ∧ (z.wd.setCell ⟨R, k, none⟩ (.string (str PK))).cell? ⟨b, off + k, none⟩ = some (.string (str pc))) := Lib.hid (fun z => by
        obtain ⟨a0, a1, a2, a3, a4⟩ := ((HFr.out.lat z).far (p := ⟨R, k, none⟩) hRP (.string (str PK))).all
        exact ⟨a0, a1, a2, a3, a4, HC0.out _ ((lat_end HBr.out z).setCell (p := ⟨R, k, none⟩) (by show w.heap.size ≤ R; omega) _)⟩)
      have hk0 : (0 : Int) ≤ (k : Int) := by omega
      have hk1 : (k : Int) < (m : Int) := by omega
      have hk2 : (k : Int) < (x.out.length : Int) := by omega
      have hwk : IntKind.i64.wrap (x.fi + (k : Int)) = x.fi + (k : Int) := by rw [IntKind.wrap_i64]; omega
      go_upto_region 7 with fail
      go_region_held3 (fun w' => w'.cell? ⟨w.heap.size, 0, none⟩ = some (.int .i64 x.ep) ∧ w'.cell? ⟨w.heap.size, 1, none⟩ = some (.int .i64 x.ot) ∧ w'.cell? ⟨w.heap.size, 2, none⟩ = some (.int .i64 x.fi) ∧ w'.cell? ⟨w.heap.size, 3, none⟩ = some (.slice (some ⟨b, off, none⟩) x.out.length c) ∧ w'.cell? ⟨w.heap.size, 4, none⟩ = some (.int .i64 x.wa) ∧ w'.cell? ⟨b, off + k, none⟩ = some (.string (str pc))) (first | with_reducible exact ⟨(HLt.out z4).1, (HLt.out z4).2.1, (HLt.out z4).2.2.1, (HLt.out z4).2.2.2.1, (HLt.out z4).2.2.2.2, HLc.out z4⟩ | with_reducible exact ⟨d0, d1, d2, d3, d4, hd1⟩ | with_reducible exact HLs.out z4) (first | (go_at_call 35; refine (HS.out _).mono ?_; rintro e w8 ⟨rfl, hb8⟩; obtain ⟨z4, hz4⟩ := LatW.later (LatW.first wr) hb8; subst hz4; clear hb8))
      all_goals
        have HF4 := Lib.hid ((HFr.out.lat z4).far (p := ⟨R, k, none⟩) hRP (.string (str PK)))
        have HRow4 : Hid ((z4.wd.setCell ⟨R, k, none⟩ (.string (str PK))).heap[R]? = some (.cells (fillC (tickL x) (k + 1)) 9 (0, 0))) := Lib.hid (by rw [← HSt.out]; exact row_set (HRz.out z4) k _)
        have HB4 := Lib.hid ((lat_end HBr.out z4).setCell (p := ⟨R, k, none⟩) (by show w.heap.size ≤ R; omega) (.string (str PK)))
        clear d0 d1 d2 d3 d4 hd1 q0 qf HLs HLt HLc HC0
        go_wp2_with fail
        go_roundw
        case rel => exact ⟨k + 1, by omega, by go_num, HF4, HRow4, HB4⟩
        case measure => simp [intOf]; omega
    · obtain rfl : k = m := by omega
      go_wp2_with fail
      go_ret
      have HT : Hid (∀ xs : List (List UInt8), xs.length = k → wr.heap[R]? = some (.cells (fillC xs k) 9 (0, 0)) → TxtsIsS xs w (.returned (.slice (some ⟨R, 0, none⟩) k k)) wr) := Lib.hid (fun xs hxl hrow => by
        subst hxl
        rw [fillC_done] at hrow
        refine ⟨some ⟨R, 0, none⟩, xs.length, rfl, .inr ⟨R, 0, rfl, heap_lt hrow, fun i hi => ?_⟩, fun h => (by cases h), Nat.le_refl _, HBr.out, fun a ha => (by injection ha with ha; rw [← ha]; exact Nat.le_of_lt hP)⟩
        rw [Lib.cell_of_heap hrow, Nat.zero_add]
        simp [hi])
      exact HT.out _ HM.out HRow.out
end Go.Proofs.Ytdhmkcomngbmaaa

namespace Go.Proofs.Ytdhmkcomngbmaaa
open Go.RowKit

/-- What the line's rows were, and are: all else stays. -/
structure LnMv (H : Nat) (w w' : World) (m m' : LnM) : Prop where
  keep : ∀ b, b < w.heap.size → b ≠ H → (∀ k, k < 5 → (m.v k).ownBlock ≠ some b) → w'.heap[b]? = w.heap[b]?
  fresh : ∀ k, k < 5 → ∀ g, (m'.v k).ownBlock = some g → (∃ j, j < 5 ∧ (m.v j).ownBlock = some g) ∨ w.heap.size ≤ g
  size : w.heap.size ≤ w'.heap.size
theorem LnMv.of {H : Nat} {w w' : World} (m : LnM) (h : Below w.heap.size w w') : LnMv H w w' m m := ⟨fun b hb _ _ => h.block b hb, fun k hk _ hg => .inl ⟨k, hk, hg⟩, h.size⟩
theorem LnMv.trans {H : Nat} {w w' w'' : World} {m m' m'' : LnM} (h : LnMv H w w' m m') (k : LnMv H w' w'' m' m'') : LnMv H w w'' m m'' :=
  ⟨fun b hb hH hr => (k.keep b (Nat.lt_of_lt_of_le hb h.size) hH (fun j hj e => by
    rcases h.fresh j hj b e with ⟨i, hi, e2⟩ | e2
    · exact hr i hi e2
    · omega)).trans (h.keep b hb hH hr), fun j hj g hg => by
    rcases k.fresh j hj g hg with ⟨i, hi, e2⟩ | e2
    · exact h.fresh i hi g e2
    · exact .inr (Nat.le_trans h.size e2), Nat.le_trans h.size k.size⟩
def LnEndS (B H : Nat) (l' : Line) (m : LnM) (w : World) (e : Ending) (w' : World) : Prop := e = .returned (.tuple #[]) ∧ ∃ m', LnAt B H w' l' m' ∧ LnMv H w w' m m' ∧ Below H w w'

set_option maxHeartbeats 4000000 in
set_option maxRecDepth 100000 in
theorem send_anyS {B H : Nat} {w : World} {l : Line} {m : LnM} (h : LnAt B H w l m) (hl : l.net.length ≤ 1000) (hB : B ≤ w.heap.size) (p : Pk) :
    Calls Try.prog 27 #[.pointer (some ⟨H, 0, none⟩), .agg #[.int .i64 (p.to_ : Int), .string (str p.s), .bool p.bad]] w (LnEndS B H (l.send p) m w) := by
  obtain ⟨A0, c0, hv⟩ := own_form15Q h.net
  have hem : (str p.s).toList.isEmpty = decide (p.s = []) := str_same_none p.s
  have hb1 := below_one w (.cells #[.int .i64 (p.to_ : Int), .string (str p.s), .bool p.bad] 65)
  have HL := Lib.hid (h.later hb1)
  have hHlt := h.lt
  have hcell := (h.later hb1).cell 10
  have hfr := (h.later hb1).fr 10
  rw [show (lnCells l m)[10]? = some (m.v 0) from rfl, hv] at hcell
  have HB1 := Lib.hid (hb1.mono (Nat.le_of_lt hHlt))
  have HB0 := Lib.hid hb1
  obtain ⟨V, hV⟩ : ∃ V, V = w.alloc (.cells #[.int .i64 (p.to_ : Int), .string (str p.s), .bool p.bad] 65) := ⟨_, rfl⟩
  have HPb : Hid (V.heap[w.heap.size]? = some (.cells #[.int .i64 (p.to_ : Int), .string (str p.s), .bool p.bad] 65 (0, 0))) := Lib.hid (by rw [hV]; exact heap_new _ _)
  rw [← hV] at HL hcell hfr HB1 HB0
  have HV := Lib.hid hV
  have hBV : B ≤ V.heap.size := by rw [hV]; simp; omega
  have hHV : H < V.heap.size := by rw [hV]; simp; omega
  have p0 : V.cell? ⟨w.heap.size, 0, none⟩ = some (.int .i64 (p.to_ : Int)) := by rw [Lib.cell_of_heap HPb.out]; rfl
  have p1 : V.cell? ⟨w.heap.size, 1, none⟩ = some (.string (str p.s)) := by rw [Lib.cell_of_heap HPb.out]; rfl
  have p2 : V.cell? ⟨w.heap.size, 2, none⟩ = some (.bool p.bad) := by rw [Lib.cell_of_heap HPb.out]; rfl
  clear hV h hb1
  by_cases hs : p.s = []
  · have hsd : (str p.s).toList.isEmpty = true := by rw [hem, decide_eq_true hs]
    have HE : Hid (l.send p = l) := Lib.hid (by unfold Line.send; rw [if_neg (fun e => e.1 hs)])
    clear hem hs
    go_enter Try.func27, Try.ntmps27
    go_upto_region 1 with fail
    rw [← HV.out]
    go_wp2
    go_end0
    exact ⟨rfl, m, by rw [HE.out]; exact HL.out, LnMv.of m HB0.out, HB1.out⟩
  · have hsd : (str p.s).toList.isEmpty = false := by rw [hem, decide_eq_false hs]
    by_cases hn : l.net.length < 200
    · have HE : Hid (l.send p = ⟨l.st, l.net ++ [p]⟩) := Lib.hid (by unfold Line.send; rw [if_pos ⟨hs, hn⟩])
      have hn2 : (l.net.length : Int) < 200 := by omega
      obtain ⟨i0, hi0, hz0, hz1, hz2⟩ := info_parts Try.infoPk
      have hOw := HL.out.net
      rw [hv] at hOw
      have HOd : Hid (V.drew.ownsRow B 65 3 (.slice A0 l.net.length c0) l.net.length (pkCells l.net)) := Lib.hid (own_drew hOw)
      have hsz : V.drew.heap.size = V.heap.size := rfl
      have hfit : l.net.length + 1 ≤ maxLen := by unfold maxLen; omega
      have hfit2 : (l.net.length + 1) * 32 ≤ 140737488355328 := by omega
      have HMv := Lib.hid hv
      clear hem hs hOw hv
      go_enter Try.func27, Try.ntmps27
      go_upto_region 1 with fail
      rw [← HV.out]
      go_upto_region 2 with fail
      have HLd := Lib.hid (HL.out.later ((Below.refl V.heap.size V).drew.alloc (Nat.le_refl _) (.cells #[.int .i64 (p.to_ : Int), .string (str p.s), .bool p.bad] 65)))
      have HRl := Lib.hid (fun q (e : (Value.slice A0 l.net.length c0).ownBlock = some q) => (HLd.out.row_lt (k := 0) (by omega) (by rw [HMv.out]; exact e)).1)
      go_region_law (refine step_append_lies _ (by rfl) (.tmp 19) (.tmp 21) 58 (by rfl) B 65 i0 (.agg #[.int .i64 0, .string ⟨#[]⟩, .bool false]) 3 32 Try.underlying58 hi0 hz0 hz1 hz2 rfl (by decide) (.slice A0 l.net.length c0) l.net.length (pkCells l.net) (by rfl) (HOd.out.alloc _) ⟨V.heap.size, 0, none⟩ 1 1 [.int .i64 (p.to_ : Int), .string (str p.s), .bool p.bad] (by rfl) (by rfl) (cell_three15 _ _ _ _ _) (by simp [Value.oneCell']) (by omega) hfit hfit2 (by simp; omega) (V.heap.size + 1) (by simp) ?_; intro g cap w6 hown hg hat hltg; have HH6 : Hid (w6.heap[H]? = some (.cells (lnCells l m) 61 (0, 0))) := Lib.hid ((hg.block H HLd.out.lt (fun e => by have := HRl.out H e.symm; have := HLd.out.lo; omega)).trans HLd.out.blk); have HOw6 := Lib.hid hown; have HG6 := Lib.hid hg; have HAt6 := Lib.hid hat; clear hown hg hat hltg; have x10 := Lib.cell_of_heap HH6.out 10; have xf10 := Lib.frozen_of_heap HH6.out 10; rw [show (lnCells l m)[10]? = some (m.v 0) from rfl, HMv.out] at x10)
      all_goals
        clear x10 xf10 hcell hfr
        go_wp2_with fail
        go_end0
        have hb6 : Below H V w6 := ((Below.refl H V).drew.alloc (Nat.le_of_lt hHV) _).grown HG6.out (by simp; omega) (fun q hq => by have := HRl.out q hq; have := HLd.out.lo; omega)
        have hgr := HG6.out
        have hat := HAt6.out
        refine ⟨rfl, { m with v := updV m.v 0 (.slice (some ⟨g, 0, none⟩) (l.net.length + 1) cap) }, ?_, ⟨fun b hb hH hr => ?_, fun k hk q hq => ?_, ?_⟩, ?_⟩
        · rw [HE.out]
          exact HLd.out.grow (k := 0) (l' := ⟨l.st, l.net ++ [p]⟩) (by omega) (by rw [HMv.out]; exact HG6.out) (fun q hq => by
            rw [HMv.out]
            have hq' : g = q := by simpa [Value.ownBlock] using hq
            subst hq'
            rcases HAt6.out with e | e
            · exact .inl e
            · right; rw [e]; simp) (fun i _ => rfl) (fun e => absurd rfl e) (fun i _ _ => rfl) (fun i _ _ => rfl) (fun _ => by
            have := HOw6.out
            rw [List.length_append, pkCells_append]
            exact this) (fun i hi e => by omega) (fun i hi e => by omega)
        · have hbV : b < V.heap.size := Nat.lt_of_lt_of_le hb HB0.out.size
          refine (Below.heap_setCell _ _ _ _ hH).trans ((hgr.block b (by simp; omega) (fun e => hr 0 (by omega) (by rw [HMv.out]; exact e.symm))).trans ?_)
          exact (((Below.refl V.heap.size V).drew.alloc (Nat.le_refl _) (.cells #[.int .i64 (p.to_ : Int), .string (str p.s), .bool p.bad] 65)).block b hbV).trans (HB0.out.block b hb)
        · have hq' : (updV m.v 0 (.slice (some ⟨g, 0, none⟩) (l.net.length + 1) cap) k).ownBlock = some q := hq
          by_cases e : k = 0
          · subst e
            rw [updV_at] at hq'
            have hq2 : g = q := by simpa [Value.ownBlock] using hq'
            subst hq2
            rcases hat with e | e
            · exact .inl ⟨0, by omega, by rw [HMv.out]; exact e⟩
            · right; have := HB0.out.size; omega
          · rw [updV_far _ _ e] at hq'
            exact .inl ⟨k, hk, hq'⟩
        · have := hgr.size
          have := HB0.out.size
          simp [World.setCell] at *
          omega
        · exact (HB1.out.trans hb6).setCell (p := ⟨H, 10, none⟩) (Nat.le_refl _) _
    · have HE : Hid (l.send p = l) := Lib.hid (by unfold Line.send; rw [if_neg (fun e => hn e.2)])
      have hn2 : ¬ (l.net.length : Int) < 200 := by omega
      clear hem hs
      go_enter Try.func27, Try.ntmps27
      go_upto_region 1 with fail
      rw [← HV.out]
      go_wp2
      go_end0
      exact ⟨rfl, m, by rw [HE.out]; exact HL.out, LnMv.of m HB0.out, HB1.out⟩
end Go.Proofs.Ytdhmkcomngbmaaa

namespace Go.Proofs.Ytdhmkcomngbmaaa
open Go.RowKit

theorem pkCells_set : ∀ (ps : List Pk) (k : Nat) (q : Pk), pkCells (ps.set k q) = (((pkCells ps).set (k * 3) (.int .i64 (q.to_ : Int))).set (k * 3 + 1) (.string (str q.s))).set (k * 3 + 2) (.bool q.bad)
  | [], k, q => by simp [pkCells]
  | p :: ps, 0, q => rfl
  | p :: ps, k + 1, q => by
    have e : pkCells (p :: ps) = .int .i64 (p.to_ : Int) :: .string (str p.s) :: .bool p.bad :: pkCells ps := rfl
    have e2 : pkCells ((p :: ps).set (k + 1) q) = .int .i64 (p.to_ : Int) :: .string (str p.s) :: .bool p.bad :: pkCells (ps.set k q) := rfl
    rw [e2, e, pkCells_set ps k q, show (k + 1) * 3 = k * 3 + 1 + 1 + 1 from by omega]
    rfl
theorem LnAt.netRow {B H : Nat} {w w' : World} {l : Line} {m : LnM} (h : LnAt B H w l m) {net' : List Pk} (hg : w.grownBy w' (m.v 0).ownBlock) (ho : w'.ownsRow B 65 3 (m.v 0) net'.length (pkCells net')) : LnAt B H w' ⟨l.st, net'⟩ m := by
  have hHr : (some H : Option Nat) ≠ (m.v 0).ownBlock := fun e => by have := h.row_lt (k := 0) (by omega) e.symm; have := h.lo; omega
  have hk : ∀ {e : TypeId} {size n' : Nat} {xs : List Value} (j : Nat), 0 < j → j < 5 → w.ownsRow B e size (m.v j) n' xs → w'.ownsRow B e size (m.v j) n' xs := fun j hj0 hj ho' => ho'.kept hg (by
    cases hv : (m.v j).ownBlock with
    | none => exact .inl rfl
    | some q => right; intro e; exact h.dj j 0 hj (by omega) (by omega) q hv e.symm)
  refine ⟨(hg.block H h.lt hHr).trans h.blk, h.lo, ho, fun i hi => hk (1 + i) (by omega) (by omega) (h.put i hi), fun i hi => hk (3 + i) (by omega) (by omega) (h.came i hi), fun i hi => ?_, fun i hi a ha => Nat.lt_of_lt_of_le (h.ins i hi a ha) hg.size, h.dj, h.off⟩
  obtain ⟨o1, o2, o3⟩ := h.out i hi
  exact ⟨(o1.grown hg (fun q a e1 e2 => h.off 0 i (by omega) hi q a e1 e2)).more hg.size, o2, o3⟩
def pkSetAt (w : World) (g o : Nat) (q : Pk) : World := ((w.setCell ⟨g, o, none⟩ (.int .i64 (q.to_ : Int))).setCell ⟨g, o + 1, none⟩ (.string (str q.s))).setCell ⟨g, o + 2, none⟩ (.bool q.bad)
theorem LnAt.netSet {B H : Nat} {w : World} {l : Line} {m : LnM} (h : LnAt B H w l m) {g cap : Nat} (hv : m.v 0 = .slice (some ⟨g, 0, none⟩) l.net.length cap) (k : Nat) (q : Pk) : LnAt B H (pkSetAt w g (k * 3) q) ⟨l.st, l.net.set k q⟩ m := by
  have hn := h.net
  rw [hv] at hn
  have h3 := (((hn.stored (k * 3) (.int .i64 (q.to_ : Int))).1.stored (k * 3 + 1) (.string (str q.s))).1.stored (k * 3 + 2) (.bool q.bad)).1
  refine h.netRow (by
    rw [hv]
    exact ⟨rfl, rfl, rfl, by simp [pkSetAt, World.setCell], fun b _ hb => by
      have hne : b ≠ g := fun e => hb (by rw [e]; rfl)
      unfold pkSetAt
      rw [Below.heap_setCell _ _ _ _ hne, Below.heap_setCell _ _ _ _ hne, Below.heap_setCell _ _ _ _ hne]⟩) ?_
  rw [hv, pkCells_set, List.length_set]
  exact h3
end Go.Proofs.Ytdhmkcomngbmaaa
