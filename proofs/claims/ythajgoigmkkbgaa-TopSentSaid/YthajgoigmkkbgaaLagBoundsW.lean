/- The walk of LagBounds. -/
import Derived.Test.YthajgoigmkkbgaaLagJudgesW
import Derived.Test.YthajgoigmkkbgaaQueO
import Derived.Test.YthajgoigmkkbgaaQueY
import Derived.Deep.CutRange
import Derived.Deep.CutBlock
namespace Go.Proofs.Ythajgoigmkkbgaa
open Go.Shelf Go.RowKit Go.Lib Go.Sort

/-- A queue's box and a bound's box, side by side. -/
structure LbAt (w : World) (P Pb : Nat) (b : Bd) (wd : World) (q : QuV) : Prop where
  qu : QuAt wd wd.heap.size q
  box : Four wd P (.slice q.A q.sets.length q.c) (.slice q.A2 q.opn.length q.c2) (.int .i64 q.frm) (.int .i64 q.to_) 27
  bd : Thr wd Pb (.int .i64 b.txns) (.int .i64 b.bytes) (.bool b.hold) 23
  bel : Below w.heap.size w wd
theorem LbAt.later {w wd w' : World} {P Pb : Nat} {b : Bd} {q : QuV} (h : LbAt w P Pb b wd q) (hb : Below wd.heap.size wd w') : LbAt w P Pb b w' q :=
  ⟨h.qu.next hb, h.box.kept hb, h.bd.kept hb, below_next h.bel hb⟩
theorem Thr.far {w : World} {H : Nat} {a b c : Value} {ty : TypeId} (h : Thr w H a b c ty) {p : Addr} (hp : H ≠ p.block) (v : Value) : Thr (w.setCell p v) H a b c ty := ⟨(Below.heap_setCell _ _ _ _ hp).trans h.blk⟩
theorem LbAt.store {w wd : World} {P Pb : Nat} {b : Bd} {q q3 : QuV} (h : LbAt w P Pb b wd q) (hq : QuAt wd wd.heap.size q3) (hne : Pb ≠ P) (hP : w.heap.size ≤ P) : LbAt w P Pb b ((((wd.setCell ⟨P, 0, none⟩ (.slice q3.A q3.sets.length q3.c)).setCell ⟨P, 1, none⟩ (.slice q3.A2 q3.opn.length q3.c2)).setCell ⟨P, 2, none⟩ (.int .i64 q3.frm)).setCell ⟨P, 3, none⟩ (.int .i64 q3.to_)) q3 := by
  have hm := (Moves.refl (fun k => k = P) wd).four (H := P) rfl (.slice q3.A q3.sets.length q3.c) (.slice q3.A2 q3.opn.length q3.c2) (.int .i64 q3.frm) (.int .i64 q3.to_)
  have hB : ∀ k, k = P → QBlk wd k := by rintro k rfl; exact QBlk.of h.box.blk
  exact ⟨(hq.turned hm hB).more hm.size, h.box.set _ _ _ _, (((h.bd.far (p := ⟨P, 0, none⟩) hne _).far (p := ⟨P, 1, none⟩) hne _).far (p := ⟨P, 2, none⟩) hne _).far (p := ⟨P, 3, none⟩) hne _, h.bel.trans (hm.below h.bel.size (by rintro k rfl; exact hP))⟩
theorem judge_ways {b : Bd} {q : Qu} (hb : bdOk b = true) (hq : quRight q = true) (ws : List Wr) : judgeB b q ws = 1 ∨ (judgeB b q ws = 2 ∧ b.hold = true) ∨ (judgeB b q ws = 3 ∧ b.hold = false) := by
  by_cases h : inBd b q ws
  · exact Or.inl (judge_take hb hq h)
  · rw [judge_out hb hq h]
    cases b.hold <;> simp
theorem LagSt.small {b : Bd} {q : QuV} {c n m : Nat} (h : LagSt b q.qu c n m) (hb : bdOk b = true) (hm : c * m ≤ 4000) (hn : n ≤ 400) : LagIn q := by
  have h1 := h.joined
  have h2 := h.bytes
  have h3 := (bdOk_iff b).1 hb
  rw [quJoined_is, List.length_append] at h1
  exact ⟨h.sm.fine rfl (by omega) hm, Nat.le_trans (h.sm.sets rfl) (by omega), by omega, by omega⟩

set_option maxHeartbeats 16000000 in
set_option maxRecDepth 100000 in
theorem LagBounds_walk {w : World} (b : Bd) {A1 A2 A3 : Option Addr} {c1 c2 c3 : Nat} {l : List (List Wr)} {cs ts : List Bool} (h1 : WlsAt w w.heap.size A1 l) (_ : l.length ≤ 9223372036854775807) (hx : ∀ x ∈ l, ∀ u ∈ x, u.data.size ≤ 140737488351232) (h2 : BolsAt w A2 cs) (_ : cs.length ≤ 9223372036854775807) (h3 : BolsAt w A3 ts) (_ : ts.length ≤ 9223372036854775807) :
    Calls Try.prog 4 #[b.val, .slice A1 l.length c1, .slice A2 cs.length c2, .slice A3 ts.length c3] w fun e w' => e = .returned (.bool true) ∧ Below w.heap.size w w' := by
  obtain ⟨V, hV⟩ : ∃ V, V = w.alloc (.cells #[.int .i64 b.txns, .int .i64 b.bytes, .bool b.hold] 23 (0, 0)) := ⟨_, rfl⟩
  have hbV : Below w.heap.size w V := by rw [hV]; exact below_one _ _
  have HX : Hid (Thr V w.heap.size (.int .i64 b.txns) (.int .i64 b.bytes) (.bool b.hold) 23) := Lib.hid (by rw [hV]; exact Thr.new _ _ _ _ _)
  have hsV : V.heap.size = w.heap.size + 1 := by rw [hV]; simp
  have HV := Lib.hid hV
  have HBV := Lib.hid hbV
  have HL1 := Lib.hid h1
  have HL2 := Lib.hid h2
  have HL3 := Lib.hid h3
  have HXs := Lib.hid hx
  have HR := Lib.hid (LRight_any b V)
  clear h1 h2 h3 hx hV hbV
  unfold Bd.val at HR ⊢
  have b0 := HX.out.c0
  have b1 := HX.out.c1
  have b2 := HX.out.c2
  cases hb : bdOk b with
  | false =>
    have HJ : Hid (∀ w, Calls Try.prog 10 #[.agg #[.int .i64 b.txns, .int .i64 b.bytes, .bool b.hold], .agg #[.slice none 0 0, .slice none 0 0, .int .i64 0, .int .i64 0], .slice none 0 0] w fun e w' => e = .returned (.int .i64 0) ∧ Below w.heap.size w w') := Lib.hid (fun w => by
      have t := Judge_any (w := w) (c3 := 0) b (q := ⟨none, 0, [], none, 0, [], 0, 0⟩) (A3 := none) (ws := []) ⟨SetsAt.nil _ _ _, .inl rfl, fun _ => rfl, fun _ => rfl⟩ ⟨by simp, by simp, by simp⟩ (by simp [joinS, plainS]) (.inl rfl) (by simp) (by show bytesW (quJoined ⟨[], [], 0, 0⟩) + bytesW [] ≤ _; simp [quJoined, bytesW])
      rw [judge_bad (fun k => by rw [hb] at k; cases k.1)] at t
      exact t)
    rw [hb] at HR
    clear hb hsV
    go_enter Try.func4, Try.ntmps4
    go_wp2_with fail
    rw [← HV.out]
    refine HR.out.mono ?_
    rintro e w1 ⟨rfl, hb1⟩
    have HX1 := Lib.hid (HX.out.kept hb1)
    have HB1 := Lib.hid (below_next HBV.out hb1)
    clear hb1 b0 b1 b2
    have b0 := HX1.out.c0
    have b1 := HX1.out.c1
    have b2 := HX1.out.c2
    go_wp2_with fail
    refine (HJ.out _).mono ?_
    rintro e w2 ⟨rfl, hb2⟩
    have HB2 := Lib.hid (below_next HB1.out hb2)
    clear hb2
    go_wp2_with fail
    refine (awake13_any _).mono ?_
    rintro e w3 ⟨rfl, hb3⟩
    have HB3 := Lib.hid (below_next HB2.out hb3)
    clear hb3
    go_wp2_with fail
    go_ret
    exact ⟨rfl, HB3.out⟩
  | true =>
  have HBk := Lib.hid hb
  have HBn := Lib.hid ((bdOk_iff b).1 hb)
  have HSt := Lib.hid (LagSt.start hb 10)
  rw [hb] at HR
  clear hb
  go_enter Try.func4, Try.ntmps4
  go_wp2_with fail
  rw [← HV.out]
  refine HR.out.mono ?_
  rintro e w1 ⟨rfl, hb1⟩
  have HX1 := Lib.hid (HX.out.kept hb1)
  have HB1 := Lib.hid (below_next HBV.out hb1)
  have HS1 : Hid (w.heap.size + 1 ≤ w1.heap.size) := Lib.hid (by have := hb1.size; omega)
  clear hb1 b0 b1 b2 hsV HR HX HBV HV
  go_wp2_with fail
  have HN := Lib.hid (QNew_any 0 w1)
  rw [new_zero.1, new_zero.2] at HN
  refine HN.out.mono ?_
  rintro e wn ⟨q0, hq0, rfl, hA, hb2⟩
  rw [← hq0] at HSt
  unfold QuV.val
  have HX2 := Lib.hid (HX1.out.kept hb2)
  have HB2 := Lib.hid (below_next HB1.out hb2)
  have HS2 : Hid (w.heap.size + 1 ≤ wn.heap.size) := Lib.hid (by have := hb2.size; have := HS1.out; omega)
  have HQ2 := Lib.hid hA
  clear hb2 hq0 hA HN HX1 HB1 HS1
  go_wp2_with fail
  obtain ⟨wp, hwp⟩ : ∃ V, V = wn.alloc (.cells #[.slice q0.A q0.sets.length q0.c, .slice q0.A2 q0.opn.length q0.c2, .int .i64 q0.frm, .int .i64 q0.to_] 27 (0, 0)) := ⟨_, rfl⟩
  have hbp : Below wn.heap.size wn wp := by rw [hwp]; exact below_one _ _
  have HA : Hid (LbAt w wn.heap.size w.heap.size b wp q0) := Lib.hid ⟨HQ2.out.next hbp, by rw [hwp]; exact Four.new _ _ _ _ _ _, HX2.out.kept hbp, below_next HB2.out hbp⟩
  rw [← hwp]
  clear hwp hbp HX2 HQ2 HB2
  obtain ⟨P, hP⟩ : ∃ P, wn.heap.size = P := ⟨_, rfl⟩
  obtain ⟨Pb, hPb⟩ : ∃ Pb, w.heap.size = Pb := ⟨_, rfl⟩
  have HNe : Hid (Pb ≠ P) := Lib.hid (by have := HS2.out; omega)
  have HPw : Hid (w.heap.size ≤ P) := Lib.hid (by have := HS2.out; omega)
  rw [hP] at HA ⊢
  have HA' : Hid (LbAt w P Pb b wp q0) := Lib.hid (by rw [← hPb]; exact HA.out)
  clear HA HS2 hP
  have hPb2 := hPb
  simp only [hPb]
  clear hPb hPb2
  go_loopg [11] 40 (fun kx s11 wr => ∃ (k : Nat) (q : QuV), s11 = .int .i64 k ∧ k ≤ 40 ∧ 40 - k ≤ kx ∧ Hid (LagSt b q.qu 10 k k) ∧ Hid (LbAt w P Pb b wr q))
  case atStart => exact ⟨0, q0, rfl, by omega, by omega, HSt, HA'⟩
  case round =>
    clear HSt HA'
    obtain ⟨k, q, rfl, hk40, hkx, HSt, HA⟩ := hrel
    have hwk : IntKind.i64.wrap ((k : Int) + 1) = (k : Int) + 1 := by rw [IntKind.wrap_i64]; omega
    by_cases hkn : k < l.length
    · have hknz : (k : Int) < (l.length : Int) := by omega
      by_cases hk4 : k < 40
      · have hk4z : (k : Int) < 40 := by omega
        obtain ⟨bl, off, ax, cx, hA1, hbw, hnx, hfar⟩ := HL1.out.far hkn
        have HXk := Lib.hid hfar
        have HNx := Lib.hid hnx
        have HXb : Hid (∀ u ∈ l[k], u.data.size ≤ 140737488351232) := Lib.hid (HXs.out _ (List.getElem_mem hkn))
        obtain ⟨x, hx⟩ : ∃ x, l[k] = x := ⟨_, rfl⟩
        rw [hx] at HXk HXb
        clear hfar hx hnx hbw
        subst hA1
        have lc := (HXk.out _ HA.out.bel).1
        by_cases h10 : x.length ≤ 10
        · have h10z : ¬ (10 : Int) < (x.length : Int) := by omega
          have HIn := Lib.hid (HSt.out.small HBk.out (by omega) (by omega))
          have HJ : Hid (∀ p : LatW wr, Calls Try.prog 10 #[.agg #[.int .i64 b.txns, .int .i64 b.bytes, .bool b.hold], .agg #[.slice q.A q.sets.length q.c, .slice q.A2 q.opn.length q.c2, .int .i64 q.frm, .int .i64 q.to_], .slice ax x.length cx] p.wd fun e w' => e = .returned (.int .i64 (judgeB b q.qu x)) ∧ Below p.wd.heap.size p.wd w') := Lib.hid (fun p => Judge_any (c3 := cx) b (HA.out.later p.bel).qu HIn.out.fine HIn.out.joined ((HXk.out _ (HA.out.later p.bel).bel).2.more (HA.out.later p.bel).bel.size) (Nat.le_trans h10 (by omega)) (by have := HIn.out.bytes; have := bytes_lot (Nat.le_trans h10 (by omega)) HXb.out; omega))
          have HWy := Lib.hid (judge_ways HBk.out ((quRight_iff _).2 HSt.out.ok) x)
          have HTk : Hid (judgeB b q.qu x = 1 → LagSt b (quAdd q.qu x) 10 k (k + 1)) := Lib.hid (fun e => HSt.out.add e h10 (by omega))
          obtain ⟨J, hJ⟩ : ∃ J, judgeB b q.qu x = J := ⟨_, rfl⟩
          rw [hJ] at HJ HWy HTk
          clear hJ
          go_upto_region 10 with fail
          have d0 := fun p : LatW wr => (HA.out.later p.bel).bd.c0
          have d1 := fun p : LatW wr => (HA.out.later p.bel).bd.c1
          have d2 := fun p : LatW wr => (HA.out.later p.bel).bd.c2
          have f0 := fun p : LatW wr => (HA.out.later p.bel).box.c0
          have f1 := fun p : LatW wr => (HA.out.later p.bel).box.c1
          have f2 := fun p : LatW wr => (HA.out.later p.bel).box.c2
          have f3 := fun p : LatW wr => (HA.out.later p.bel).box.c3
          have fl := fun p : LatW wr => (HXk.out _ (HA.out.later p.bel).bel).1
          clear lc
          refine wp_region_later (by kernel_rfl) (by kernel_rfl) ?_
          repeat (first | go_big_quiet_skip | quiet_step (first | (go_at_call 10; exact Calls.later_of (HJ.out _))) | (go_big_quiet_want; go_big_quiet_op; go_big_quiet_on))
          refine wpQuiet_nil ?_
          intro w9 hw9
          obtain ⟨p9, hw9'⟩ := hw9
          subst hw9'
          replace HA := Lib.hid (HA.out.later p9.bel)
          clear d0 d1 d2 f0 f1 f2 f3 fl HJ HIn
          obtain ⟨wa, hwa⟩ : ∃ wa, p9.wd = wa := ⟨_, rfl⟩
          rw [hwa] at HA ⊢
          clear hwa p9
          go_upto_block 2 with fail
          go_cut [10] from 53 to 74 (fun v10 wx => Hid (∃ q3 : QuV, LagSt b q3.qu 10 k (k + 1) ∧ LbAt w P Pb b wx q3))
          case first =>
            rcases HWy.out with rfl | ⟨rfl, hh⟩ | ⟨rfl, hh⟩
            · have HS3 := Lib.hid (HTk.out rfl)
              have HAq : Hid (∀ p : LatW wa, Calls Try.prog 15 #[.agg #[.slice q.A q.sets.length q.c, .slice q.A2 q.opn.length q.c2, .int .i64 q.frm, .int .i64 q.to_], .slice ax x.length cx] p.wd (QuErr (quAdd q.qu x) 0 p.wd)) := Lib.hid (fun p => by
                have t := QAdd_any (c3 := cx) (HA.out.later p.bel).qu (HSt.out.sm.fine rfl (by omega) (by omega)) ((HXk.out _ (HA.out.later p.bel).bel).2.more (HA.out.later p.bel).bel.size) (Nat.le_trans (HSt.out.sm.opn rfl) (by omega)) ⟨Nat.le_trans h10 (by omega), HNx.out⟩
                rw [(qadd_yes ((quRight_iff _).2 HSt.out.ok) (by have := HSt.out.to_; have e : q.qu.to_ = q.to_ := rfl; omega) x).1, (qadd_yes ((quRight_iff _).2 HSt.out.ok) (by have := HSt.out.to_; have e : q.qu.to_ = q.to_ := rfl; omega) x).2] at t
                exact t)
              unfold QuErr QuV.val at HAq
              have f0 := HA.out.box.c0
              have f1 := HA.out.box.c1
              have f2 := HA.out.box.c2
              have f3 := HA.out.box.c3
              have ff := HA.out.box.fr
              have lc := (HXk.out _ HA.out.bel).1
              have HAd := Lib.hid (HAq.out ⟨wa.drew, (Below.refl _ _).drew⟩)
              simp only at HAd
              clear HAq
              have hbd : Hid (Below wa.heap.size wa wa.drew) := Lib.hid (Below.refl _ _).drew
              go_upto_region 13 with fail
              go_region_law (first | (go_simp; go_at_call 15; refine HAd.out.mono ?_; rintro e w3 ⟨q3, hq3, rfl, hA3, hb3⟩; have HA3 := Lib.hid ((HA.out.later (hbd.out.trans (hb3.mono hbd.out.size))).store hA3 HNe.out HPw.out); have HF3 := Lib.hid (HA.out.later (hbd.out.trans (hb3.mono hbd.out.size))).box; have u0 := HF3.out.c0; have u1 := HF3.out.c1; have u2 := HF3.out.c2; have u3 := HF3.out.c3; have uf := HF3.out.fr; clear hA3 hb3; dsimp only))
              all_goals
                go_wp2_with fail
                go_meet
                case rel => exact Lib.hid ⟨q3, by rw [hq3]; exact HS3.out, HA3.out⟩
            · have d2 := HA.out.bd.c2
              rw [hh] at d2
              clear hh
              go_wp2_with fail
              go_meet
              case rel => exact Lib.hid ⟨q, HSt.out.more (Nat.le_refl _) (Nat.le_succ _), HA.out⟩
            · have d2 := HA.out.bd.c2
              rw [hh] at d2
              clear hh
              go_wp2_with fail
              go_meet
              case rel => exact Lib.hid ⟨q, HSt.out.more (Nat.le_refl _) (Nat.le_succ _), HA.out⟩
          case rest =>
            clear HA HSt HTk HWy
            obtain ⟨q3, hS3, hA3⟩ := hcut.out
            have HS3 := Lib.hid hS3
            have HA3 := Lib.hid hA3
            clear hcut hS3 hA3
            obtain ⟨wA, hwA⟩ : ∃ wA, wA = wc := ⟨_, rfl⟩
            subst hwA
            go_upto_region 22 with fail
            go_cut [91] from 75 to 91 (fun v wx => (∃ bb : Bool, v = .bool bb ∧ (bb = true → q3.frm < q3.to_)) ∧ wx = wA)
            case first =>
              have f2 := HA3.out.box.c2
              have f3 := HA3.out.box.c3
              by_cases hkc : k < cs.length
              · have hkcz : (k : Int) < (cs.length : Int) := by omega
                obtain ⟨b2, oo, hA2, hcf⟩ := HL2.out.far hkc
                have lb := hcf _ HA3.out.bel
                subst hA2
                clear hcf
                cases hcb : cs[k] with
                | false =>
                  rw [hcb] at lb
                  clear hcb
                  go_wp2_with fail
                  go_meet
                  case rel => exact ⟨⟨_, rfl, fun e => (by cases e)⟩, rfl⟩
                | true =>
                  rw [hcb] at lb
                  clear hcb
                  go_wp2_with fail
                  go_meet
                  case rel => exact ⟨⟨_, rfl, fun e => (by have := of_decide_eq_true e; omega)⟩, rfl⟩
              · have hkcz : ¬ (k : Int) < (cs.length : Int) := by omega
                go_wp2_with fail
                go_meet
                case rel => exact ⟨⟨_, rfl, fun e => (by cases e)⟩, rfl⟩
            case rest =>
              obtain ⟨⟨bb, rfl, hbb⟩, rfl⟩ := hcut
              go_upto_if 91 with fail
              go_cut [92] from 92 to 96 (fun v wx => Hid (∃ q4 : QuV, LagSt b q4.qu 10 (k + 1) (k + 1) ∧ LbAt w P Pb b wx q4))
              case first =>
                cases bb with
                | false =>
                  go_wp2_with fail
                  go_meet
                  case rel => exact Lib.hid ⟨q3, HS3.out.more (Nat.le_succ _) (Nat.le_refl _), HA3.out⟩
                | true =>
                  have hlt := hbb rfl
                  have HCq : Hid (Calls Try.prog 16 #[.agg #[.slice q3.A q3.sets.length q3.c, .slice q3.A2 q3.opn.length q3.c2, .int .i64 q3.frm, .int .i64 q3.to_]] wc (QuErr (quCut q3.qu) 0 wc)) := Lib.hid (by
                    have t := QCut_any HA3.out.qu (HS3.out.sm.fine rfl (by omega) (by omega)) (Nat.le_trans (HS3.out.sm.sets rfl) (by omega))
                    rw [(qcut_yes ((quRight_iff _).2 HS3.out.ok) (by have e1 : q3.qu.to_ = q3.to_ := rfl; have e2 : q3.qu.frm = q3.frm := rfl; omega)).1, (qcut_yes ((quRight_iff _).2 HS3.out.ok) (by have e1 : q3.qu.to_ = q3.to_ := rfl; have e2 : q3.qu.frm = q3.frm := rfl; omega)).2] at t
                    exact t)
                  have HS4 := Lib.hid (HS3.out.cut (by have e1 : q3.qu.to_ = q3.to_ := rfl; have e2 : q3.qu.frm = q3.frm := rfl; omega))
                  unfold QuErr QuV.val at HCq
                  have f0 := HA3.out.box.c0
                  have f1 := HA3.out.box.c1
                  have f2 := HA3.out.box.c2
                  have f3 := HA3.out.box.c3
                  go_wp2_with fail
                  refine HCq.out.mono ?_
                  rintro e w4 ⟨q4, hq4, rfl, hA4, hb4⟩
                  have HF4 := Lib.hid (HA3.out.later hb4).box
                  have HA4 := Lib.hid ((HA3.out.later hb4).store hA4 HNe.out HPw.out)
                  clear f0 f1 f2 f3 hA4 hb4
                  have u0 := HF4.out.c0
                  have u1 := HF4.out.c1
                  have u2 := HF4.out.c2
                  have u3 := HF4.out.c3
                  have uf := HF4.out.fr
                  go_wp2_with fail
                  go_meet
                  case rel => exact Lib.hid ⟨q4, by rw [hq4]; exact HS4.out, HA4.out⟩
              case rest =>
                clear HA3 HS3 hbb
                obtain ⟨q4, hS4, hA4⟩ := hcut.out
                have HS4 := Lib.hid hS4
                have HA4 := Lib.hid hA4
                clear hcut hS4 hA4
                obtain ⟨wB, hwB⟩ : ∃ wB, wB = wc := ⟨_, rfl⟩
                subst hwB
                go_upto_region 24 with fail
                go_cut [112] from 97 to 112 (fun v wx => (∃ bb : Bool, v = .bool bb ∧ (bb = true → q4.sets ≠ [])) ∧ wx = wB)
                case first =>
                  by_cases hkc : k < ts.length
                  · have hkcz : (k : Int) < (ts.length : Int) := by omega
                    obtain ⟨b3, oo, hA3, hcf⟩ := HL3.out.far hkc
                    have lb := hcf _ HA4.out.bel
                    subst hA3
                    clear hcf
                    cases hcb : ts[k] with
                    | false =>
                      rw [hcb] at lb
                      clear hcb
                      go_wp2_with fail
                      go_meet
                      case rel => exact ⟨⟨_, rfl, fun e => (by cases e)⟩, rfl⟩
                    | true =>
                      rw [hcb] at lb
                      clear hcb
                      by_cases hnl : q4.sets = []
                      · have hn0 : q4.sets.length = 0 := by rw [hnl]; rfl
                        have hF := HA4.out.box
                        rw [hn0] at hF
                        have pc0 := hF.c0
                        clear hF
                        go_wp2_with fail
                        go_meet
                        case rel => exact ⟨⟨_, rfl, fun e => (by cases e)⟩, rfl⟩
                      · obtain ⟨n1, hn1⟩ : ∃ n1, q4.sets.length = n1 + 1 := ⟨q4.sets.length - 1, by have := List.length_pos_iff.2 hnl; omega⟩
                        have hF := HA4.out.box
                        rw [hn1] at hF
                        have pc0 := hF.c0
                        clear hF
                        have hnp : (0 : Int) < (n1 : Int) + 1 := by omega
                        go_wp2_with fail
                        go_meet
                        case rel => exact ⟨⟨_, rfl, fun _ => hnl⟩, rfl⟩
                  · have hkcz : ¬ (k : Int) < (ts.length : Int) := by omega
                    go_wp2_with fail
                    go_meet
                    case rel => exact ⟨⟨_, rfl, fun e => (by cases e)⟩, rfl⟩
                case rest =>
                  obtain ⟨⟨bb, rfl, hne⟩, rfl⟩ := hcut
                  go_upto_if 112 with fail
                  go_cut [113] from 113 to 122 (fun v wx => Hid (∃ q5 : QuV, LagSt b q5.qu 10 (k + 1) (k + 1) ∧ LbAt w P Pb b wx q5))
                  case first =>
                    cases bb with
                    | false =>
                      go_wp2_with fail
                      go_meet
                      case rel => exact Lib.hid ⟨q4, HS4.out, HA4.out⟩
                    | true =>
                      replace hne := hne rfl
                      obtain ⟨A, c, ls, B2, d2, op, fr, tq⟩ := q4
                      cases ls with
                      | nil => exact absurd rfl hne
                      | cons s r =>
                        have HDq : Hid (∀ (p : LatW wc) (m : Int), Calls Try.prog 17 #[.agg #[.slice A (s :: r).length c, .slice B2 op.length d2, .int .i64 fr, .int .i64 tq], .int .i64 m] p.wd (QuErr (quDone (QuV.qu ⟨A, c, s :: r, B2, d2, op, fr, tq⟩) m) 0 p.wd)) := Lib.hid (fun p m => by
                          have t := QDone_any m (HA4.out.later p.bel).qu (HS4.out.sm.fine rfl (by omega) (by omega)) (Nat.le_trans (HS4.out.sm.sets rfl) (by omega))
                          rw [(qdone_yes ((quRight_iff _).2 HS4.out.ok) m).1, (qdone_yes ((quRight_iff _).2 HS4.out.ok) m).2] at t
                          exact t)
                        unfold QuErr QuV.val at HDq
                        have HSe : Hid (∀ p : LatW wc, ∃ sb so, A = some ⟨sb, so, none⟩ ∧ p.wd.cell? ⟨sb, so, none⟩ = some (.int .i64 s.frm) ∧ p.wd.cell? ⟨sb, so + 1, none⟩ = some (.int .i64 s.to_) ∧ p.wd.cell? ⟨sb, so + 2, none⟩ = some (.slice s.a s.ws.length s.c)) := Lib.hid (fun p => by
                          obtain ⟨sb, so, hsA, hsl, y1, y2, y3, y4, y5⟩ := (HA4.out.later p.bel).qu.sets.at_ (Below.refl _ _) (i := 0) (by simp)
                          simp only [Nat.zero_mul, Nat.add_zero, List.getElem_cons_zero] at y1 y2 y3 hsA
                          exact ⟨sb, so, hsA, y1, y2, y3⟩)
                        obtain ⟨sb, so, hsA, -, -, -⟩ := HSe.out ⟨wc, Below.refl _ _⟩
                        subst hsA
                        have HS1 : Hid (∀ p : LatW wc, p.wd.cell? ⟨sb, so + 1, none⟩ = some (.int .i64 s.to_)) := Lib.hid (fun p => by
                          obtain ⟨sb', so', e, _, h, _⟩ := HSe.out p
                          simp only [Option.some.injEq, Addr.mk.injEq] at e
                          obtain ⟨rfl, rfl, -⟩ := e
                          exact h)
                        clear HSe
                        have HF := Lib.hid HA4.out.box
                        have HD5 : Hid (∀ m, LagSt b (quDone (QuV.qu ⟨some ⟨sb, so, none⟩, c, s :: r, B2, d2, op, fr, tq⟩) m) 10 (k + 1) (k + 1)) := Lib.hid (fun m => HS4.out.done m)
                        obtain ⟨nn, hnn⟩ : ∃ nn, (s :: r).length = nn + 1 := ⟨r.length, rfl⟩
                        have hn1 : (0 : Int) < (nn : Int) + 1 := by omega
                        have hnp : decide (0 < nn + 1) = true := by simp
                        simp only at HF
                        rw [hnn] at HF HDq
                        have f0 := HF.out.c0
                        have f1 := HF.out.c1
                        have f2 := HF.out.c2
                        have f3 := HF.out.c3
                        have ff := HF.out.fr
                        have y1 := HS1.out ⟨wc, Below.refl _ _⟩
                        simp only at y1
                        have HDd := Lib.hid (HDq.out ⟨wc.drew, (Below.refl _ _).drew⟩)
                        simp only at HDd
                        clear HDq
                        have hbd : Hid (Below wc.heap.size wc wc.drew) := Lib.hid (Below.refl _ _).drew
                        go_upto_region 25 with fail
                        go_region_law (first | (go_simp; go_at_call 17; refine (HDd.out _).mono ?_; rintro e w3 ⟨q5, hq5, rfl, hA5, hb5⟩; have HL5 := Lib.hid (HA4.out.later (hbd.out.trans (hb5.mono hbd.out.size))); have HA5 := Lib.hid (HL5.out.store hA5 HNe.out HPw.out); have HF5 : Hid (Four w3 P (.slice (some ⟨sb, so, none⟩) (nn + 1) c) (.slice B2 op.length d2) (.int .i64 fr) (.int .i64 tq) 27) := Lib.hid (by have t := HL5.out.box; simp only at t; rw [hnn] at t; exact t); have u0 := HF5.out.c0; have u1 := HF5.out.c1; have u2 := HF5.out.c2; have u3 := HF5.out.c3; have uf := HF5.out.fr; clear hA5 hb5; dsimp only))
                        all_goals
                          go_wp2_with fail
                          go_meet
                          case rel => exact Lib.hid ⟨q5, by rw [hq5]; exact HD5.out _, HA5.out⟩
                  case rest =>
                    clear HA4 HS4 hne
                    obtain ⟨q5, hS5, hA5⟩ := hcut.out
                    have HS5 := Lib.hid hS5
                    have HA5 := Lib.hid hA5
                    clear hcut hS5 hA5
                    have HIn := Lib.hid (HS5.out.small HBk.out (by omega) (by omega))
                    have HLo := Lib.hid HS5.out.load
                    obtain ⟨N5, hN5⟩ : ∃ N, qLoadN q5.qu = N := ⟨_, rfl⟩
                    obtain ⟨M5, hM5⟩ : ∃ M, qLoadB q5.qu = M := ⟨_, rfl⟩
                    have HLd : Hid (Calls Try.prog 18 #[.agg #[.slice q5.A q5.sets.length q5.c, .slice q5.A2 q5.opn.length q5.c2, .int .i64 q5.frm, .int .i64 q5.to_]] wc fun e w' => e = .returned (.tuple #[.int .i64 N5, .int .i64 M5]) ∧ Below wc.heap.size wc w') := Lib.hid (by
                      have t := QLoad_any HA5.out.qu HIn.out.fine HIn.out.joined (by have := HIn.out.bytes; omega)
                      rw [hN5, hM5] at t
                      exact t)
                    have hn5 : ¬ b.txns < N5 := by have := HLo.out.1; omega
                    have hm5 : ¬ b.bytes < M5 := by have := HLo.out.2.1; omega
                    clear hN5 hM5
                    have f0 := HA5.out.box.c0
                    have f1 := HA5.out.box.c1
                    have f2 := HA5.out.box.c2
                    have f3 := HA5.out.box.c3
                    go_wp2_with fail
                    refine HLd.out.mono ?_
                    rintro e w6 ⟨rfl, hb6⟩
                    replace HA5 := Lib.hid (HA5.out.later hb6)
                    clear f0 f1 f2 f3 hb6 HLd
                    have HRq : Hid (Calls Try.prog 19 #[.agg #[.slice q5.A q5.sets.length q5.c, .slice q5.A2 q5.opn.length q5.c2, .int .i64 q5.frm, .int .i64 q5.to_]] w6 fun e w' => e = .returned (.bool true) ∧ Below w6.heap.size w6 w') := Lib.hid (by
                      have t := QRight_any HA5.out.qu HIn.out.fine.sets HIn.out.fine.each HIn.out.fine.opn
                      rw [HLo.out.2.2] at t
                      exact t)
                    have f0 := HA5.out.box.c0
                    have f1 := HA5.out.box.c1
                    have f2 := HA5.out.box.c2
                    have f3 := HA5.out.box.c3
                    have d0 := HA5.out.bd.c0
                    have d1 := HA5.out.bd.c1
                    clear HLo
                    go_wp2_with fail
                    refine HRq.out.mono ?_
                    rintro e w7 ⟨rfl, hb7⟩
                    replace HA5 := Lib.hid (HA5.out.later hb7)
                    clear f0 f1 f2 f3 d0 d1 hb7 HRq
                    go_wp2_with fail
                    go_roundg (40 - (k + 1))
                    case measure => omega
                    case rel => exact ⟨k + 1, q5, by go_num, by omega, Nat.le_refl _, HS5, HA5⟩
        · have h10z : (10 : Int) < (x.length : Int) := by omega
          go_wp2_with fail
          go_roundg (40 - (k + 1))
          case measure => omega
          case rel => exact ⟨k + 1, q, by go_num, by omega, Nat.le_refl _, Lib.hid (HSt.out.more (Nat.le_succ _) (Nat.le_succ _)), HA⟩
      · have hk4z : ¬ (k : Int) < 40 := by omega
        go_wp2_with fail
        refine (awake13_any _).mono ?_
        rintro e w3 ⟨rfl, hb3⟩
        have HB3 := Lib.hid (HA.out.later hb3).bel
        clear hb3
        go_wp2_with fail
        go_ret
        exact ⟨rfl, HB3.out⟩
    · have hknz : ¬ (k : Int) < (l.length : Int) := by omega
      go_wp2_with fail
      refine (awake13_any _).mono ?_
      rintro e w3 ⟨rfl, hb3⟩
      have HB3 := Lib.hid (HA.out.later hb3).bel
      clear hb3
      go_wp2_with fail
      go_ret
      exact ⟨rfl, HB3.out⟩
end Go.Proofs.Ythajgoigmkkbgaa
