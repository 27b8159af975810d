/- The walk of QueueCarries. -/
import Derived.Test.YtpmllckfijfehaaQueY
import Derived.Test.YtpmllckfijfehaaQueZ
import Derived.Deep.CutRange
namespace Go.Proofs.Ytpmllckfijfehaa
open Go.Shelf Go.RowKit Go.Lib Go.Sort

/-- A queue is stored into its box. -/
theorem box_store {w w3 : World} {P : Nat} {q q3 : QuV} {A5 At : Option Addr} {zs there : List Vl} (hq : QuAt w3 w3.heap.size q3) (hf : Four w3 P (.slice q.A q.sets.length q.c) (.slice q.A2 q.opn.length q.c2) (.int .i64 q.frm) (.int .i64 q.to_) 25) (h5 : VolsAt w3 w3.heap.size A5 zs) (ht : VolsAt w3 w3.heap.size At there) (hb : Below w.heap.size w w3) (hP : w.heap.size ≤ P) :
    QuAt ((((w3.setCell ⟨P, 0, none⟩ (.slice q3.A q3.sets.length q3.c)).setCell ⟨P, 1, none⟩ (.slice q3.A2 q3.opn.length q3.c2)).setCell ⟨P, 2, none⟩ (.int .i64 q3.frm)).setCell ⟨P, 3, none⟩ (.int .i64 q3.to_)) ((((w3.setCell ⟨P, 0, none⟩ (.slice q3.A q3.sets.length q3.c)).setCell ⟨P, 1, none⟩ (.slice q3.A2 q3.opn.length q3.c2)).setCell ⟨P, 2, none⟩ (.int .i64 q3.frm)).setCell ⟨P, 3, none⟩ (.int .i64 q3.to_)).heap.size q3 ∧ Four ((((w3.setCell ⟨P, 0, none⟩ (.slice q3.A q3.sets.length q3.c)).setCell ⟨P, 1, none⟩ (.slice q3.A2 q3.opn.length q3.c2)).setCell ⟨P, 2, none⟩ (.int .i64 q3.frm)).setCell ⟨P, 3, none⟩ (.int .i64 q3.to_)) P (.slice q3.A q3.sets.length q3.c) (.slice q3.A2 q3.opn.length q3.c2) (.int .i64 q3.frm) (.int .i64 q3.to_) 25 ∧ VolsAt ((((w3.setCell ⟨P, 0, none⟩ (.slice q3.A q3.sets.length q3.c)).setCell ⟨P, 1, none⟩ (.slice q3.A2 q3.opn.length q3.c2)).setCell ⟨P, 2, none⟩ (.int .i64 q3.frm)).setCell ⟨P, 3, none⟩ (.int .i64 q3.to_)) ((((w3.setCell ⟨P, 0, none⟩ (.slice q3.A q3.sets.length q3.c)).setCell ⟨P, 1, none⟩ (.slice q3.A2 q3.opn.length q3.c2)).setCell ⟨P, 2, none⟩ (.int .i64 q3.frm)).setCell ⟨P, 3, none⟩ (.int .i64 q3.to_)).heap.size A5 zs ∧ VolsAt ((((w3.setCell ⟨P, 0, none⟩ (.slice q3.A q3.sets.length q3.c)).setCell ⟨P, 1, none⟩ (.slice q3.A2 q3.opn.length q3.c2)).setCell ⟨P, 2, none⟩ (.int .i64 q3.frm)).setCell ⟨P, 3, none⟩ (.int .i64 q3.to_)) ((((w3.setCell ⟨P, 0, none⟩ (.slice q3.A q3.sets.length q3.c)).setCell ⟨P, 1, none⟩ (.slice q3.A2 q3.opn.length q3.c2)).setCell ⟨P, 2, none⟩ (.int .i64 q3.frm)).setCell ⟨P, 3, none⟩ (.int .i64 q3.to_)).heap.size At there ∧ Below w.heap.size w ((((w3.setCell ⟨P, 0, none⟩ (.slice q3.A q3.sets.length q3.c)).setCell ⟨P, 1, none⟩ (.slice q3.A2 q3.opn.length q3.c2)).setCell ⟨P, 2, none⟩ (.int .i64 q3.frm)).setCell ⟨P, 3, none⟩ (.int .i64 q3.to_)) := by
  have hm := (Moves.refl (fun k => k = P) w3).four (H := P) rfl (.slice q3.A q3.sets.length q3.c) (.slice q3.A2 q3.opn.length q3.c2) (.int .i64 q3.frm) (.int .i64 q3.to_)
  have hB : ∀ k, k = P → QBlk w3 k := by rintro k rfl; exact QBlk.of hf.blk
  exact ⟨(hq.turned hm hB).more hm.size, hf.set _ _ _ _, (h5.turned hm hB).more hm.size, (ht.turned hm hB).more hm.size, hb.trans (hm.below hb.size (by rintro k rfl; exact hP))⟩

set_option maxHeartbeats 16000000 in
set_option maxRecDepth 100000 in
theorem QueueCarries_walk {w : World} {A0 A1 A2 A3 : Option Addr} {c0 c1 c2 c3 : Nat} {vs : List Vl} {l : List (List Wr)} {cs ts : List Bool} (h0 : VolsAt w w.heap.size A0 vs) (f0 : VolsFit vs) (h1 : WlsAt w w.heap.size A1 l) (_ : l.length ≤ 9223372036854775807) (h2 : BolsAt w A2 cs) (_ : cs.length ≤ 9223372036854775807) (h3 : BolsAt w A3 ts) (_ : ts.length ≤ 9223372036854775807) :
    Calls Try.prog 6 #[.slice A0 vs.length c0, .slice A1 l.length c1, .slice A2 cs.length c2, .slice A3 ts.length c3] w fun e w' => e = .returned (.bool true) ∧ Below w.heap.size w w' := by
  have HB := Lib.hid (Below.refl w.heap.size w)
  have HVov := Lib.hid h0
  have HFv := Lib.hid f0
  have HL1 := Lib.hid h1
  have HL2 := Lib.hid h2
  have HL3 := Lib.hid h3
  clear h0 h1 h2 h3 f0
  cases hsm : smallB vs 0 with
  | false =>
    have HSm := Lib.hid hsm
    clear hsm
    go_enter Try.func6, Try.ntmps6
    go_wp2_with fail
    refine (Small_any HVov.out HFv.out none 0 0).mono ?_
    rw [HSm.out]
    rintro e w' ⟨rfl, rfl⟩
    go_wp2_with fail
    refine (awake12_any _).mono ?_
    rintro e w1 ⟨rfl, hb⟩
    replace HVov := Lib.hid (HVov.out.next hb)
    replace HB := Lib.hid (below_next HB.out hb)
    clear hb
    go_wp2_with fail
    go_ret
    exact ⟨rfl, HB.out⟩
  | true =>
  have HSm := Lib.hid hsm
  clear hsm
  cases hr : rightB vs with
  | false =>
    have HR := Lib.hid hr
    clear hr
    go_enter Try.func6, Try.ntmps6
    go_wp2_with fail
    refine (Small_any HVov.out HFv.out none 0 0).mono ?_
    rw [HSm.out]
    rintro e w' ⟨rfl, rfl⟩
    have HL := Lib.hid (RefRight_any (c := c0) HVov.out HFv.out)
    rw [HR.out] at HL
    go_wp2_with fail
    refine (HL.out).mono ?_
    rintro e w1 ⟨rfl, hb⟩
    replace HVov := Lib.hid (HVov.out.next hb)
    replace HB := Lib.hid (below_next HB.out hb)
    clear hb
    clear HL
    go_wp2_with fail
    refine (awake12_any _).mono ?_
    rintro e w2 ⟨rfl, hb⟩
    replace HVov := Lib.hid (HVov.out.next hb)
    replace HB := Lib.hid (below_next HB.out hb)
    clear hb
    go_wp2_with fail
    go_ret
    exact ⟨rfl, HB.out⟩
  | true =>
  have HR := Lib.hid hr
  have HSt := Lib.hid (CarSt.start hr)
  clear hr
  go_enter Try.func6, Try.ntmps6
  go_wp2_with fail
  refine (Small_any HVov.out HFv.out none 0 0).mono ?_
  rw [HSm.out]
  rintro e w' ⟨rfl, rfl⟩
  have HL := Lib.hid (RefRight_any (c := c0) HVov.out HFv.out)
  rw [HR.out] at HL
  go_wp2_with fail
  refine (HL.out).mono ?_
  rintro e w1 ⟨rfl, hb⟩
  replace HVov := Lib.hid (HVov.out.next hb)
  replace HB := Lib.hid (below_next HB.out hb)
  clear hb
  clear HL
  have HL := Lib.hid (QNew_any 0 w1)
  rw [new_zero.1, new_zero.2] at HL
  go_wp2_with fail
  refine HL.out.mono ?_
  rintro e wn ⟨q0, hq0, rfl, hA, hb⟩
  replace HVov := Lib.hid (HVov.out.next hb)
  replace HB := Lib.hid (below_next HB.out hb)
  have HQq := Lib.hid hA
  clear hb hA HL
  rw [← hq0] at HSt
  clear hq0
  unfold QuV.val
  go_wp2_with fail
  have HPw : Hid (w.heap.size ≤ wn.heap.size) := Lib.hid HB.out.size
  obtain ⟨wp, hwp⟩ : ∃ V, V = wn.alloc (.cells #[.slice q0.A q0.sets.length q0.c, .slice q0.A2 q0.opn.length q0.c2, .int .i64 q0.frm, .int .i64 q0.to_] 25 (0, 0)) := ⟨_, rfl⟩
  have hb : Below wn.heap.size wn wp := by rw [hwp]; exact below_one _ _
  have HFp : Hid (Four wp wn.heap.size (.slice q0.A q0.sets.length q0.c) (.slice q0.A2 q0.opn.length q0.c2) (.int .i64 q0.frm) (.int .i64 q0.to_) 25) := Lib.hid (by rw [hwp]; exact Four.new _ _ _ _ _ _)
  rw [← hwp]
  replace HQq := Lib.hid (HQq.out.next hb)
  replace HVov := Lib.hid (HVov.out.next hb)
  replace HB := Lib.hid (below_next HB.out hb)
  clear hb hwp
  generalize wn.heap.size = P at HFp HPw ⊢
  go_loopg [11, 12, 13, 14] 30 (fun kx s11 s12 s13 s14 wr => ∃ (k : Nat) (q : QuV) (there now : List Vl) (At An : Option Addr) (ct cn : Nat) (done : Int), s11 = .slice An now.length cn ∧ s12 = .slice At there.length ct ∧ s13 = .int .i64 done ∧ s14 = .int .i64 k ∧ k ≤ 30 ∧ 30 - k ≤ kx ∧ Hid (CarSt q.qu there now done k k) ∧ Hid (QuAt wr wr.heap.size q) ∧ Hid (Four wr P (.slice q.A q.sets.length q.c) (.slice q.A2 q.opn.length q.c2) (.int .i64 q.frm) (.int .i64 q.to_) 25) ∧ Hid (VolsAt wr wr.heap.size An now) ∧ Hid (VolsAt wr wr.heap.size At there) ∧ Hid (VolsFit now ∧ VolsFit there) ∧ Hid (Below w.heap.size w wr))
  case atStart => exact ⟨0, q0, vs, vs, A0, A0, c0, c0, 0, rfl, rfl, rfl, rfl, by omega, by omega, HSt, HQq, HFp, HVov, HVov, Lib.hid ⟨HFv.out, HFv.out⟩, HB⟩
  case round =>
    clear HSt HQq HFp HVov HB
    obtain ⟨k, q, there, now, At, An, ct, cn, done, rfl, rfl, rfl, rfl, hk30, hkx, HSt, HQq, HFp, HVon, HVot, HFt, HB⟩ := hrel
    by_cases hkn : k < l.length
    · by_cases hk3 : k < 30
      · skip
        have hknz : (k : Int) < (l.length : Int) := by omega
        have hk3z : (k : Int) < 30 := by omega
        have hk0 : (0 : Int) ≤ (k : Int) := Int.natCast_nonneg _
        have hwk : IntKind.i64.wrap ((k : Int) + 1) = (k : Int) + 1 := by rw [IntKind.wrap_i64]; omega
        obtain ⟨b, off, ax, cx, hA, hbw, hnx, hfar⟩ := HL1.out.far hkn
        have HXk := Lib.hid hfar
        have HNx := Lib.hid hnx
        clear hnx
        obtain ⟨x, hx⟩ : ∃ x, l[k] = x := ⟨_, rfl⟩
        rw [hx] at HXk
        clear hfar hx
        subst hA
        have HAl : Hid (b < w.heap.size) := Lib.hid hbw
        clear hbw
        by_cases h10 : x.length ≤ 10
        · have h10z : ¬ (10 : Int) < (x.length : Int) := by omega
          have lc := (HXk.out _ HB.out).1
          have HA := Lib.hid (Apply_any (c := cn) (c2 := cx) HVon.out HFt.out.1 ((HXk.out _ HB.out).2.more HB.out.size) (Nat.le_trans h10 (by omega)))
          obtain ⟨E, hE⟩ : ∃ E, checkE now x = E := ⟨_, rfl⟩
          rw [hE] at HA
          go_wp2_with fail
          refine HA.out.mono ?_
          rintro e w2 ⟨A5, c5, rfl, h5, hb⟩
          clear lc
          replace HFp := Lib.hid (HFp.out.kept hb)
          replace HQq := Lib.hid (HQq.out.next hb)
          replace HVon := Lib.hid (HVon.out.next hb)
          replace HVot := Lib.hid (HVot.out.next hb)
          replace HB := Lib.hid (below_next HB.out hb)
          have HVoz := Lib.hid h5
          clear hb h5 HA
          by_cases hE0 : E = 0
          · subst hE0
            have hE1 := hE
            have HCk := Lib.hid hE1
            clear hE1 hE
            have HS2 := Lib.hid (HSt.out.add HCk.out h10 (by omega))
            have HFz : Hid (VolsFit (applyV now x)) := Lib.hid fit_applyQ
            have hdr : Below w2.heap.size w2 w2.drew := (Below.refl _ _).drew
            have HAd := Lib.hid (QAdd_any (c3 := cx) (HQq.out.next hdr) (HSt.out.sm.fine rfl (by omega) (by omega)) (((HXk.out _ HB.out).2.more HB.out.size).next hdr) (Nat.le_trans (HSt.out.sm.opn rfl) (by omega)) ⟨Nat.le_trans h10 (by omega), HNx.out⟩)
            rw [(qadd_yes HSt.out.all.1 (by have := HSt.out.to_; have e : q.qu.to_ = q.to_ := rfl; omega) x).1, (qadd_yes HSt.out.all.1 (by have := HSt.out.to_; have e : q.qu.to_ = q.to_ := rfl; omega) x).2] at HAd
            unfold QuErr QuV.val at HAd
            have HFd := Lib.hid (HFp.out.kept hdr)
            have HVzd := Lib.hid (HVoz.out.next hdr)
            have HVtd := Lib.hid (HVot.out.next hdr)
            have HBd := Lib.hid (below_next HB.out hdr)
            go_wp2_with fail
            go_cut [10] from 65 to 73 (fun v wc => v = .int .i64 0 ∧ Hid (∃ q3 : QuV, q3.qu = quAdd q.qu x ∧ QuAt wc wc.heap.size q3 ∧ Four wc P (.slice q3.A q3.sets.length q3.c) (.slice q3.A2 q3.opn.length q3.c2) (.int .i64 q3.frm) (.int .i64 q3.to_) 25 ∧ VolsAt wc wc.heap.size A5 (applyV now x) ∧ VolsAt wc wc.heap.size At there ∧ Below w.heap.size w wc))
            case first =>
              have pc0 := HFp.out.c0
              have pc1 := HFp.out.c1
              have pc2 := HFp.out.c2
              have pc3 := HFp.out.c3
              have lc := (HXk.out _ HB.out).1
              go_region_law (first | (go_simp; go_at_call 11; refine HAd.out.mono ?_; rintro e w3 ⟨q3, hq3, rfl, hA3, hb3⟩; have HF3 := Lib.hid (HFd.out.kept hb3); have u0 := HF3.out.c0; have u1 := HF3.out.c1; have u2 := HF3.out.c2; have u3 := HF3.out.c3; have uf := HF3.out.fr; have HA3 := Lib.hid (box_store hA3 HF3.out (HVzd.out.next hb3) (HVtd.out.next hb3) (below_next HBd.out hb3) HPw.out); clear hA3 hb3; dsimp only))
              all_goals
                go_wp2_with fail
                go_meet
                case rel => exact ⟨rfl, Lib.hid ⟨q3, hq3, HA3.out⟩⟩
            case rest =>
              clear HAd HFd HVzd HVtd HBd hdr HQq HFp HVon HVot HVoz HB
              obtain ⟨rfl, HC⟩ := hcut
              obtain ⟨q3, hq3, hA, hF, h5, ht, hB⟩ := HC.out
              clear HC
              have HQq := Lib.hid hA
              have HFp := Lib.hid hF
              have HVoz := Lib.hid h5
              have HVot := Lib.hid ht
              have HB := Lib.hid hB
              have HS3 : Hid (CarSt q3.qu there (applyV now x) done k (k + 1)) := Lib.hid (by rw [hq3]; exact HS2.out)
              have HNe : Hid (q3.qu.to_ ≠ q3.qu.frm) := Lib.hid (by rw [hq3]; have h1 : q.qu.frm ≤ q.qu.to_ := HSt.out.ok.2.2.2.2.1; show q.qu.to_ + 1 ≠ q.qu.frm; omega)
              clear hA hF h5 ht hB hq3 HS2
              obtain ⟨zs, hzs⟩ : ∃ zs, applyV now x = zs := ⟨_, rfl⟩
              rw [hzs] at HVoz HS3 HFz ⊢
              clear hzs
              obtain ⟨wA, hwA⟩ : ∃ wA, wA = wc := ⟨_, rfl⟩
              subst hwA
              go_upto_region 18 with fail
              go_cut [85] from 76 to 99 (fun v wx => (∃ bb : Bool, v = .bool bb) ∧ wx = wA)
              case first =>
                by_cases hkc : k < cs.length
                · have hkcz : (k : Int) < (cs.length : Int) := by omega
                  obtain ⟨b2, oo, hA2, hcf⟩ := HL2.out.far hkc
                  have lb := hcf _ HB.out
                  subst hA2
                  clear hcf
                  generalize cs[k] = cb at lb
                  go_wp2_with fail
                  go_meet
                  case rel => exact ⟨⟨_, rfl⟩, rfl⟩
                · have hkcz : ¬ (k : Int) < (cs.length : Int) := by omega
                  go_wp2_with fail
                  go_meet
                  case rel => exact ⟨⟨_, rfl⟩, rfl⟩
              case rest =>
                obtain ⟨⟨bb, rfl⟩, rfl⟩ := hcut
                go_upto_if 85 with fail
                go_cut [10] from 76 to 99 (fun v wd => Hid (∃ q4 : QuV, CarSt q4.qu there zs done (k + 1) (k + 1) ∧ QuAt wd wd.heap.size q4 ∧ Four wd P (.slice q4.A q4.sets.length q4.c) (.slice q4.A2 q4.opn.length q4.c2) (.int .i64 q4.frm) (.int .i64 q4.to_) 25 ∧ VolsAt wd wd.heap.size A5 zs ∧ VolsAt wd wd.heap.size At there ∧ Below w.heap.size w wd))
                case first =>
                  cases bb with
                  | false =>
                    go_wp2_with fail
                    go_meet
                    case rel => exact Lib.hid ⟨q3, HS3.out.more (Nat.le_succ _) (Nat.le_refl _), HQq.out, HFp.out, HVoz.out, HVot.out, HB.out⟩
                  | true =>
                    have HCu := Lib.hid (QCut_any HQq.out (HS3.out.sm.fine rfl (by omega) (by omega)) (Nat.le_trans (HS3.out.sm.sets rfl) (by omega)))
                    rw [(qcut_yes HS3.out.all.1 HNe.out).1, (qcut_yes HS3.out.all.1 HNe.out).2] at HCu
                    unfold QuErr QuV.val at HCu
                    have pc0 := HFp.out.c0
                    have pc1 := HFp.out.c1
                    have pc2 := HFp.out.c2
                    have pc3 := HFp.out.c3
                    go_wp2_with fail
                    refine HCu.out.mono ?_
                    rintro e w4 ⟨q4, hq4, rfl, hA4, hb4⟩
                    clear pc0 pc1 pc2 pc3
                    have HF4 := Lib.hid (HFp.out.kept hb4)
                    have HA4 := Lib.hid (box_store hA4 HF4.out (HVoz.out.next hb4) (HVot.out.next hb4) (below_next HB.out hb4) HPw.out)
                    have HS4 : Hid (CarSt q4.qu there zs done (k + 1) (k + 1)) := Lib.hid (by rw [hq4]; exact HS3.out.cut (fun e => HNe.out e.symm))
                    have u0 := HF4.out.c0
                    have u1 := HF4.out.c1
                    have u2 := HF4.out.c2
                    have u3 := HF4.out.c3
                    have uf := HF4.out.fr
                    have hft : (q4.frm != q4.to_) = false := by
                      have e1 : q4.qu.frm = q3.qu.to_ := by rw [hq4]; rfl
                      have e2 : q4.qu.to_ = q3.qu.to_ := by rw [hq4]; rfl
                      have e3 : q4.frm = q4.to_ := e1.trans e2.symm
                      simp [e3]
                    clear hA4 hb4 hq4
                    go_wp2_with fail
                    go_meet
                    case rel => exact Lib.hid ⟨q4, HS4.out, HA4.out⟩
                case rest =>
                  clear HQq HFp HVoz HVot HB HS3 HNe
                  obtain ⟨q4, hS, hA, hF, h5, ht, hB⟩ := hcut.out
                  clear hcut
                  have HS4 := Lib.hid hS
                  have HQq := Lib.hid hA
                  have HFp := Lib.hid hF
                  have HVoz := Lib.hid h5
                  have HVot := Lib.hid ht
                  have HB := Lib.hid hB
                  clear hS hA hF h5 ht hB
                  obtain ⟨wB, hwB⟩ : ∃ wB, wB = wc := ⟨_, rfl⟩
                  subst hwB
                  go_upto_region 22 with fail
                  go_cut [115] from 100 to 156 (fun v wx => (∃ bb : Bool, v = .bool bb ∧ (bb = true → q4.sets ≠ [])) ∧ wx = wB)
                  case first =>
                    by_cases hkc : k < ts.length
                    · have hkcz : (k : Int) < (ts.length : Int) := by omega
                      obtain ⟨b2, oo, hA3, hcf⟩ := HL3.out.far hkc
                      have lb := hcf _ HB.out
                      subst hA3
                      clear hcf
                      cases hcb : ts[k] with
                      | false =>
                        rw [hcb] at lb
                        clear hcb
                        go_wp2_with fail
                        go_meet
                        case rel => exact ⟨⟨_, rfl, fun e => (by cases e)⟩, rfl⟩
                      | true =>
                        rw [hcb] at lb
                        clear hcb
                        by_cases hnl : q4.sets = []
                        · have hn0 : q4.sets.length = 0 := by rw [hnl]; rfl
                          have hF := HFp.out
                          rw [hn0] at hF
                          have pc0 := hF.c0
                          clear hF
                          go_wp2_with fail
                          go_meet
                          case rel => exact ⟨⟨_, rfl, fun e => (by cases e)⟩, rfl⟩
                        · obtain ⟨n1, hn1⟩ : ∃ n1, q4.sets.length = n1 + 1 := ⟨q4.sets.length - 1, by have := List.length_pos_iff.2 hnl; omega⟩
                          have hF := HFp.out
                          rw [hn1] at hF
                          have pc0 := hF.c0
                          clear hF
                          have hnp : (0 : Int) < (n1 : Int) + 1 := by omega
                          go_wp2_with fail
                          go_meet
                          case rel => exact ⟨⟨_, rfl, fun _ => hnl⟩, rfl⟩
                    · have hkcz : ¬ (k : Int) < (ts.length : Int) := by omega
                      go_wp2_with fail
                      go_meet
                      case rel => exact ⟨⟨_, rfl, fun e => (by cases e)⟩, rfl⟩
                  case rest =>
                    obtain ⟨⟨bb, rfl, hne⟩, rfl⟩ := hcut
                    go_upto_if 115 with fail
                    go_cut [12, 13] from 100 to 156 (fun v12 v13 wd => ∃ (q5 : QuV) (th : List Vl) (Ah : Option Addr) (ch : Nat) (dn : Int), v12 = .slice Ah th.length ch ∧ v13 = .int .i64 dn ∧ Hid (CarSt q5.qu th zs dn (k + 1) (k + 1) ∧ VolsFit th ∧ QuAt wd wd.heap.size q5 ∧ Four wd P (.slice q5.A q5.sets.length q5.c) (.slice q5.A2 q5.opn.length q5.c2) (.int .i64 q5.frm) (.int .i64 q5.to_) 25 ∧ VolsAt wd wd.heap.size A5 zs ∧ VolsAt wd wd.heap.size Ah th ∧ Below w.heap.size w wd))
                    case first =>
                      cases bb with
                      | false =>
                        go_wp2_with fail
                        go_meet
                        case rel => exact ⟨q4, there, At, ct, done, rfl, rfl, Lib.hid ⟨HS4.out, HFt.out.2, HQq.out, HFp.out, HVoz.out, HVot.out, HB.out⟩⟩
                      | true =>
                          replace hne := hne rfl
                          obtain ⟨A, c, ls, B2, d2, op, fr, tq⟩ := q4
                          cases ls with
                          | nil =>
                            exact absurd rfl hne
                          | cons s r =>
                            obtain ⟨t1, t2, t3, HS5⟩ := HS4.out.take (s := s.set) (r := plainS r) rfl
                            replace HS5 := Lib.hid HS5
                            have HT1 := Lib.hid t1
                            obtain ⟨sb, so, hsA, hsl, y1, y2, y3, y4, y5⟩ := HQq.out.sets.at_ (Below.refl _ _) (i := 0) (by simp)
                            simp only [Nat.zero_mul, Nat.add_zero, List.getElem_cons_zero] at y1 y2 y3 y4 y5 hsA
                            subst hsA
                            have HY4 := Lib.hid y4
                            clear y4 y5 hsl
                            obtain ⟨sf, sto, sw, sa, sc⟩ := s
                            simp only [SetV.set] at t2 t3 HS5 HT1
                            simp only at y1 y2 y3 HY4
                            have d1 : (sf != done) = false := by rw [t2]; simp
                            have d2x : decide (sto ≤ done) = false := decide_eq_false (by omega)
                            have HDn := Lib.hid t3
                            obtain ⟨nn, hnn⟩ : ∃ nn, (({ frm := sf, to_ := sto, ws := sw, a := sa, c := sc } : SetV) :: r).length = nn + 1 := ⟨r.length, rfl⟩
                            have hnp : decide (0 < nn + 1) = true := by simp
                            have HNN := Lib.hid hnn
                            have hn1 : (0 : Int) < (nn : Int) + 1 := by omega
                            simp only [hnn] at HFp
                            clear t1 t2 t3 hnn
                            have hb6 := below_one wc (.cells #[.int .i64 sf, .int .i64 sto, .slice sa sw.length sc] 56 (0, 0))
                            have HSl : Hid (sw.length ≤ 4000) := Lib.hid (Nat.le_trans (HS4.out.sm.each rfl ⟨sf, sto, sw, sa, sc⟩ (by simp)) (by omega))
                            have HAp := Lib.hid (Apply_any (c := ct) (c2 := sc) (HVot.out.next hb6) HFt.out.2 (HY4.out.next hb6) (Nat.le_trans HSl.out (by omega)))
                            rw [HT1.out] at HAp
                            have HQ6 := Lib.hid (HQq.out.next hb6)
                            have HF6 := Lib.hid (HFp.out.kept hb6)
                            have HVz6 := Lib.hid (HVoz.out.next hb6)
                            have HB6 := Lib.hid (below_next HB.out hb6)
                            have HSb : Hid (∀ w7, Below (wc.alloc (.cells #[.int .i64 sf, .int .i64 sto, .slice sa sw.length sc] 56 (0, 0))).heap.size (wc.alloc (.cells #[.int .i64 sf, .int .i64 sto, .slice sa sw.length sc] 56 (0, 0))) w7 → w7.cell? ⟨wc.heap.size, 0, none⟩ = some (.int .i64 sf) ∧ w7.cell? ⟨wc.heap.size, 1, none⟩ = some (.int .i64 sto)) := Lib.hid (fun w7 hb => ⟨by rw [hb.cell (p := ⟨wc.heap.size, 0, none⟩) (by simp), Lib.cell_of_heap (heap_new _ _)]; rfl, by rw [hb.cell (p := ⟨wc.heap.size, 1, none⟩) (by simp), Lib.cell_of_heap (heap_new _ _)]; rfl⟩)
                            clear hb6
                            have pc0 := HFp.out.c0
                            have pc1 := HFp.out.c1
                            have pc2 := HFp.out.c2
                            have pc3 := HFp.out.c3
                            go_wp2_with fail
                            refine HAp.out.mono ?_
                            rintro e w7 ⟨A7, c7, rfl, h7, hb7⟩
                            clear pc0 pc1 pc2 pc3
                            obtain ⟨v0, v1⟩ := HSb.out _ hb7
                            have HQ7 := Lib.hid (HQ6.out.next hb7)
                            have HF7 := Lib.hid (HF6.out.kept hb7)
                            have HVz7 := Lib.hid (HVz6.out.next hb7)
                            have HB7 := Lib.hid (below_next HB6.out hb7)
                            have HV7 := Lib.hid h7
                            clear h7 hb7 HSb HAp HQ6 HF6 HVz6 HB6 y1 y2 y3
                            have HDo := Lib.hid (QDone_any sto HQ7.out (HS4.out.sm.fine rfl (by omega) (by omega)) (Nat.le_trans (HS4.out.sm.sets rfl) (by omega)))
                            rw [(qdone_yes HS4.out.all.1 sto).1, (qdone_yes HS4.out.all.1 sto).2] at HDo
                            unfold QuErr QuV.val at HDo
                            simp only [HNN.out] at HDo
                            have p0 := HF7.out.c0
                            have p1 := HF7.out.c1
                            have p2 := HF7.out.c2
                            have p3 := HF7.out.c3
                            go_wp2_with fail
                            refine HDo.out.mono ?_
                            rintro e w8 ⟨q8, hq8, rfl, hA8, hb8⟩
                            clear p0 p1 p2 p3
                            have HF8 := Lib.hid (HF7.out.kept hb8)
                            have HF8b : Hid (Four w8 P (.slice (some ⟨sb, so, none⟩) (({ frm := sf, to_ := sto, ws := sw, a := sa, c := sc } : SetV) :: r).length c) (.slice B2 op.length d2) (.int .i64 fr) (.int .i64 tq) 25) := Lib.hid (by rw [HNN.out]; exact HF8.out)
                            have HA8 := Lib.hid (box_store (q := ⟨some ⟨sb, so, none⟩, c, { frm := sf, to_ := sto, ws := sw, a := sa, c := sc } :: r, B2, d2, op, fr, tq⟩) hA8 HF8b.out (HVz7.out.next hb8) (HV7.out.next hb8) (below_next HB7.out hb8) HPw.out)
                            have HS8 : Hid (CarSt q8.qu (applyV there sw) zs sto (k + 1) (k + 1)) := Lib.hid (by rw [hq8]; exact HS5.out)
                            have u0 := HF8.out.c0
                            have u1 := HF8.out.c1
                            have u2 := HF8.out.c2
                            have u3 := HF8.out.c3
                            have uf := HF8.out.fr
                            have HTl : Hid (qTail q8.qu = sto) := Lib.hid (by unfold qTail; rw [if_pos HS8.out.all.1]; exact HS8.out.tail)
                            clear hA8 hb8 hq8
                            go_wp2_with fail
                            have w0 := HA8.out.2.1.c0
                            have w1 := HA8.out.2.1.c1
                            have w2 := HA8.out.2.1.c2
                            have w3 := HA8.out.2.1.c3
                            generalize ((((w8.setCell ⟨P, 0, none⟩ (.slice q8.A q8.sets.length q8.c)).setCell ⟨P, 1, none⟩ (.slice q8.A2 q8.opn.length q8.c2)).setCell ⟨P, 2, none⟩ (.int .i64 q8.frm)).setCell ⟨P, 3, none⟩ (.int .i64 q8.to_)) = w9 at HA8 w0 w1 w2 w3 ⊢
                            clear u0 u1 u2 u3 uf
                            have HTa := Lib.hid (QTail_any HA8.out.1 (HS8.out.sm.fine rfl (by omega) (by omega)))
                            rw [HTl.out] at HTa
                            unfold QuV.val at HTa
                            (try go_wp2_with fail)
                            refine HTa.out.mono ?_
                            rintro e wt ⟨rfl, hbt⟩
                            clear w0 w1 w2 w3
                            have hss : (sto != sto) = false := by simp
                            have HR9 : Hid (VolsFit (applyV there sw) ∧ QuAt wt wt.heap.size q8 ∧ Four wt P (.slice q8.A q8.sets.length q8.c) (.slice q8.A2 q8.opn.length q8.c2) (.int .i64 q8.frm) (.int .i64 q8.to_) 25 ∧ VolsAt wt wt.heap.size A5 zs ∧ VolsAt wt wt.heap.size A7 (applyV there sw) ∧ Below w.heap.size w wt) := Lib.hid ⟨fit_applyQ, HA8.out.1.next hbt, HA8.out.2.1.kept hbt, HA8.out.2.2.1.next hbt, HA8.out.2.2.2.1.next hbt, below_next HA8.out.2.2.2.2 hbt⟩
                            clear hbt
                            go_wp2_with fail
                            go_meet
                            case rel => exact ⟨q8, applyV there sw, A7, c7, sto, rfl, rfl, Lib.hid ⟨HS8.out, HR9.out⟩⟩
                    case rest =>
                      clear HQq HFp HVoz HVot HB HS4
                      obtain ⟨q5, th, Ah, ch, dn, rfl, rfl, HC⟩ := hcut
                      obtain ⟨hS, hft, hA, hF, h5, ht, hB⟩ := HC.out
                      have HS5 := Lib.hid hS
                      have HFh := Lib.hid hft
                      have HQq := Lib.hid hA
                      have HFp := Lib.hid hF
                      have HVoz := Lib.hid h5
                      have HVot := Lib.hid ht
                      have HB := Lib.hid hB
                      clear hS hft hA hF h5 ht hB HC
                      have HAl : Hid (qAll q5.qu = quAll q5.qu) := Lib.hid (by unfold qAll; rw [if_pos HS5.out.all.1])
                      have HJl : Hid ((joinS q5.sets).length + q5.opn.length ≤ 4000) := Lib.hid (by have h1 := HS5.out.joined; rw [quJoined_is, List.length_append] at h1; omega)
                      have HL := Lib.hid (QAll_any HQq.out (HS5.out.sm.fine rfl (by omega) (by omega)) HJl.out)
                      rw [HAl.out] at HL
                      unfold QuV.val at HL
                      have pc0 := HFp.out.c0
                      have pc1 := HFp.out.c1
                      have pc2 := HFp.out.c2
                      have pc3 := HFp.out.c3
                      go_wp2_with fail
                      refine HL.out.mono ?_
                      rintro e wl ⟨Al, cl, rfl, hA, _, hb⟩
                      clear pc0 pc1 pc2 pc3
                      replace HFp := Lib.hid (HFp.out.kept hb)
                      replace HQq := Lib.hid (HQq.out.next hb)
                      replace HVoz := Lib.hid (HVoz.out.next hb)
                      replace HVot := Lib.hid (HVot.out.next hb)
                      replace HB := Lib.hid (below_next HB.out hb)
                      have HWl := Lib.hid hA
                      clear hb hA HL
                      have HUl : Hid ((quAll q5.qu).length ≤ 9223372036854775807) := Lib.hid (Nat.le_trans (foldW_len (quJoined q5.qu)) (Nat.le_trans HS5.out.joined (by omega)))
                      have HL := Lib.hid (Apply_any (c := ch) (c2 := cl) HVot.out HFh.out HWl.out HUl.out)
                      rw [HS5.out.all.2.1, HS5.out.all.2.2] at HL
                      have pc0 := HFp.out.c0
                      have pc1 := HFp.out.c1
                      have pc2 := HFp.out.c2
                      have pc3 := HFp.out.c3
                      go_wp2_with fail
                      refine HL.out.mono ?_
                      rintro e wa ⟨Aa, ca, rfl, hA, hb⟩
                      clear pc0 pc1 pc2 pc3
                      replace HFp := Lib.hid (HFp.out.kept hb)
                      replace HQq := Lib.hid (HQq.out.next hb)
                      replace HWl := Lib.hid (HWl.out.next hb)
                      replace HVoz := Lib.hid (HVoz.out.next hb)
                      replace HVot := Lib.hid (HVot.out.next hb)
                      replace HB := Lib.hid (below_next HB.out hb)
                      have HVoa := Lib.hid hA
                      clear hb hA HL
                      have HL := Lib.hid (Same_any (c1 := ca) (c2 := c5) HVoa.out HVoz.out HFz.out HFz.out)
                      rw [same_one HS5.out.right] at HL
                      have pc0 := HFp.out.c0
                      have pc1 := HFp.out.c1
                      have pc2 := HFp.out.c2
                      have pc3 := HFp.out.c3
                      go_wp2_with fail
                      refine (HL.out).mono ?_
                      rintro e w2 ⟨rfl, hb⟩
                      clear pc0 pc1 pc2 pc3
                      replace HFp := Lib.hid (HFp.out.kept hb)
                      replace HQq := Lib.hid (HQq.out.next hb)
                      replace HWl := Lib.hid (HWl.out.next hb)
                      replace HVoz := Lib.hid (HVoz.out.next hb)
                      replace HVot := Lib.hid (HVot.out.next hb)
                      replace HVoa := Lib.hid (HVoa.out.next hb)
                      replace HB := Lib.hid (below_next HB.out hb)
                      clear hb
                      clear HL
                      have pc0 := HFp.out.c0
                      have pc1 := HFp.out.c1
                      have pc2 := HFp.out.c2
                      have pc3 := HFp.out.c3
                      have HL := Lib.hid (QRight_any HQq.out (Nat.le_trans (HS5.out.sm.sets rfl) (by omega)) (fun x hx => Nat.le_trans (HS5.out.sm.each rfl x hx) (by omega)) (Nat.le_trans (HS5.out.sm.opn rfl) (by omega)))
                      rw [HS5.out.all.1] at HL
                      unfold QuV.val at HL
                      go_wp2_with fail
                      refine (HL.out).mono ?_
                      rintro e w3 ⟨rfl, hb⟩
                      clear pc0 pc1 pc2 pc3
                      replace HFp := Lib.hid (HFp.out.kept hb)
                      replace HQq := Lib.hid (HQq.out.next hb)
                      replace HWl := Lib.hid (HWl.out.next hb)
                      replace HVoz := Lib.hid (HVoz.out.next hb)
                      replace HVot := Lib.hid (HVot.out.next hb)
                      replace HVoa := Lib.hid (HVoa.out.next hb)
                      replace HB := Lib.hid (below_next HB.out hb)
                      clear hb
                      clear HL
                      go_wp2_with fail
                      go_roundg (30 - (k + 1))
                      case measure => omega
                      case rel => exact ⟨k + 1, q5, th, zs, Ah, A5, ch, c5, dn, rfl, rfl, rfl, by go_num, by omega, Nat.le_refl _, HS5, HQq, HFp, HVoz, HVot, Lib.hid ⟨HFz.out, HFh.out⟩, HB⟩
          · have hE1 : (E != 0) = true := by rw [bne_iff_ne]; exact hE0
            clear hE hE0
            go_wp2_with fail
            go_roundg (30 - (k + 1))
            case measure => omega
            case rel => exact ⟨k + 1, q, there, now, At, An, ct, cn, done, rfl, rfl, rfl, by go_num, by omega, Nat.le_refl _, Lib.hid (HSt.out.more (by omega) (by omega)), HQq, HFp, HVon, HVot, HFt, HB⟩
        · have h10z : (10 : Int) < (x.length : Int) := by omega
          have lc := (HXk.out _ HB.out).1
          go_wp2_with fail
          go_roundg (30 - (k + 1))
          case measure => omega
          case rel => exact ⟨k + 1, q, there, now, At, An, ct, cn, done, rfl, rfl, rfl, by go_num, by omega, Nat.le_refl _, Lib.hid (HSt.out.more (by omega) (by omega)), HQq, HFp, HVon, HVot, HFt, HB⟩
      · have hknz : (k : Int) < (l.length : Int) := by omega
        have hk3z : ¬ (k : Int) < 30 := by omega
        go_wp2_with fail
        refine (awake12_any _).mono ?_
        rintro e w2 ⟨rfl, hb⟩
        replace HFp := Lib.hid (HFp.out.kept hb)
        replace HQq := Lib.hid (HQq.out.next hb)
        replace HVon := Lib.hid (HVon.out.next hb)
        replace HVot := Lib.hid (HVot.out.next hb)
        replace HB := Lib.hid (below_next HB.out hb)
        clear hb
        go_wp2_with fail
        go_ret
        exact ⟨rfl, HB.out⟩
    · have hknz : ¬ (k : Int) < (l.length : Int) := by omega
      go_wp2_with fail
      refine (awake12_any _).mono ?_
      rintro e w2 ⟨rfl, hb⟩
      replace HFp := Lib.hid (HFp.out.kept hb)
      replace HQq := Lib.hid (HQq.out.next hb)
      replace HVon := Lib.hid (HVon.out.next hb)
      replace HVot := Lib.hid (HVot.out.next hb)
      replace HB := Lib.hid (below_next HB.out hb)
      clear hb
      go_wp2_with fail
      go_ret
      exact ⟨rfl, HB.out⟩
end Go.Proofs.Ytpmllckfijfehaa
