/- The walk of SnapStays. -/
import Derived.Test.YtaenlcokgplgkaaSnapO
namespace Go.Proofs.Ytaenlcokgplgkaa
open Go.Shelf Go.RowKit Go.Lib Go.Sort

set_option maxHeartbeats 8000000 in
set_option maxRecDepth 100000 in
theorem SnapStays_walk {w : World} {A A1 : Option Addr} {c c1 : Nat} {vs : List Vl} {wss : List (List Wr)} (h : VolsAt w w.heap.size A vs) (hf : VolsFit vs) (h2 : WssAt w w.heap.size A1 wss) (_ : wss.length ≤ 9223372036854775807) (most : Int) :
    Calls Try.prog 5 #[.slice A vs.length c, .slice A1 wss.length c1, .int .i64 most] w fun e w' => e = .returned (.bool true) ∧ Below w.heap.size w w' := by
  have H1 := Lib.hid h
  have HF := Lib.hid hf
  have H2 := Lib.hid h2
  have HB0 := Lib.hid (Below.refl w.heap.size w)
  clear h hf h2
  cases hs : smallB vs 0 with
  | false =>
    have HS := Lib.hid hs
    clear hs
    go_enter Try.func5, Try.ntmps5
    go_wp2_with fail
    refine (Small_any H1.out HF.out _ _ _).mono ?_
    rw [HS.out]
    rintro e w' ⟨rfl, rfl⟩
    go_wp2_with fail
    refine (awake9_any _).mono ?_
    rintro e wz ⟨rfl, hbz⟩
    have HBz : Hid (Below w.heap.size w wz) := Lib.hid (HB0.out.trans (hbz.mono HB0.out.size))
    clear hbz
    go_wp2_with fail
    go_ret
    exact ⟨rfl, HBz.out⟩
  | true =>
    have HS := Lib.hid hs
    clear hs
    cases hr : rightB vs with
    | false =>
      have HR := Lib.hid hr
      clear hr
      go_enter Try.func5, Try.ntmps5
      go_wp2_with fail
      refine (Small_any H1.out HF.out _ _ _).mono ?_
      rw [HS.out]
      rintro e w' ⟨rfl, rfl⟩
      go_wp2_with fail
      refine (RefRight_any H1.out HF.out).mono ?_
      rw [HR.out]
      rintro e w1 ⟨rfl, hb1⟩
      have HB1 : Hid (Below w.heap.size w w1) := Lib.hid (HB0.out.trans (hb1.mono HB0.out.size))
      clear hb1
      go_wp2_with fail
      refine (awake9_any _).mono ?_
      rintro e wz ⟨rfl, hbz⟩
      have HBz : Hid (Below w.heap.size w wz) := Lib.hid (HB1.out.trans (hbz.mono HB1.out.size))
      clear hbz
      go_wp2_with fail
      go_ret
      exact ⟨rfl, HBz.out⟩
    | true =>
      have HR := Lib.hid hr
      clear hr
      have HSame : Hid (sameB vs vs = true) := Lib.hid (sameB_self HR.out)
      obtain ⟨n, hn'⟩ : ∃ n, wss.length = n := ⟨_, rfl⟩
      have HN := Lib.hid hn'
      rw [hn']
      clear hn'
      go_enter Try.func5, Try.ntmps5
      go_wp2_with fail
      refine (Small_any H1.out HF.out _ _ _).mono ?_
      rw [HS.out]
      rintro e w' ⟨rfl, rfl⟩
      go_wp2_with fail
      refine (RefRight_any H1.out HF.out).mono ?_
      rw [HR.out]
      rintro e w1 ⟨rfl, hb1⟩
      have HB1 : Hid (Below w.heap.size w w1) := Lib.hid (HB0.out.trans (hb1.mono HB0.out.size))
      clear hb1
      go_wp2_with fail
      go_loopg [7, 8, 9] 13 (fun kx s7 s8 s9 wr => ∃ (k : Nat) (now : List Vl) (kept : List Wr) (A7 A8 : Option Addr) (c7 c8 : Nat), s9 = .int .i64 k ∧ s7 = .slice A7 now.length c7 ∧ s8 = .slice A8 kept.length c8 ∧ k ≤ n ∧ k ≤ 12 ∧ 12 - k ≤ kx ∧ kept.length ≤ 20 * k ∧ Hid (VolsAt wr wr.heap.size A7 now) ∧ Hid (VolsFit now) ∧ Hid (WrsAt wr wr.heap.size A8 kept) ∧ Hid (A8 = none → c8 = 0) ∧ Hid (keepB kept now = true) ∧ Hid (applyV now kept = vs) ∧ Hid (Below w.heap.size w wr))
      case atStart => exact ⟨0, vs, [], A, none, c, 0, rfl, rfl, rfl, Nat.zero_le _, by omega, by omega, by simp, Lib.hid (H1.out.next HB1.out), HF, Lib.hid (.inl rfl), Lib.hid (fun _ => rfl), Lib.hid (keep_nil HR.out), Lib.hid (by rw [applyV_ok (keep_check (keep_nil HR.out))]; rfl), HB1⟩
      case round =>
        obtain ⟨k, now, kept, A7, A8, c7, c8, rfl, rfl, rfl, hk, hk12, hkx, hkl, HV, HFt, HW, HC8, HK, HAp, HB⟩ := hrel
        have hk1 : kept.length ≤ 400 := by omega
        have hk2 : kept.length ≤ 1000 := by omega
        by_cases hlt : k < n
        · have hltz : (k : Int) < (n : Int) := by omega
          by_cases hl12 : k < 12
          · have hl12z : (k : Int) < 12 := by omega
            have hl12d : decide ((k : Int) < 12) = true := by rw [decide_eq_true_iff]; omega
            have hkw : k < wss.length := by rw [HN.out]; exact hlt
            have hwz : w.heap.size ≤ wr.heap.size := HB.out.size
            obtain ⟨b, off, a, d, hA, hbl, x1, hws, hwl⟩ := H2.out.at_ HB.out hkw
            have hAt : ∀ w2, Below wr.heap.size wr w2 → w2.cell? ⟨b, off + k, none⟩ = some (.slice a wss[k].length d) := fun w2 hb => by rw [hb.cell (p := ⟨b, off + k, none⟩) (by show b < _; omega)]; exact x1
            have HAt := Lib.hid hAt
            have HWs := Lib.hid (hws.more hwz)
            clear hws hAt
            subst hA
            obtain ⟨ws, hws'⟩ : ∃ ws, wss[k] = ws := ⟨_, rfl⟩
            rw [hws'] at x1 hwl HWs HAt
            clear hws' hkw
            by_cases h20 : ws.length ≤ 20
            · have h20z : ¬ 20 < (ws.length : Int) := by omega
              have hm4 : ws.length ≤ 400 := by omega
              by_cases h0 : checkE now ws = 0
              · have H0 := Lib.hid h0
                by_cases hmo : most < ((noteN kept ws now).length : Int)
                · have HNo := Lib.hid (note_full HK.out h0 hmo)
                  clear h0 hmo
                  go_wp2_with fail
                  refine (Apply_any HV.out HFt.out HWs.out hwl).mono ?_
                  rw [H0.out]
                  rintro e w2 ⟨B2, d2, rfl, hB2, hb2⟩
                  have x2 := HAt.out w2 hb2
                  have HB2 : Hid (Below w.heap.size w w2) := Lib.hid (HB.out.trans (hb2.mono hwz))
                  have HR2 := Lib.hid hb2
                  have HNa : Hid (∀ c c3, Calls Try.prog 10 #[.slice A8 kept.length c8, .slice A7 now.length c, .slice a ws.length c3, .int .i64 most] w2 (WrsErr [] 15 w2)) := Lib.hid (fun c c3 => by
                    have := Note_any (c := c) (c3 := c3) (HV.out.next HR2.out) HFt.out (HW.out.next HR2.out) ⟨hk1, HC8.out⟩ (HWs.out.next HR2.out) hm4 most
                    rw [HNo.out.1, HNo.out.2] at this
                    exact this)
                  clear hB2 hb2
                  generalize (applyV now ws).length = nv
                  go_wp2_with fail
                  refine (HNa.out _ _).mono ?_
                  rintro e w3 ⟨B3, d3, rfl, _, _, hb3⟩
                  have HR3 : Hid (Below wr.heap.size wr w3) := Lib.hid (HR2.out.trans (hb3.mono HR2.out.size))
                  have HB3 : Hid (Below w.heap.size w w3) := Lib.hid (HB.out.trans (HR3.out.mono hwz))
                  clear hb3
                  simp only [List.length_nil]
                  go_wp2_with fail
                  go_roundg (12 - (k + 1))
                  case measure => omega
                  case rel => exact ⟨k + 1, now, kept, A7, A8, c7, c8, by go_num, rfl, rfl, by omega, by omega, by omega, by omega, Lib.hid (HV.out.next HR3.out), HFt, Lib.hid (HW.out.next HR3.out), HC8, HK, HAp, HB3⟩
                · have HNo := Lib.hid (note_fine HK.out h0 hmo)
                  obtain ⟨g1, g2, g3⟩ := note_stays HK.out h0
                  have g4 := noteN_len (kept := kept) (ws := ws) (vs := now)
                  have HKn := Lib.hid g2
                  have HBk : Hid (backV (noteN kept ws now) (applyV now ws) = vs ∧ backE (noteN kept ws now) (applyV now ws) = 0) := Lib.hid (by
                    obtain ⟨e1, e2⟩ := back_yes g2
                    exact ⟨by rw [e1, g3, HAp.out], e2⟩)
                  have HApn : Hid (applyV (applyV now ws) (noteN kept ws now) = vs) := Lib.hid (by rw [g3, HAp.out])
                  have HFn : Hid (VolsFit (applyV now ws)) := Lib.hid fit_applyV
                  obtain ⟨V, hV⟩ : ∃ V, applyV now ws = V := ⟨_, rfl⟩
                  have HV1 := Lib.hid hV
                  obtain ⟨L, hL⟩ : ∃ L, noteN kept ws now = L := ⟨_, rfl⟩
                  have HL1 := Lib.hid hL
                  rw [hV] at HKn HBk HApn HFn
                  rw [hL] at HKn HBk HApn HNo hmo g1 g4
                  have hL4 : L.length ≤ 1000 := by omega
                  have hge : ¬ (L.length : Int) < (kept.length : Int) := by omega
                  clear h0 hV hL g2 g3
                  go_wp2_with fail
                  refine (Apply_any HV.out HFt.out HWs.out hwl).mono ?_
                  rw [H0.out, HV1.out]
                  rintro e w2 ⟨B2, d2, rfl, hB2, hb2⟩
                  have K2 := Lib.hid hB2
                  have x2 := HAt.out w2 hb2
                  have HR2 := Lib.hid hb2
                  have HNa : Hid (∀ c c3, Calls Try.prog 10 #[.slice A8 kept.length c8, .slice A7 now.length c, .slice a ws.length c3, .int .i64 most] w2 (WrsErr L 0 w2)) := Lib.hid (fun c c3 => by
                    have := Note_any (c := c) (c3 := c3) (HV.out.next HR2.out) HFt.out (HW.out.next HR2.out) ⟨hk1, HC8.out⟩ (HWs.out.next HR2.out) hm4 most
                    rw [HNo.out.1, HNo.out.2] at this
                    exact this)
                  clear hB2 hb2
                  go_wp2_with fail
                  refine (HNa.out _ _).mono ?_
                  rintro e w3 ⟨B3, d3, rfl, hB3, hn3, hb3⟩
                  have K3 := Lib.hid hB3
                  have N3 := Lib.hid hn3
                  have K23 := Lib.hid (K2.out.next hb3)
                  have HR3 : Hid (Below wr.heap.size wr w3) := Lib.hid (HR2.out.trans (hb3.mono HR2.out.size))
                  clear hb3 hB3 hn3
                  go_wp2_with fail
                  refine (Back_any K23.out HFn.out K3.out hL4).mono ?_
                  rw [HBk.out.1, HBk.out.2]
                  rintro e w4 ⟨B4, d4, rfl, hB4, hb4⟩
                  have K4 := Lib.hid hB4
                  have K34 := Lib.hid (K3.out.next hb4)
                  have K24 := Lib.hid (K23.out.next hb4)
                  have HR4 : Hid (Below wr.heap.size wr w4) := Lib.hid (HR3.out.trans (hb4.mono HR3.out.size))
                  have HB4 : Hid (Below w.heap.size w w4) := Lib.hid (HB.out.trans (HR4.out.mono hwz))
                  clear hb4 hB4
                  go_wp2_with fail
                  refine (Same_any K4.out (H1.out.next HB4.out) HF.out HF.out).mono ?_
                  rw [HSame.out]
                  rintro e w5 ⟨rfl, hb5⟩
                  have K35 := Lib.hid (K34.out.next hb5)
                  have K25 := Lib.hid (K24.out.next hb5)
                  have HB5 : Hid (Below w.heap.size w w5) := Lib.hid (HB4.out.trans (hb5.mono HB4.out.size))
                  clear hb5
                  go_wp2_with fail
                  go_roundg (12 - (k + 1))
                  case measure => omega
                  case rel => exact ⟨k + 1, V, L, B2, B3, d2, d3, by go_num, rfl, rfl, by omega, by omega, by omega, by omega, K25, HFn, K35, N3, HKn, HApn, HB5⟩
              · have HNo := Lib.hid (note_no (most := most) HK.out h0)
                have HAv := Lib.hid (applyV_no h0)
                obtain ⟨E, hE⟩ : ∃ E, checkE now ws = E := ⟨_, rfl⟩
                have HE := Lib.hid hE
                rw [hE] at HNo h0
                have h1' : (E != 0) = true := by rw [bne_iff_ne]; exact h0
                have h2' : (E != E) = false := by simp
                have h3' : (E == 0) = false := by rw [beq_eq_false_iff_ne]; exact h0
                clear h0 hE
                go_wp2_with fail
                refine (Apply_any HV.out HFt.out HWs.out hwl).mono ?_
                rw [HE.out, HAv.out]
                rintro e w2 ⟨B2, d2, rfl, hB2, hb2⟩
                have x2 := HAt.out w2 hb2
                have HR2 := Lib.hid hb2
                have HNa : Hid (∀ c c3, Calls Try.prog 10 #[.slice A8 kept.length c8, .slice A7 now.length c, .slice a ws.length c3, .int .i64 most] w2 (WrsErr [] E w2)) := Lib.hid (fun c c3 => by
                  have := Note_any (c := c) (c3 := c3) (HV.out.next HR2.out) HFt.out (HW.out.next HR2.out) ⟨hk1, HC8.out⟩ (HWs.out.next HR2.out) hm4 most
                  rw [HNo.out.1, HNo.out.2] at this
                  exact this)
                clear hB2 hb2
                simp only [List.length_nil]
                go_wp2_with fail
                refine (HNa.out _ _).mono ?_
                rintro e w3 ⟨B3, d3, rfl, _, _, hb3⟩
                have HR3 : Hid (Below wr.heap.size wr w3) := Lib.hid (HR2.out.trans (hb3.mono HR2.out.size))
                have HB3 : Hid (Below w.heap.size w w3) := Lib.hid (HB.out.trans (HR3.out.mono hwz))
                clear hb3
                simp only [List.length_nil]
                go_wp2_with fail
                go_roundg (12 - (k + 1))
                case measure => omega
                case rel => exact ⟨k + 1, now, kept, A7, A8, c7, c8, by go_num, rfl, rfl, by omega, by omega, by omega, by omega, Lib.hid (HV.out.next HR3.out), HFt, Lib.hid (HW.out.next HR3.out), HC8, HK, HAp, HB3⟩
            · have h20z : 20 < (ws.length : Int) := by omega
              go_wp2_with fail
              go_roundg (12 - (k + 1))
              case measure => omega
              case rel => exact ⟨k + 1, now, kept, A7, A8, c7, c8, by go_num, rfl, rfl, by omega, by omega, by omega, by omega, HV, HFt, HW, HC8, HK, HAp, HB⟩
          · have hl12z : ¬ (k : Int) < 12 := by omega
            have hl12d : decide ((k : Int) < 12) = false := by rw [decide_eq_false_iff_not]; omega
            go_wp2_with fail
            refine (awake9_any _).mono ?_
            rintro e wz ⟨rfl, hbz⟩
            have HBz : Hid (Below w.heap.size w wz) := Lib.hid (HB.out.trans (hbz.mono HB.out.size))
            clear hbz
            go_wp2_with fail
            go_ret
            exact ⟨rfl, HBz.out⟩
        · have hltz : ¬ (k : Int) < (n : Int) := by omega
          go_wp2_with fail
          refine (awake9_any _).mono ?_
          rintro e wz ⟨rfl, hbz⟩
          have HBz : Hid (Below w.heap.size w wz) := Lib.hid (HB.out.trans (hbz.mono HB.out.size))
          clear hbz
          go_wp2_with fail
          go_ret
          exact ⟨rfl, HBz.out⟩
end Go.Proofs.Ytaenlcokgplgkaa
