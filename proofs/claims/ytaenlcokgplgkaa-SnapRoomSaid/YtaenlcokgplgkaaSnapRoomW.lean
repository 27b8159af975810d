/- The walk of SnapRoom. -/
import Derived.Test.YtaenlcokgplgkaaSnapR
namespace Go.Proofs.Ytaenlcokgplgkaa
open Go.Shelf Go.RowKit Go.Lib Go.Sort

def blocksN (vs : List Vl) : Nat := (vs.map (fun v => v.2.length)).sum
theorem blocksN_take {vs : List Vl} {k : Nat} (hk : k < vs.length) : blocksN (vs.take (k + 1)) = blocksN (vs.take k) + vs[k].2.length := by
  unfold blocksN; rw [List.take_succ_eq_append_getElem hk, List.map_append, List.sum_append]; simp

set_option maxHeartbeats 4000000 in
set_option maxRecDepth 100000 in
theorem SnapRoom_walk {w : World} {A A2 A3 : Option Addr} {c c2 c3 : Nat} {vs : List Vl} {ks ws : List Wr} (h2 : WrsAt w w.heap.size A2 ks) (hn : ks.length ≤ 9223372036854775807 ∧ (A2 = none → c2 = 0)) (h : VolsAt w w.heap.size A vs) (hf : VolsFit vs) (h3 : WrsAt w w.heap.size A3 ws) (hm : ws.length ≤ 9223372036854775807 ∧ (A3 = none → c3 = 0)) :
    Calls Try.prog 6 #[.slice A2 ks.length c2, .slice A vs.length c, .slice A3 ws.length c3] w fun e w' => e = .returned (.bool true) ∧ Below w.heap.size w w' := by
  have H1 := Lib.hid h
  have HF := Lib.hid hf
  have H2 := Lib.hid h2
  have H3 := Lib.hid h3
  have HB0 := Lib.hid (Below.refl w.heap.size w)
  have HN := Lib.hid hn.2
  have hnl := hn.1
  have hml := hm.1
  clear h hf h2 h3 hn hm
  cases hs : smallB vs ws.length with
  | false =>
    have HS := Lib.hid hs
    clear hs
    go_enter Try.func6, Try.ntmps6
    go_wp2_with fail
    refine (Small_any H1.out HF.out _ _ _).mono ?_
    rw [HS.out]
    rintro e w' ⟨rfl, rfl⟩
    go_wp2_with fail
    refine (awake9_any _).mono ?_
    rintro e wz ⟨rfl, hbz⟩
    have HBz : Hid (Below w.heap.size w wz) := Lib.hid (HB0.out.trans (hbz.mono HB0.out.size))
    clear hbz
    go_wp2_with fail
    go_ret
    exact ⟨rfl, HBz.out⟩
  | true =>
    have HS := Lib.hid hs
    obtain ⟨hs10, hsm, hs100⟩ := (smallB_iff _ _).1 hs
    have HS100 := Lib.hid hs100
    clear hs hs100
    by_cases h200 : ks.length ≤ 200
    · have hz : ¬ 200 < (ks.length : Int) := by omega
      have hk1 : ks.length ≤ 1000 := by omega
      cases hk : keepB ks vs with
      | false =>
        have HK := Lib.hid hk
        clear hk
        go_enter Try.func6, Try.ntmps6
        go_wp2_with fail
        refine (Small_any H1.out HF.out _ _ _).mono ?_
        rw [HS.out]
        rintro e w' ⟨rfl, rfl⟩
        go_wp2_with fail
        refine (SnapRight_any H1.out HF.out H2.out hk1).mono ?_
        rw [HK.out]
        rintro e w1 ⟨rfl, hb1⟩
        have HB1 : Hid (Below w.heap.size w w1) := Lib.hid (HB0.out.trans (hb1.mono HB0.out.size))
        clear hb1
        go_wp2_with fail
        refine (awake9_any _).mono ?_
        rintro e wz ⟨rfl, hbz⟩
        have HBz : Hid (Below w.heap.size w wz) := Lib.hid (HB1.out.trans (hbz.mono HB1.out.size))
        clear hbz
        go_wp2_with fail
        go_ret
        exact ⟨rfl, HBz.out⟩
      | true =>
        have HK := Lib.hid hk
        by_cases h0 : checkE vs ws = 0
        · have H0 := Lib.hid h0
          have hroom := note_room hk h0
          have HNote : Hid (noteE ks ws vs (blocksN vs : Int) = 0 ∧ noteR ks ws vs (blocksN vs : Int) = noteN ks ws vs) := Lib.hid (note_fine hk h0 (by have : (noteN ks ws vs).length ≤ blocksN vs := hroom; omega))
          have HAg : Hid (noteE (noteN ks ws vs) ws vs ((noteN ks ws vs).length : Int) = 0 ∧ noteR (noteN ks ws vs) ws vs ((noteN ks ws vs).length : Int) = noteN ks ws vs) := Lib.hid (by
            have := note_fine (most := ((noteN ks ws vs).length : Int)) (note_in hk h0) h0 (by rw [note_same h0]; omega)
            rw [note_same h0] at this
            exact this)
          have HLen : Hid ((noteN ks ws vs).length ≤ 400 ∧ (noteN ks ws vs).length ≤ blocksN vs) := Lib.hid ⟨by have := noteN_len (kept := ks) (ws := ws) (vs := vs); omega, hroom⟩
          clear hk h0 hroom
          generalize noteN ks ws vs = L at HNote HAg HLen
          obtain ⟨m, hm⟩ : ∃ m, L.length = m := ⟨_, rfl⟩
          have HM := Lib.hid hm
          rw [hm] at HAg HLen
          clear hm
          have hm4 := HLen.out.1
          have HN4 : Hid (ks.length ≤ 400 ∧ (A2 = none → c2 = 0)) := Lib.hid ⟨by omega, HN.out⟩
          have hw4 : ws.length ≤ 400 := by omega
          obtain ⟨n, hn'⟩ : ∃ n, vs.length = n := ⟨_, rfl⟩
          have HNn := Lib.hid hn'
          have HSm : Hid (∀ c c3, Calls Try.prog 8 #[.slice A n c, .slice A3 ws.length c3] w fun e w' => e = .returned (.bool true) ∧ w = w') := Lib.hid (fun c c3 => by
            have := Small_any (c := c) H1.out HF.out A3 ws.length c3
            rw [HS.out, hn'] at this
            exact this)
          have HRt : Hid (∀ c c2, Calls Try.prog 13 #[.slice A2 ks.length c2, .slice A n c] w fun e w' => e = .returned (.bool true) ∧ Below w.heap.size w w') := Lib.hid (fun c c2 => by
            have := SnapRight_any (c := c) (c2 := c2) H1.out HF.out H2.out hk1
            rw [HK.out, hn'] at this
            exact this)
          have HCk : Hid (∀ w1 c c3, Below w.heap.size w w1 → Calls Try.prog 23 #[.slice A n c, .slice A3 ws.length c3] w1 fun e w' => e = .returned (.int .i64 0) ∧ Below w1.heap.size w1 w') := Lib.hid (fun w1 c c3 hb => by
            have := Check_any (c := c) (c2 := c3) (H1.out.next hb) HF.out (H3.out.next hb) hml
            rw [H0.out, hn'] at this
            exact this)
          have HNa : Hid (∀ w1 c c3, Below w.heap.size w w1 → Calls Try.prog 10 #[.slice A2 ks.length c2, .slice A n c, .slice A3 ws.length c3, .int .i64 (blocksN vs : Int)] w1 (WrsErr L 0 w1)) := Lib.hid (fun w1 c c3 hb => by
            have := Note_any (c := c) (c3 := c3) (H1.out.next hb) HF.out (H2.out.next hb) HN4.out (H3.out.next hb) hw4 (blocksN vs : Int)
            rw [HNote.out.1, HNote.out.2, hn'] at this
            exact this)
          have HNb : Hid (∀ w1 A8 c8 c c3, Below w.heap.size w w1 → WrsAt w1 w1.heap.size A8 L → (A8 = none → c8 = 0) → Calls Try.prog 10 #[.slice A8 m c8, .slice A n c, .slice A3 ws.length c3, .int .i64 (m : Int)] w1 (WrsErr L 0 w1)) := Lib.hid (fun w1 A8 c8 c c3 hb h8 h9 => by
            have := Note_any (c := c) (c2 := c8) (c3 := c3) (H1.out.next hb) HF.out h8 ⟨by rw [HM.out]; exact hm4, h9⟩ (H3.out.next hb) hw4 (m : Int)
            rw [HAg.out.1, HAg.out.2, hn', HM.out] at this
            exact this)
          have hn10 : n ≤ 10 := by omega
          rw [hn']
          clear hn' hs10 HNote HAg
          go_enter Try.func6, Try.ntmps6
          go_wp2_with fail
          refine (HSm.out _ _).mono ?_
          rintro e w' ⟨rfl, rfl⟩
          go_wp2_with fail
          refine (HRt.out _ _).mono ?_
          rintro e w1 ⟨rfl, hb1⟩
          have HB1 : Hid (Below w.heap.size w w1) := Lib.hid (HB0.out.trans (hb1.mono HB0.out.size))
          clear hb1
          go_wp2_with fail
          refine (HCk.out _ _ _ HB1.out).mono ?_
          rintro e w2 ⟨rfl, hb2⟩
          have HB2 : Hid (Below w.heap.size w w2) := Lib.hid (HB1.out.trans (hb2.mono HB1.out.size))
          clear hb2
          go_wp2_with fail
          go_loopg [7, 38] n (fun kx s7 s38 wr => ∃ k p : Nat, s38 = .int .i64 k ∧ s7 = .int .i64 p ∧ k ≤ n ∧ n - k ≤ kx ∧ p ≤ 100 * k ∧ Hid (blocksN (vs.take k) = p) ∧ Hid (Below w.heap.size w wr))
          case atStart => exact ⟨0, 0, rfl, rfl, Nat.zero_le _, by omega, by omega, Lib.hid rfl, HB2⟩
          case round =>
            obtain ⟨k, p, rfl, rfl, hk, hkx, hp, HP, HB⟩ := hrel
            by_cases hlt : k < n
            · have hltz : (k : Int) < (n : Int) := by omega
              have hkl : k < vs.length := by rw [HNn.out]; exact hlt
              have hwz : w.heap.size ≤ wr.heap.size := HB.out.size
              obtain ⟨b, off, a, c', hA, hbl, x1, x2, hly⟩ := H1.out.at_ HB.out hkl
              have hbw : b < wr.heap.size := by omega
              have HT : Hid (blocksN (vs.take (k + 1)) = p + vs[k].2.length) := Lib.hid (by rw [blocksN_take hkl, HP.out])
              have h100 := HS100.out _ (List.getElem_mem hkl)
              subst hA
              obtain ⟨v, hv⟩ : ∃ v, vs[k] = v := ⟨_, rfl⟩
              rw [hv] at x1 x2 HT h100
              clear hv hkl hly
              obtain ⟨id, bs⟩ := v
              simp only at x1 x2 HT h100
              obtain ⟨q, hq⟩ : ∃ q, bs.length = q := ⟨_, rfl⟩
              rw [hq] at x2 HT h100
              clear hq
              have HB3 := Lib.hid (HB.out.alloc hwz (.cells #[.int .i64 id, .slice a q c'] 51))
              go_wp2_with fail
              go_roundg (n - (k + 1))
              case measure => omega
              case rel => exact ⟨k + 1, p + q, by go_num, by go_num, by omega, Nat.le_refl _, by omega, HT, HB3⟩
            · have hltz : ¬ (k : Int) < (n : Int) := by omega
              have HE : Hid (blocksN vs = p) := Lib.hid (by rw [← HP.out, List.take_of_length_le (by rw [HNn.out]; omega)])
              rw [HE.out] at HNa HLen
              have hmp : (m : Int) ≤ (p : Int) := by have := HLen.out.2; omega
              go_wp2_with fail
              refine (HNa.out _ _ _ HB.out).mono ?_
              rintro e w3 ⟨A8, c8, rfl, hA8, hn8, hb3⟩
              rw [HM.out]
              have K3 := Lib.hid hA8
              have N3 := Lib.hid hn8
              clear hA8 hn8
              have HB3 : Hid (Below w.heap.size w w3) := Lib.hid (HB.out.trans (hb3.mono HB.out.size))
              clear hb3
              go_wp2_with fail
              refine (HNb.out _ _ _ _ _ HB3.out K3.out N3.out).mono ?_
              rintro e w4 ⟨A9, c9, rfl, hA9, _, hb4⟩
              rw [HM.out]
              have K4 := Lib.hid hA9
              have K34 := Lib.hid (K3.out.next hb4)
              clear hA9
              have HB4 : Hid (Below w.heap.size w w4) := Lib.hid (HB3.out.trans (hb4.mono HB3.out.size))
              clear hb4
              have HEq : Hid (∀ c c', Calls Try.prog 12 #[.slice A8 m c, .slice A9 m c'] w4 fun e w' => e = .returned (.bool true) ∧ Below w4.heap.size w4 w') := Lib.hid (fun c c' => by
                have := RefEqW_any (c1 := c) (c2 := c') K34.out K4.out (by rw [HM.out]; omega)
                rw [eqW_self, HM.out] at this
                exact this)
              go_wp2_with fail
              refine (HEq.out _ _).mono ?_
              rintro e w5 ⟨rfl, hb5⟩
              have HB5 : Hid (Below w.heap.size w w5) := Lib.hid (HB4.out.trans (hb5.mono HB4.out.size))
              clear hb5
              go_wp2_with fail
              refine (awake9_any _).mono ?_
              rintro e wz ⟨rfl, hbz⟩
              have HBz : Hid (Below w.heap.size w wz) := Lib.hid (HB5.out.trans (hbz.mono HB5.out.size))
              clear hbz
              go_wp2_with fail
              go_ret
              exact ⟨rfl, HBz.out⟩
        · obtain ⟨E, hE⟩ : ∃ E, checkE vs ws = E := ⟨_, rfl⟩
          rw [hE] at h0
          have h0' : (E != 0) = true := by rw [bne_iff_ne]; exact h0
          have HE := Lib.hid hE
          clear hE h0 hk
          go_enter Try.func6, Try.ntmps6
          go_wp2_with fail
          refine (Small_any H1.out HF.out _ _ _).mono ?_
          rw [HS.out]
          rintro e w' ⟨rfl, rfl⟩
          go_wp2_with fail
          refine (SnapRight_any H1.out HF.out H2.out hk1).mono ?_
          rw [HK.out]
          rintro e w1 ⟨rfl, hb1⟩
          have HB1 : Hid (Below w.heap.size w w1) := Lib.hid (HB0.out.trans (hb1.mono HB0.out.size))
          clear hb1
          go_wp2_with fail
          refine (Check_any (H1.out.next HB1.out) HF.out (H3.out.next HB1.out) hml).mono ?_
          rw [HE.out]
          rintro e w2 ⟨rfl, hb2⟩
          have HB2 : Hid (Below w.heap.size w w2) := Lib.hid (HB1.out.trans (hb2.mono HB1.out.size))
          clear hb2
          go_wp2_with fail
          refine (awake9_any _).mono ?_
          rintro e wz ⟨rfl, hbz⟩
          have HBz : Hid (Below w.heap.size w wz) := Lib.hid (HB2.out.trans (hbz.mono HB2.out.size))
          clear hbz
          go_wp2_with fail
          go_ret
          exact ⟨rfl, HBz.out⟩
    · have hz : 200 < (ks.length : Int) := by omega
      go_enter Try.func6, Try.ntmps6
      go_wp2_with fail
      refine (Small_any H1.out HF.out _ _ _).mono ?_
      rw [HS.out]
      rintro e w' ⟨rfl, rfl⟩
      go_wp2_with fail
      refine (awake9_any _).mono ?_
      rintro e wz ⟨rfl, hbz⟩
      have HBz : Hid (Below w.heap.size w wz) := Lib.hid (HB0.out.trans (hbz.mono HB0.out.size))
      clear hbz
      go_wp2_with fail
      go_ret
      exact ⟨rfl, HBz.out⟩
end Go.Proofs.Ytaenlcokgplgkaa
