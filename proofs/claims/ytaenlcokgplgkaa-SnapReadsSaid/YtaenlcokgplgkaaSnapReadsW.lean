/- The walks of SnapReads and SnapAlike. -/
import Derived.Test.YtaenlcokgplgkaaSnapS
import Derived.Test.YtaenlcokgplgkaaSnapR
namespace Go.Proofs.Ytaenlcokgplgkaa
open Go.Shelf Go.RowKit Go.Lib Go.Sort

set_option maxHeartbeats 4000000 in
set_option maxRecDepth 100000 in
theorem SnapReads_walk {w : World} {A A2 : Option Addr} {c c2 : Nat} {vs : List Vl} {ks : List Wr} (h2 : WrsAt w w.heap.size A2 ks) (hn : ks.length ≤ 9223372036854775807 ∧ (A2 = none → c2 = 0)) (h : VolsAt w w.heap.size A vs) (hf : VolsFit vs) (vol block : Int) :
    Calls Try.prog 4 #[.slice A2 ks.length c2, .slice A vs.length c, .int .i64 vol, .int .i64 block] w fun e w' => e = .returned (.bool true) ∧ Below w.heap.size w w' := by
  have H1 := Lib.hid h
  have HF := Lib.hid hf
  have H2 := Lib.hid h2
  have HB0 := Lib.hid (Below.refl w.heap.size w)
  have hnl := hn.1
  clear h hf h2 hn
  cases hs : smallB vs ks.length with
  | false =>
    have HS := Lib.hid hs
    clear hs
    go_enter Try.func4, Try.ntmps4
    go_wp2_with fail
    refine (Small_any H1.out HF.out _ _ _).mono ?_
    rw [HS.out]
    rintro e w' ⟨rfl, rfl⟩
    go_wp2_with fail
    refine (awake9_any _).mono ?_
    rintro e wz ⟨rfl, hbz⟩
    have HBz : Hid (Below w.heap.size w wz) := Lib.hid (HB0.out.trans (hbz.mono HB0.out.size))
    clear hbz
    go_wp2_with fail
    go_ret
    exact ⟨rfl, HBz.out⟩
  | true =>
    have HS := Lib.hid hs
    have hsm := ((smallB_iff _ _).1 hs).2.1
    clear hs
    have hk1 : ks.length ≤ 1000 := by omega
    go_enter Try.func4, Try.ntmps4
    go_wp2_with fail
    refine (Small_any H1.out HF.out _ _ _).mono ?_
    rw [HS.out]
    rintro e w' ⟨rfl, rfl⟩
    go_wp2_with fail
    refine (Read_any H1.out HF.out H2.out hk1 vol block).mono ?_
    rintro e w1 ⟨rfl, hb1⟩
    have HB1 : Hid (Below w.heap.size w w1) := Lib.hid (HB0.out.trans (hb1.mono HB0.out.size))
    clear hb1
    go_wp2_with fail
    refine (RefRead_any (H1.out.next HB1.out) HF.out (H2.out.next HB1.out) hsm vol block).mono ?_
    rintro e w2 ⟨rfl, hb2⟩
    have HB2 : Hid (Below w.heap.size w w2) := Lib.hid (HB1.out.trans (hb2.mono HB1.out.size))
    clear hb2
    generalize readS ks vs vol block = S
    generalize readE ks vs vol block = E
    have hE1 : (E != E) = false := by simp
    have hS1 : (S.toList == S.toList) = true := by simp
    go_wp2_with fail
    refine (Back_any (H1.out.next HB2.out) HF.out (H2.out.next HB2.out) hk1).mono ?_
    cases hk : keepB ks vs with
    | true =>
      have HK := Lib.hid hk
      have H0 := Lib.hid (keep_check hk)
      rw [(back_yes hk).1, (back_yes hk).2]
      have HFt : Hid (VolsFit (applyV vs ks)) := Lib.hid fit_applyV
      clear hk
      rintro e w3 ⟨B3, d3, rfl, hB3, hb3⟩
      have K3 := Lib.hid hB3
      clear hB3
      have HB3 : Hid (Below w.heap.size w w3) := Lib.hid (HB2.out.trans (hb3.mono HB2.out.size))
      clear hb3
      go_wp2_with fail
      refine (RefKeep_any (H1.out.next HB3.out) HF.out (H2.out.next HB3.out) hk1).mono ?_
      rw [HK.out]
      rintro e w4 ⟨rfl, hb4⟩
      have K4 := Lib.hid (K3.out.next hb4)
      have HB4 : Hid (Below w.heap.size w w4) := Lib.hid (HB3.out.trans (hb4.mono HB3.out.size))
      clear hb4
      go_wp2_with fail
      refine (RefApply_any (H1.out.next HB4.out) HF.out (H2.out.next HB4.out) hsm).mono ?_
      rw [H0.out]
      rintro e w5 ⟨B5, d5, rfl, hB5, hb5⟩
      have K5 := Lib.hid hB5
      have K45 := Lib.hid (K4.out.next hb5)
      clear hB5
      have HB5 : Hid (Below w.heap.size w w5) := Lib.hid (HB4.out.trans (hb5.mono HB4.out.size))
      clear hb5
      generalize applyV vs ks = V at K3 K4 K5 K45 HFt ⊢
      have HEq : Hid (eqB V V = true) := Lib.hid (by simp [eqB])
      go_wp2_with fail
      refine (RefEqual_any K45.out K5.out HFt.out HFt.out).mono ?_
      rw [HEq.out]
      rintro e w6 ⟨rfl, hb6⟩
      have HB6 : Hid (Below w.heap.size w w6) := Lib.hid (HB5.out.trans (hb6.mono HB5.out.size))
      clear hb6
      go_wp2_with fail
      refine (awake9_any _).mono ?_
      rintro e wz ⟨rfl, hbz⟩
      have HBz : Hid (Below w.heap.size w wz) := Lib.hid (HB6.out.trans (hbz.mono HB6.out.size))
      clear hbz
      go_wp2_with fail
      go_ret
      exact ⟨rfl, HBz.out⟩
    | false =>
      have HK := Lib.hid hk
      rw [(back_no hk).1, (back_no hk).2]
      clear hk
      rintro e w3 ⟨B3, d3, rfl, hB3, hb3⟩
      clear hB3
      have HB3 : Hid (Below w.heap.size w w3) := Lib.hid (HB2.out.trans (hb3.mono HB2.out.size))
      clear hb3
      simp only [List.length_nil]
      go_wp2_with fail
      refine (RefKeep_any (H1.out.next HB3.out) HF.out (H2.out.next HB3.out) hk1).mono ?_
      rw [HK.out]
      rintro e w4 ⟨rfl, hb4⟩
      have HB4 : Hid (Below w.heap.size w w4) := Lib.hid (HB3.out.trans (hb4.mono HB3.out.size))
      clear hb4
      go_wp2_with fail
      refine (awake9_any _).mono ?_
      rintro e wz ⟨rfl, hbz⟩
      have HBz : Hid (Below w.heap.size w wz) := Lib.hid (HB4.out.trans (hbz.mono HB4.out.size))
      clear hbz
      go_wp2_with fail
      go_ret
      exact ⟨rfl, HBz.out⟩

set_option maxHeartbeats 4000000 in
set_option maxRecDepth 100000 in
theorem SnapAlike_walk {w : World} {A A2 : Option Addr} {c c2 : Nat} {vs : List Vl} {ks : List Wr} (h2 : WrsAt w w.heap.size A2 ks) (hn : ks.length ≤ 9223372036854775807 ∧ (A2 = none → c2 = 0)) (h : VolsAt w w.heap.size A vs) (hf : VolsFit vs) (vol block : Int) :
    Calls Try.prog 7 #[.slice A2 ks.length c2, .slice A vs.length c, .int .i64 vol, .int .i64 block] w fun e w' => e = .returned (.bool true) ∧ Below w.heap.size w w' := by
  have H1 := Lib.hid h
  have HF := Lib.hid hf
  have H2 := Lib.hid h2
  have HB0 := Lib.hid (Below.refl w.heap.size w)
  have hnl := hn.1
  clear h hf h2 hn
  cases hs : smallB vs ks.length with
  | false =>
    have HS := Lib.hid hs
    clear hs
    go_enter Try.func7, Try.ntmps7
    go_wp2_with fail
    refine (Small_any H1.out HF.out _ _ _).mono ?_
    rw [HS.out]
    rintro e w' ⟨rfl, rfl⟩
    go_wp2_with fail
    refine (awake9_any _).mono ?_
    rintro e wz ⟨rfl, hbz⟩
    have HBz : Hid (Below w.heap.size w wz) := Lib.hid (HB0.out.trans (hbz.mono HB0.out.size))
    clear hbz
    go_wp2_with fail
    go_ret
    exact ⟨rfl, HBz.out⟩
  | true =>
    have HS := Lib.hid hs
    have hsm := ((smallB_iff _ _).1 hs).2.1
    clear hs
    have hk1 : ks.length ≤ 1000 := by omega
    go_enter Try.func7, Try.ntmps7
    go_wp2_with fail
    refine (Small_any H1.out HF.out _ _ _).mono ?_
    rw [HS.out]
    rintro e w' ⟨rfl, rfl⟩
    go_wp2_with fail
    refine (Back_any H1.out HF.out H2.out hk1).mono ?_
    cases hk : keepB ks vs with
    | true =>
      rw [(back_yes hk).1, (back_yes hk).2]
      have HFt : Hid (VolsFit (applyV vs ks)) := Lib.hid fit_applyV
      have HRt : Hid (rightB (applyV vs ks) = true) := Lib.hid (by rw [applyV_ok (keep_check hk)]; exact (right_apply (keep_check hk)).2.2)
      have HAl := Lib.hid (read_alike hk vol block)
      have HRE : Hid (readE ks vs vol block = gotE vs vol block) := Lib.hid (by unfold readE; rw [if_pos hk])
      clear hk
      rintro e w1 ⟨B1, d1, rfl, hB1, hb1⟩
      have K1 := Lib.hid hB1
      clear hB1
      have HB1 : Hid (Below w.heap.size w w1) := Lib.hid (HB0.out.trans (hb1.mono HB0.out.size))
      clear hb1
      have HGt : Hid (gtS (applyV vs ks) vol block = readS ks vs vol block ∧ gtE (applyV vs ks) vol block = gotE vs vol block) := Lib.hid (by
        unfold gtS gtE
        rw [if_pos HRt.out, if_pos HRt.out]
        exact ⟨HAl.out.2, HAl.out.1⟩)
      generalize applyV vs ks = V at K1 HFt HGt ⊢
      go_wp2_with fail
      refine (Read_any (H1.out.next HB1.out) HF.out (H2.out.next HB1.out) hk1 vol block).mono ?_
      rw [HRE.out]
      rintro e w2 ⟨rfl, hb2⟩
      have K2 := Lib.hid (K1.out.next hb2)
      have HB2 : Hid (Below w.heap.size w w2) := Lib.hid (HB1.out.trans (hb2.mono HB1.out.size))
      clear hb2
      generalize readS ks vs vol block = S at HGt ⊢
      generalize gotE vs vol block = E at HGt ⊢
      have hE1 : (E == E) = true := by simp
      have hS1 : (S.toList == S.toList) = true := by simp
      go_wp2_with fail
      refine (Get_any K2.out HFt.out vol block).mono ?_
      rw [HGt.out.1, HGt.out.2]
      rintro e w3 ⟨rfl, hb3⟩
      have HB3 : Hid (Below w.heap.size w w3) := Lib.hid (HB2.out.trans (hb3.mono HB2.out.size))
      clear hb3
      go_wp2_with fail
      refine (awake9_any _).mono ?_
      rintro e wz ⟨rfl, hbz⟩
      have HBz : Hid (Below w.heap.size w wz) := Lib.hid (HB3.out.trans (hbz.mono HB3.out.size))
      clear hbz
      go_wp2_with fail
      go_ret
      exact ⟨rfl, HBz.out⟩
    | false =>
      rw [(back_no hk).1, (back_no hk).2]
      have HRd := Lib.hid (read_bad hk vol block)
      clear hk
      rintro e w1 ⟨B1, d1, rfl, hB1, hb1⟩
      clear hB1
      have HB1 : Hid (Below w.heap.size w w1) := Lib.hid (HB0.out.trans (hb1.mono HB0.out.size))
      clear hb1
      simp only [List.length_nil]
      go_wp2_with fail
      refine (Read_any (H1.out.next HB1.out) HF.out (H2.out.next HB1.out) hk1 vol block).mono ?_
      rw [HRd.out.1, HRd.out.2]
      rintro e w2 ⟨rfl, hb2⟩
      have HB2 : Hid (Below w.heap.size w w2) := Lib.hid (HB1.out.trans (hb2.mono HB1.out.size))
      clear hb2
      go_wp2_with fail
      refine (awake9_any _).mono ?_
      rintro e wz ⟨rfl, hbz⟩
      have HBz : Hid (Below w.heap.size w wz) := Lib.hid (HB2.out.trans (hbz.mono HB2.out.size))
      clear hbz
      go_wp2_with fail
      go_ret
      exact ⟨rfl, HBz.out⟩
end Go.Proofs.Ytaenlcokgplgkaa
