/- The walks of FoldDoes and FoldTakes. -/
import Derived.Test.YtlhklpkpnkjgbaaFoldL
namespace Go.Proofs.Ytlhklpkpnkjgbaa
open Go.Shelf Go.RowKit Go.Lib Go.Sort

theorem sameB_self {vs : List Vl} (h : rightB vs = true) : sameB vs vs = true := by simp [sameB, h]
theorem fit_applyV {vs : List Vl} {ws : List Wr} : VolsFit (applyV vs ws) := by
  by_cases h : checkE vs ws = 0
  · rw [applyV_ok h]; exact right_fit (right_apply h).2.2
  · rw [applyV_no h]; exact ⟨by simp, by simp⟩

set_option maxHeartbeats 4000000 in
set_option maxRecDepth 100000 in
theorem FoldDoes_walk {w : World} {A1 A2 : Option Addr} {c1 c2 : Nat} {vs : List Vl} {ws : List Wr} (h1 : VolsAt w w.heap.size A1 vs) (hf : VolsFit vs) (h2 : WrsAt w w.heap.size A2 ws) (hy : ws.length ≤ 9223372036854775807 ∧ (A2 = none → c2 = 0)) :
    Calls Try.prog 6 #[.slice A1 vs.length c1, .slice A2 ws.length c2] w fun e w' => e = .returned (.bool true) ∧ Below w.heap.size w w' := by
  have H1 := Lib.hid h1
  have HF := Lib.hid hf
  have H2 := Lib.hid h2
  have hyl := hy.1
  have HB0 := Lib.hid (Below.refl w.heap.size w)
  clear h1 h2 hf hy
  cases hs : smallB vs ws.length with
  | false =>
    have HS := Lib.hid hs
    clear hs
    go_enter Try.func6, Try.ntmps6
    go_wp2_with fail
    refine (Small_any H1.out HF.out _ _ _).mono ?_
    rw [HS.out]
    rintro e w' ⟨rfl, rfl⟩
    go_wp2_with fail
    refine (awake8_any _).mono ?_
    rintro e wz ⟨rfl, hbz⟩
    have HBz : Hid (Below w.heap.size w wz) := Lib.hid (HB0.out.trans (hbz.mono HB0.out.size))
    clear hbz
    go_wp2_with fail
    go_ret
    exact ⟨rfl, HBz.out⟩
  | true =>
    have HS := Lib.hid hs
    have hsm := ((smallB_iff _ _).1 hs).2.1
    clear hs
    have hn : ws.length ≤ 1000 := by omega
    have hFl : (foldW ws).length ≤ 9223372036854775807 := by have := foldW_len ws; omega
    have HFl := Lib.hid hFl
    clear hFl
    by_cases h0 : checkE vs ws = 0
    · obtain ⟨g1, g2⟩ := fold_does h0
      have HSm : Hid (sameB (applyV vs ws) (applyV vs ws) = true) := Lib.hid (sameB_self (by rw [applyV_ok h0]; exact (right_apply h0).2.2))
      have HFt : Hid (VolsFit (applyV vs ws)) := Lib.hid fit_applyV
      have H0 := Lib.hid h0
      have G1 := Lib.hid g1
      have G2 := Lib.hid g2
      obtain ⟨V, hV⟩ : ∃ V, applyV vs ws = V := ⟨_, rfl⟩
      have HV := Lib.hid hV
      rw [hV] at HSm HFt G2
      obtain ⟨F, hFF⟩ : ∃ F, foldW ws = F := ⟨_, rfl⟩
      have HFF := Lib.hid hFF
      rw [hFF] at G1 G2 HFl
      clear hV hFF h0 g1 g2
      go_enter Try.func6, Try.ntmps6
      go_wp2_with fail
      refine (Small_any H1.out HF.out _ _ _).mono ?_
      rw [HS.out]
      rintro e w' ⟨rfl, rfl⟩
      go_wp2_with fail
      refine (Apply_any H1.out HF.out H2.out hyl).mono ?_
      rw [HV.out, H0.out]
      rintro e w1 ⟨B1, d1, rfl, hB1, hb1⟩
      have K1 := Lib.hid hB1
      clear hB1
      have HB1 : Hid (Below w.heap.size w w1) := Lib.hid (HB0.out.trans (hb1.mono HB0.out.size))
      clear hb1
      go_wp2_with fail
      refine (Fold_any (H2.out.next HB1.out) hn).mono ?_
      rw [HFF.out]
      rintro e w2 ⟨B2, d2, rfl, hB2, _, hb2⟩
      have K2 := Lib.hid hB2
      have K12 := Lib.hid (K1.out.next hb2)
      clear hB2
      have HB2 : Hid (Below w.heap.size w w2) := Lib.hid (HB1.out.trans (hb2.mono HB1.out.size))
      clear hb2
      go_wp2_with fail
      refine (Apply_any (H1.out.next HB2.out) HF.out K2.out HFl.out).mono ?_
      rw [G2.out, G1.out]
      rintro e w3 ⟨B3, d3, rfl, hB3, hb3⟩
      have K3 := Lib.hid hB3
      have K13 := Lib.hid (K12.out.next hb3)
      clear hB3
      have HB3 : Hid (Below w.heap.size w w3) := Lib.hid (HB2.out.trans (hb3.mono HB2.out.size))
      clear hb3
      go_wp2_with fail
      refine (Same_any K13.out K3.out HFt.out HFt.out).mono ?_
      rw [HSm.out]
      rintro e w4 ⟨rfl, hb4⟩
      have HB4 : Hid (Below w.heap.size w w4) := Lib.hid (HB3.out.trans (hb4.mono HB3.out.size))
      clear hb4
      go_wp2_with fail
      refine (awake8_any _).mono ?_
      rintro e wz ⟨rfl, hbz⟩
      have HBz : Hid (Below w.heap.size w wz) := Lib.hid (HB4.out.trans (hbz.mono HB4.out.size))
      clear hbz
      go_wp2_with fail
      go_ret
      exact ⟨rfl, HBz.out⟩
    · have HNo := Lib.hid (applyV_no h0)
      have h0' : (checkE vs ws != 0) = true := by rw [bne_iff_ne]; exact h0
      obtain ⟨E, hE⟩ : ∃ E, checkE vs ws = E := ⟨_, rfl⟩
      rw [hE] at h0'
      have HE := Lib.hid hE
      clear hE h0
      obtain ⟨F, hFF⟩ : ∃ F, foldW ws = F := ⟨_, rfl⟩
      have HFF := Lib.hid hFF
      rw [hFF] at HFl
      clear hFF
      go_enter Try.func6, Try.ntmps6
      go_wp2_with fail
      refine (Small_any H1.out HF.out _ _ _).mono ?_
      rw [HS.out]
      rintro e w' ⟨rfl, rfl⟩
      go_wp2_with fail
      refine (Apply_any H1.out HF.out H2.out hyl).mono ?_
      rw [HNo.out, HE.out]
      rintro e w1 ⟨B1, d1, rfl, hB1, hb1⟩
      clear hB1
      (try simp only [List.length_nil])
      have HB1 : Hid (Below w.heap.size w w1) := Lib.hid (HB0.out.trans (hb1.mono HB0.out.size))
      clear hb1
      go_wp2_with fail
      refine (Fold_any (H2.out.next HB1.out) hn).mono ?_
      rw [HFF.out]
      rintro e w2 ⟨B2, d2, rfl, hB2, _, hb2⟩
      have K2 := Lib.hid hB2
      clear hB2
      have HB2 : Hid (Below w.heap.size w w2) := Lib.hid (HB1.out.trans (hb2.mono HB1.out.size))
      clear hb2
      go_wp2_with fail
      refine (Apply_any (H1.out.next HB2.out) HF.out K2.out HFl.out).mono ?_
      rintro e w3 ⟨B3, d3, rfl, hB3, hb3⟩
      clear hB3
      have HB3 : Hid (Below w.heap.size w w3) := Lib.hid (HB2.out.trans (hb3.mono HB2.out.size))
      clear hb3
      generalize (applyV vs F).length = q1
      generalize checkE vs F = q2
      go_wp2_with fail
      refine (awake8_any _).mono ?_
      rintro e wz ⟨rfl, hbz⟩
      have HBz : Hid (Below w.heap.size w wz) := Lib.hid (HB3.out.trans (hbz.mono HB3.out.size))
      clear hbz
      go_wp2_with fail
      go_ret
      exact ⟨rfl, HBz.out⟩

set_option maxHeartbeats 4000000 in
set_option maxRecDepth 100000 in
theorem FoldTakes_walk {w : World} {A1 A2 : Option Addr} {c1 c2 : Nat} {vs : List Vl} {ws : List Wr} (h1 : VolsAt w w.heap.size A1 vs) (hf : VolsFit vs) (h2 : WrsAt w w.heap.size A2 ws) (hy : ws.length ≤ 9223372036854775807 ∧ (A2 = none → c2 = 0)) :
    Calls Try.prog 8 #[.slice A1 vs.length c1, .slice A2 ws.length c2] w fun e w' => e = .returned (.bool true) ∧ Below w.heap.size w w' := by
  have H1 := Lib.hid h1
  have HF := Lib.hid hf
  have H2 := Lib.hid h2
  have hyl := hy.1
  have HB0 := Lib.hid (Below.refl w.heap.size w)
  clear h1 h2 hf hy
  cases hs : smallB vs ws.length with
  | false =>
    have HS := Lib.hid hs
    clear hs
    go_enter Try.func8, Try.ntmps8
    go_wp2_with fail
    refine (Small_any H1.out HF.out _ _ _).mono ?_
    rw [HS.out]
    rintro e w' ⟨rfl, rfl⟩
    go_wp2_with fail
    refine (awake8_any _).mono ?_
    rintro e wz ⟨rfl, hbz⟩
    have HBz : Hid (Below w.heap.size w wz) := Lib.hid (HB0.out.trans (hbz.mono HB0.out.size))
    clear hbz
    go_wp2_with fail
    go_ret
    exact ⟨rfl, HBz.out⟩
  | true =>
    have HS := Lib.hid hs
    have hsm := ((smallB_iff _ _).1 hs).2.1
    clear hs
    have hn : ws.length ≤ 1000 := by omega
    by_cases h0 : checkE vs ws = 0
    · obtain ⟨g1, g2, g3, g4, g5⟩ := fold_takes h0
      have HSm : Hid (sameB vs vs = true) := Lib.hid (sameB_self (right_apply h0).1)
      have HFt : Hid (VolsFit (applyV vs ws)) := Lib.hid fit_applyV
      have HMl : Hid ((marksW ws).length ≤ 1000) := Lib.hid (by have := foldW_len ws; unfold marksW; rw [List.length_map]; omega)
      have HPl : Hid ((pickV vs (marksW ws)).length ≤ 9223372036854775807) := Lib.hid (by
        unfold pickV; rw [if_pos g1, pickL_length]; have := HMl.out; omega)
      have H0 := Lib.hid h0
      have G1 := Lib.hid g1
      have G2 := Lib.hid g2
      have G3 := Lib.hid g3
      have G4 := Lib.hid g4
      have G5 := Lib.hid g5
      clear g1 g2 g3 g4 g5 h0
      obtain ⟨V, hV⟩ : ∃ V, applyV vs ws = V := ⟨_, rfl⟩
      have HV := Lib.hid hV
      rw [hV] at HFt G4 G5
      obtain ⟨M, hM⟩ : ∃ M, marksW ws = M := ⟨_, rfl⟩
      have HM := Lib.hid hM
      rw [hM] at HMl HPl G1 G2 G3 G4 G5
      obtain ⟨L, hL⟩ : ∃ L, pickV vs M = L := ⟨_, rfl⟩
      have HL := Lib.hid hL
      rw [hL] at HPl G2 G3 G4 G5
      clear hV hM hL
      go_enter Try.func8, Try.ntmps8
      go_wp2_with fail
      refine (Small_any H1.out HF.out _ _ _).mono ?_
      rw [HS.out]
      rintro e w' ⟨rfl, rfl⟩
      go_wp2_with fail
      refine (Apply_any H1.out HF.out H2.out hyl).mono ?_
      rw [HV.out, H0.out]
      rintro e w1 ⟨B1, d1, rfl, hB1, hb1⟩
      have K1 := Lib.hid hB1
      clear hB1
      have HB1 : Hid (Below w.heap.size w w1) := Lib.hid (HB0.out.trans (hb1.mono HB0.out.size))
      clear hb1
      go_wp2_with fail
      refine (Marks_any (H2.out.next HB1.out) hn).mono ?_
      rw [HM.out]
      rintro e w2 ⟨B2, d2, rfl, hB2, hb2⟩
      have K2 := Lib.hid hB2
      have K12 := Lib.hid (K1.out.next hb2)
      clear hB2
      have HB2 : Hid (Below w.heap.size w w2) := Lib.hid (HB1.out.trans (hb2.mono HB1.out.size))
      clear hb2
      go_wp2_with fail
      refine (Pick_any (H1.out.next HB2.out) HF.out K2.out HMl.out).mono ?_
      rw [HL.out, G1.out]
      rintro e w3 ⟨B3, d3, rfl, hB3, _, hb3⟩
      have K3 := Lib.hid hB3
      have K13 := Lib.hid (K12.out.next hb3)
      clear hB3
      have HB3 : Hid (Below w.heap.size w w3) := Lib.hid (HB2.out.trans (hb3.mono HB2.out.size))
      clear hb3
      go_wp2_with fail
      refine (Apply_any (H1.out.next HB3.out) HF.out K3.out HPl.out).mono ?_
      rw [G3.out, G2.out]
      rintro e w4 ⟨B4, d4, rfl, hB4, hb4⟩
      have K4 := Lib.hid hB4
      have K14 := Lib.hid (K13.out.next hb4)
      have K34 := Lib.hid (K3.out.next hb4)
      clear hB4
      have HB4 : Hid (Below w.heap.size w w4) := Lib.hid (HB3.out.trans (hb4.mono HB3.out.size))
      clear hb4
      go_wp2_with fail
      refine (Apply_any K14.out HFt.out K34.out HPl.out).mono ?_
      rw [G5.out, G4.out]
      rintro e w5 ⟨B5, d5, rfl, hB5, hb5⟩
      have K5 := Lib.hid hB5
      have K45 := Lib.hid (K4.out.next hb5)
      clear hB5
      have HB5 : Hid (Below w.heap.size w w5) := Lib.hid (HB4.out.trans (hb5.mono HB4.out.size))
      clear hb5
      go_wp2_with fail
      refine (Same_any K45.out (H1.out.next HB5.out) HF.out HF.out).mono ?_
      rw [HSm.out]
      rintro e w6 ⟨rfl, hb6⟩
      have K56 := Lib.hid (K5.out.next hb6)
      have HB6 : Hid (Below w.heap.size w w6) := Lib.hid (HB5.out.trans (hb6.mono HB5.out.size))
      clear hb6
      go_wp2_with fail
      refine (Same_any K56.out (H1.out.next HB6.out) HF.out HF.out).mono ?_
      rw [HSm.out]
      rintro e w7 ⟨rfl, hb7⟩
      have HB7 : Hid (Below w.heap.size w w7) := Lib.hid (HB6.out.trans (hb7.mono HB6.out.size))
      clear hb7
      go_wp2_with fail
      refine (awake8_any _).mono ?_
      rintro e wz ⟨rfl, hbz⟩
      have HBz : Hid (Below w.heap.size w wz) := Lib.hid (HB7.out.trans (hbz.mono HB7.out.size))
      clear hbz
      go_wp2_with fail
      go_ret
      exact ⟨rfl, HBz.out⟩
    · have HNo := Lib.hid (applyV_no h0)
      have h0' : (checkE vs ws != 0) = true := by rw [bne_iff_ne]; exact h0
      obtain ⟨E, hE⟩ : ∃ E, checkE vs ws = E := ⟨_, rfl⟩
      rw [hE] at h0'
      have HE := Lib.hid hE
      clear hE h0
      go_enter Try.func8, Try.ntmps8
      go_wp2_with fail
      refine (Small_any H1.out HF.out _ _ _).mono ?_
      rw [HS.out]
      rintro e w' ⟨rfl, rfl⟩
      go_wp2_with fail
      refine (Apply_any H1.out HF.out H2.out hyl).mono ?_
      rw [HNo.out, HE.out]
      rintro e w1 ⟨B1, d1, rfl, hB1, hb1⟩
      clear hB1
      (try simp only [List.length_nil])
      have HB1 : Hid (Below w.heap.size w w1) := Lib.hid (HB0.out.trans (hb1.mono HB0.out.size))
      clear hb1
      go_wp2_with fail
      refine (awake8_any _).mono ?_
      rintro e wz ⟨rfl, hbz⟩
      have HBz : Hid (Below w.heap.size w wz) := Lib.hid (HB1.out.trans (hbz.mono HB1.out.size))
      clear hbz
      go_wp2_with fail
      go_ret
      exact ⟨rfl, HBz.out⟩
end Go.Proofs.Ytlhklpkpnkjgbaa
