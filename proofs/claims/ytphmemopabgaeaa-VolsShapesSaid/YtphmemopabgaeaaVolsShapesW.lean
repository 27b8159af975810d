/- The walk of VolsShapes. -/
import Derived.Test.YtphmemopabgaeaaVolRs
namespace Go.Proofs.Ytphmemopabgaeaa
open Go.RowKit

theorem fitA {vs : List Vl} {id n : Int} : VolsFit (addV vs id n) := by
  by_cases h : addE vs id n = 0
  · exact right_fit (add_undo h).2.1
  · unfold addV; rw [if_neg h]; exact ⟨by simp, by simp⟩
theorem fitD {vs : List Vl} {id : Int} : VolsFit (dropV vs id) := by
  by_cases h : dropE vs id = 0
  · exact right_fit (put_drop h).1
  · unfold dropV; rw [if_neg h]; exact ⟨by simp, by simp⟩
theorem fitR {vs : List Vl} {id n : Int} : VolsFit (resV vs id n) := by
  by_cases h : resE vs id n = 0
  · obtain ⟨_, _, _, _, _, _, hr⟩ := res_ok h; exact right_fit hr
  · unfold resV; rw [if_neg h]; exact ⟨by simp, by simp⟩
theorem bool_beq_s (b : Bool) : (b == b) = true := by cases b <;> rfl
theorem eqB_self (vs : List Vl) : eqB vs vs = true := by simp [eqB]

set_option maxHeartbeats 8000000 in
set_option maxRecDepth 100000 in
theorem VolsShapes_walk {w : World} {A : Option Addr} {c : Nat} {vs : List Vl} (h : VolsAt w w.heap.size A vs) (hf : VolsFit vs) (id n : Int) :
    Calls Try.prog 3 #[.slice A vs.length c, .int .i64 id, .int .i64 n] w fun e w' => e = .returned (.bool true) ∧ Below w.heap.size w w' := by
  have HV := Lib.hid h
  have HF := Lib.hid hf
  clear h hf
  cases hs1 : smallB vs 0 with
  | false =>
    have HS := Lib.hid hs1
    clear hs1
    go_enter Try.func3, Try.ntmps3
    go_wp2_with fail
    refine (Small_any HV.out HF.out _ _ _).mono ?_
    rw [HS.out]
    rintro e w' ⟨rfl, rfl⟩
    go_wp2_with fail
    refine (awake_any _).mono ?_
    rintro e w1 ⟨rfl, hb⟩
    replace hb := Lib.hid hb
    go_wp2_with fail
    go_ret
    exact ⟨rfl, hb.out⟩
  | true =>
    have HS1 := Lib.hid hs1
    clear hs1
    have FA : Hid (VolsFit (addV vs id n)) := Lib.hid fitA
    have FD : Hid (VolsFit (dropV vs id)) := Lib.hid fitD
    have FR : Hid (VolsFit (resV vs id n)) := Lib.hid fitR
    obtain ⟨X, hX⟩ : ∃ X, addV vs id n = X := ⟨_, rfl⟩
    obtain ⟨Y, hY⟩ : ∃ Y, dropV vs id = Y := ⟨_, rfl⟩
    obtain ⟨Z, hZ⟩ : ∃ Z, resV vs id n = Z := ⟨_, rfl⟩
    obtain ⟨E1, hE1⟩ : ∃ E, addE vs id n = E := ⟨_, rfl⟩
    obtain ⟨E2, hE2⟩ : ∃ E, dropE vs id = E := ⟨_, rfl⟩
    obtain ⟨E3, hE3⟩ : ∃ E, resE vs id n = E := ⟨_, rfl⟩
    obtain ⟨R, hR⟩ : ∃ R, rightB vs = R := ⟨_, rfl⟩
    rw [hX] at FA
    rw [hY] at FD
    rw [hZ] at FR
    have KX := Lib.hid hX
    have KY := Lib.hid hY
    have KZ := Lib.hid hZ
    have K1 := Lib.hid hE1
    have K2 := Lib.hid hE2
    have K3 := Lib.hid hE3
    have KR := Lib.hid hR
    clear hX hY hZ hE1 hE2 hE3 hR
    have QX := Lib.hid (eqB_self X)
    have QY := Lib.hid (eqB_self Y)
    have QZ := Lib.hid (eqB_self Z)
    have hRR := bool_beq_s R
    go_enter Try.func3, Try.ntmps3
    go_wp2_with fail
    refine (Small_any HV.out HF.out _ _ _).mono ?_
    rw [HS1.out]
    rintro e w' ⟨rfl, rfl⟩
    go_wp2_with fail
    refine (Add_any HV.out HF.out _ _).mono ?_
    rw [KX.out, K1.out]
    rintro e w1 ⟨A1, c1, rfl, hv1, hb1⟩
    have V1 := Lib.hid hv1
    have B1 := Lib.hid hb1
    clear hv1 hb1
    go_wp2_with fail
    refine (RefAdd_any (HV.out.next B1.out) HF.out _ _).mono ?_
    rw [KX.out, K1.out]
    rintro e w2 ⟨A2, c2, rfl, hv2, hb2⟩
    have V2 := Lib.hid hv2
    have V1' : Hid (VolsAt w2 w2.heap.size A1 X) := Lib.hid (V1.out.next hb2)
    have B2 := Lib.hid (below_next B1.out hb2)
    clear hv2 hb2 V1 B1
    go_wp2_with fail
    refine (Drop_any (HV.out.next B2.out) HF.out _).mono ?_
    rw [KY.out, K2.out]
    rintro e w3 ⟨A3, c3, rfl, hv3, hb3⟩
    have V3 := Lib.hid hv3
    have V12 : Hid (VolsAt w3 w3.heap.size A1 X ∧ VolsAt w3 w3.heap.size A2 X) := Lib.hid ⟨V1'.out.next hb3, V2.out.next hb3⟩
    have B3 := Lib.hid (below_next B2.out hb3)
    clear hv3 hb3 V1' V2 B2
    go_wp2_with fail
    refine (RefDrop_any (HV.out.next B3.out) HF.out _).mono ?_
    rw [KY.out, K2.out]
    rintro e w4 ⟨A4, c4, rfl, hv4, hb4⟩
    have V4 := Lib.hid hv4
    have V123 : Hid (VolsAt w4 w4.heap.size A1 X ∧ VolsAt w4 w4.heap.size A2 X ∧ VolsAt w4 w4.heap.size A3 Y) := Lib.hid ⟨V12.out.1.next hb4, V12.out.2.next hb4, V3.out.next hb4⟩
    have B4 := Lib.hid (below_next B3.out hb4)
    clear hv4 hb4 V12 V3 B3
    go_wp2_with fail
    refine (Resize_any (HV.out.next B4.out) HF.out _ _).mono ?_
    rw [KZ.out, K3.out]
    rintro e w5 ⟨A5, c5, rfl, hv5, hb5⟩
    have V5 := Lib.hid hv5
    have V1234 : Hid (VolsAt w5 w5.heap.size A1 X ∧ VolsAt w5 w5.heap.size A2 X ∧ VolsAt w5 w5.heap.size A3 Y ∧ VolsAt w5 w5.heap.size A4 Y) := Lib.hid ⟨V123.out.1.next hb5, V123.out.2.1.next hb5, V123.out.2.2.next hb5, V4.out.next hb5⟩
    have B5 := Lib.hid (below_next B4.out hb5)
    clear hv5 hb5 V123 V4 B4
    go_wp2_with fail
    refine (RefResize_any (HV.out.next B5.out) HF.out _ _).mono ?_
    rw [KZ.out, K3.out]
    rintro e w6 ⟨A6, c6, rfl, hv6, hb6⟩
    have VA : Hid (∀ W, Below w6.heap.size w6 W → VolsAt W W.heap.size A1 X ∧ VolsAt W W.heap.size A2 X ∧ VolsAt W W.heap.size A3 Y ∧ VolsAt W W.heap.size A4 Y ∧ VolsAt W W.heap.size A5 Z ∧ VolsAt W W.heap.size A6 Z) := Lib.hid (fun W hW =>
      ⟨(V1234.out.1.next hb6).next hW, (V1234.out.2.1.next hb6).next hW, (V1234.out.2.2.1.next hb6).next hW, (V1234.out.2.2.2.next hb6).next hW, (V5.out.next hb6).next hW, hv6.next hW⟩)
    have B6 := Lib.hid (below_next B5.out hb6)
    clear hv6 hb6 V1234 V5 B5
    go_wp2_with fail
    refine (RefEqual_any (VA.out _ (Below.refl _ _)).1 (VA.out _ (Below.refl _ _)).2.1 FA.out FA.out).mono ?_
    rw [QX.out]
    rintro e w7 ⟨rfl, hb7⟩
    have B7 := Lib.hid hb7
    clear hb7
    go_wp2_with fail
    refine (RefEqual_any (VA.out _ B7.out).2.2.1 (VA.out _ B7.out).2.2.2.1 FD.out FD.out).mono ?_
    rw [QY.out]
    rintro e w8 ⟨rfl, hb8⟩
    have B8 := Lib.hid (below_next B7.out hb8)
    clear hb8 B7
    go_wp2_with fail
    refine (RefEqual_any (VA.out _ B8.out).2.2.2.2.1 (VA.out _ B8.out).2.2.2.2.2 FR.out FR.out).mono ?_
    rw [QZ.out]
    rintro e w9 ⟨rfl, hb9⟩
    have B9 := Lib.hid (below_next B6.out (below_next B8.out hb9))
    clear hb9 B8
    go_wp2_with fail
    refine (Right_any (HV.out.next B9.out) HF.out).mono ?_
    rw [KR.out]
    rintro e w10 ⟨rfl, hb10⟩
    have B10 := Lib.hid (below_next B9.out hb10)
    clear hb10 B9
    go_wp2_with fail
    refine (RefRight_any (HV.out.next B10.out) HF.out).mono ?_
    rw [KR.out]
    rintro e w11 ⟨rfl, hb11⟩
    have B11 := Lib.hid (below_next B10.out hb11)
    clear hb11 B10
    go_wp2_with fail
    refine (awake_any _).mono ?_
    rintro e w12 ⟨rfl, hb12⟩
    have B12 := Lib.hid (below_next B11.out hb12)
    clear hb12
    go_wp2_with fail
    go_ret
    exact ⟨rfl, B12.out⟩
end Go.Proofs.Ytphmemopabgaeaa
