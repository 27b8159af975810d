/- The walk of VolsApplies. -/
import Derived.Test.YtphmemopabgaeaaVolRa
namespace Go.Proofs.Ytphmemopabgaeaa
open Go.RowKit

theorem fit_applyA {vs : List Vl} {ws : List Wr} : VolsFit (applyV vs ws) := by
  by_cases h : checkE vs ws = 0
  · rw [applyV_ok h]; exact right_fit (right_apply h).2.2
  · rw [applyV_no h]; exact ⟨by simp, by simp⟩

set_option maxHeartbeats 4000000 in
set_option maxRecDepth 100000 in
theorem VolsApplies_walk {w : World} {A A2 : Option Addr} {c c2 : Nat} {vs : List Vl} {ws : List Wr} (h : VolsAt w w.heap.size A vs) (hf : VolsFit vs) (h2 : WrsAt w w.heap.size A2 ws) (hl2 : ws.length ≤ 9223372036854775807 ∧ (A2 = none → c2 = 0)) :
    Calls Try.prog 5 #[.slice A vs.length c, .slice A2 ws.length c2] w fun e w' => e = .returned (.bool true) ∧ Below w.heap.size w w' := by
  have HV := Lib.hid h
  have HF := Lib.hid hf
  have H2 := Lib.hid h2
  have hl := hl2.1
  clear h hf h2 hl2
  cases hs1 : smallB vs ws.length with
  | false =>
    have HS := Lib.hid hs1
    clear hs1
    go_enter Try.func5, Try.ntmps5
    go_wp2_with fail
    refine (Small_any HV.out HF.out _ _ _).mono ?_
    rw [HS.out]
    rintro e w' ⟨rfl, rfl⟩
    go_wp2_with fail
    refine (awake_any _).mono ?_
    rintro e w1 ⟨rfl, hb⟩
    replace hb := Lib.hid hb
    go_wp2_with fail
    go_ret
    exact ⟨rfl, hb.out⟩
  | true =>
    have HS1 := Lib.hid hs1
    have hsm := ((smallB_iff _ _).1 hs1).2.1
    clear hs1
    have HFo : Hid (VolsFit (applyV vs ws)) := Lib.hid fit_applyA
    obtain ⟨X, hX⟩ : ∃ X, applyV vs ws = X := ⟨_, rfl⟩
    have HXe := Lib.hid hX
    rw [hX] at HFo
    clear hX
    obtain ⟨E, hE⟩ : ∃ E, checkE vs ws = E := ⟨_, rfl⟩
    have HEe := Lib.hid hE
    clear hE
    have heq : Hid (eqB X X = true) := Lib.hid (by simp [eqB])
    go_enter Try.func5, Try.ntmps5
    go_wp2_with fail
    refine (Small_any HV.out HF.out _ _ _).mono ?_
    rw [HS1.out]
    rintro e w' ⟨rfl, rfl⟩
    go_wp2_with fail
    refine (Apply_any HV.out HF.out H2.out hl).mono ?_
    rw [HXe.out, HEe.out]
    rintro e w1 ⟨B1, d1, rfl, hv1, hb1⟩
    have HV1 := Lib.hid hv1
    have HB1 := Lib.hid hb1
    clear hv1 hb1
    go_wp2_with fail
    refine (RefApply_any (HV.out.next HB1.out) HF.out (H2.out.next HB1.out) hsm).mono ?_
    rw [HXe.out, HEe.out]
    rintro e w2 ⟨B2, d2, rfl, hv2, hb2⟩
    have HV2 := Lib.hid hv2
    have HV12 : Hid (VolsAt w2 w2.heap.size B1 X) := Lib.hid (HV1.out.next hb2)
    have HB2 := Lib.hid (below_next HB1.out hb2)
    clear hv2 hb2 HV1 HB1
    go_wp2_with fail
    refine (RefEqual_any HV12.out HV2.out HFo.out HFo.out).mono ?_
    rw [heq.out]
    rintro e w3 ⟨rfl, hb3⟩
    have HB3 := Lib.hid (below_next HB2.out hb3)
    clear hb3
    go_wp2_with fail
    refine (Check_any (HV.out.next HB3.out) HF.out (H2.out.next HB3.out) hl).mono ?_
    rw [HEe.out]
    rintro e w4 ⟨rfl, hb4⟩
    have HB4 := Lib.hid (below_next HB3.out hb4)
    clear hb4
    go_wp2_with fail
    refine (awake_any _).mono ?_
    rintro e w5 ⟨rfl, hb5⟩
    have HB5 := Lib.hid (below_next HB4.out hb5)
    clear hb5
    go_wp2_with fail
    go_ret
    exact ⟨rfl, HB5.out⟩
end Go.Proofs.Ytphmemopabgaeaa
