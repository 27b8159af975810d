/- The walk of VolsGets. -/
import Derived.Test.YtphmemopabgaeaaVolN
namespace Go.Proofs.Ytphmemopabgaeaa
open Go.RowKit

theorem gt_right {vs : List Vl} {vol block : Int} (h : rightB vs = true) : gtE vs vol block = gotE vs vol block ∧ gtS vs vol block = gotS vs vol block := by
  unfold gtE gtS; rw [if_pos h, if_pos h]; exact ⟨rfl, rfl⟩

set_option maxHeartbeats 1600000 in
theorem VolsGets_walk {w : World} {A : Option Addr} {c : Nat} {vs : List Vl} (h : VolsAt w w.heap.size A vs) (hf : VolsFit vs) (vol block : Int) :
    Calls Try.prog 4 #[.slice A vs.length c, .int .i64 vol, .int .i64 block] w fun e w' => e = .returned (.bool true) ∧ Below w.heap.size w w' := by
  have HV := Lib.hid h
  have HF := Lib.hid hf
  have hl := hf.1
  cases hs : smallB vs 0 with
  | false =>
    have HS := Lib.hid hs
    clear h hf hs
    go_enter Try.func4, Try.ntmps4
    go_wp2_with (first
      | (go_at_call 11; refine (Small_any HV.out HF.out _ _ _).mono ?_; rw [HS.out]; rintro e w' ⟨rfl, rfl⟩)
      | (go_at_call 12; refine (awake_any _).mono ?_; rintro e w1 ⟨rfl, hb⟩; replace hb := Lib.hid hb))
    go_ret
    exact ⟨rfl, hb.out⟩
  | true =>
    have HS := Lib.hid hs
    clear hs
    cases hr : rightB vs with
    | false =>
      have HR := Lib.hid hr
      have HG := Lib.hid (gt_not (vol := vol) (block := block) hr)
      have he : (ByteArray.empty.toList == []) = true := by rw [bytes_list]; rfl
      clear h hf hr
      go_enter Try.func4, Try.ntmps4
      go_wp2_with (first
        | (go_at_call 11; refine (Small_any HV.out HF.out _ _ _).mono ?_; rw [HS.out]; rintro e w' ⟨rfl, rfl⟩)
        | (go_at_call 22; refine (Get_any HV.out HF.out _ _).mono ?_; rw [HG.out.1, HG.out.2]; rintro e w1 ⟨rfl, hb⟩; replace hb := Lib.hid hb)
        | (go_at_call 21; refine (RefRight_any (HV.out.next hb.out) HF.out).mono ?_; rw [HR.out]; rintro e w2 ⟨rfl, hb2⟩; have HB2 := Lib.hid (below_next hb.out hb2); clear hb2)
        | (go_at_call 12; refine (awake_any _).mono ?_; rintro e w3 ⟨rfl, hb3⟩; have HB3 := Lib.hid (below_next HB2.out hb3); clear hb3))
      go_ret
      exact ⟨rfl, HB3.out⟩
    | true =>
      have HR := Lib.hid hr
      have HG := Lib.hid (gt_right (vol := vol) (block := block) hr)
      clear h hf hr
      obtain ⟨s, hs⟩ : ∃ s, gotS vs vol block = s := ⟨_, rfl⟩
      obtain ⟨t, ht⟩ : ∃ t, gotE vs vol block = t := ⟨_, rfl⟩
      have HT := Lib.hid ht
      have HSS := Lib.hid hs
      rw [hs, ht] at HG
      clear hs ht
      go_enter Try.func4, Try.ntmps4
      go_wp2_with (first
        | (go_at_call 11; refine (Small_any HV.out HF.out _ _ _).mono ?_; rw [HS.out]; rintro e w' ⟨rfl, rfl⟩)
        | (go_at_call 22; refine (Get_any HV.out HF.out _ _).mono ?_; rw [HG.out.1, HG.out.2]; rintro e w1 ⟨rfl, hb⟩; replace hb := Lib.hid hb)
        | (go_at_call 21; refine (RefRight_any (HV.out.next hb.out) HF.out).mono ?_; rw [HR.out]; rintro e w2 ⟨rfl, hb2⟩; have HB2 := Lib.hid (below_next hb.out hb2); clear hb2)
        | (go_at_call 23; refine (RefGet_any (HV.out.next HB2.out) hl _ _).mono ?_; rw [HT.out, HSS.out]; rintro e w' ⟨rfl, rfl⟩)
        | (go_at_call 12; refine (awake_any _).mono ?_; rintro e w3 ⟨rfl, hb3⟩; have HB3 := Lib.hid (below_next HB2.out hb3); clear hb3))
      go_ret
      exact ⟨rfl, HB3.out⟩
end Go.Proofs.Ytphmemopabgaeaa
