/- The walk of VolsStay. -/
import Derived.Test.YtphmemopabgaeaaVolY
import Derived.Test.YtphmemopabgaeaaVolW
namespace Go.Proofs.Ytphmemopabgaeaa
open Go.RowKit

theorem fit_apply' {vs : List Vl} {ws : List Wr} : VolsFit (applyV vs ws) := by
  by_cases h : checkE vs ws = 0
  · rw [applyV_ok h]; exact right_fit (right_apply h).2.2
  · rw [applyV_no h]; exact ⟨by simp, by simp⟩
theorem sizesV_short (vs : List Vl) : (sizesV vs).length ≤ 8 := by
  unfold sizesV
  by_cases h : rightB vs = true
  · rw [if_pos h, sizesOf_length]; have := (right_small h).1; omega
  · rw [if_neg h]; simp
theorem Lies.num {w w' : World} {B : Nat} {a : Option Addr} {l : List Int} (h : Lies w B a (l.map (Value.int .i64))) (hb : Below B w w') {k : Nat} (hk : k < l.length) :
    ∃ b off, a = some ⟨b, off, none⟩ ∧ b < B ∧ w'.cell? ⟨b, off + k, none⟩ = some (.int .i64 l[k]) := by
  obtain ⟨b, off, hA, hlt, hc⟩ := h.at_ (by intro e; simp at e; subst e; simp at hk)
  refine ⟨b, off, hA, hlt, ?_⟩
  rw [hb.cell (p := ⟨b, off + k, none⟩) hlt, hc k (by simpa using hk)]
  simp

set_option maxHeartbeats 8000000 in
set_option maxRecDepth 100000 in
theorem VolsStay_walk {w : World} {A A2 : Option Addr} {c c2 : Nat} {vs : List Vl} {ws : List Wr} (h : VolsAt w w.heap.size A vs) (hf : VolsFit vs) (h2 : WrsAt w w.heap.size A2 ws) (hl2 : ws.length ≤ 9223372036854775807 ∧ (A2 = none → c2 = 0)) (vol block : Int) :
    Calls Try.prog 8 #[.slice A vs.length c, .slice A2 ws.length c2, .int .i64 vol, .int .i64 block] w fun e w' => e = .returned (.bool true) ∧ Below w.heap.size w w' := by
  have HV := Lib.hid h
  have HF := Lib.hid hf
  have H2 := Lib.hid h2
  have hl := hl2.1
  clear h hf h2 hl2
  cases hs1 : smallB vs ws.length with
  | false =>
    have HS := Lib.hid hs1
    clear hs1
    go_enter Try.func8, Try.ntmps8
    go_wp2_with fail
    refine (Small_any HV.out HF.out _ _ _).mono ?_
    rw [HS.out]
    rintro e w' ⟨rfl, rfl⟩
    go_wp2_with fail
    refine (awake_any _).mono ?_
    rintro e w1 ⟨rfl, hb⟩
    replace hb := Lib.hid hb
    go_wp2_with fail
    go_ret
    exact ⟨rfl, hb.out⟩
  | true =>
    have HS1 := Lib.hid hs1
    clear hs1
    by_cases he : gtE vs vol block = 0
    · by_cases hc : checkE vs ws = 0
      · obtain ⟨r1, r2, r3, r4, r5⟩ := stay_all hc he
        have HGo : Hid (gtE (applyV vs ws) vol block = 0 ∧ gtS (applyV vs ws) vol block = lastD ws vol block (gtS vs vol block)) := Lib.hid ⟨r3, r4⟩
        have HSz := Lib.hid r5
        have HR2 := Lib.hid r2
        have HE := Lib.hid he
        have HC := Lib.hid hc
        have HFo : Hid (VolsFit (applyV vs ws)) := Lib.hid fit_apply'
        have hsz := sizesV_short vs
        clear r1 r2 r3 r4 r5 he hc
        obtain ⟨X, hX⟩ : ∃ X, applyV vs ws = X := ⟨_, rfl⟩
        have HXe := Lib.hid hX
        rw [hX] at HGo HSz HR2 HFo
        clear hX
        obtain ⟨was, hwas⟩ : ∃ was, gtS vs vol block = was := ⟨_, rfl⟩
        have HWas := Lib.hid hwas
        rw [hwas] at HGo
        clear hwas
        obtain ⟨m, hm⟩ : ∃ m, ws.length = m := ⟨_, rfl⟩
        have HM := Lib.hid hm
        have HAp : Hid (∀ w1 c c2, Below w.heap.size w w1 → Calls Try.prog 24 #[.slice A vs.length c, .slice A2 m c2] w1 (VolsEnd X 0 w1)) := Lib.hid (fun w1 c c2 hb => by
          have := Apply_any (c := c) (c2 := c2) (HV.out.next hb) HF.out (H2.out.next hb) (by rw [HM.out]; rw [HM.out] at hl; exact hl)
          rw [HXe.out, HC.out, HM.out] at this
          exact this)
        rw [hm] at hl HS1 ⊢
        clear hm
        go_enter Try.func8, Try.ntmps8
        go_wp2_with fail
        refine (Small_any HV.out HF.out _ _ _).mono ?_
        rw [HS1.out]
        rintro e w' ⟨rfl, rfl⟩
        go_wp2_with fail
        refine (Get_any HV.out HF.out _ _).mono ?_
        rw [HWas.out, HE.out]
        rintro e w1 ⟨rfl, hb1⟩
        have HB1 := Lib.hid hb1
        clear hb1
        go_wp2_with fail
        with_reducible refine (HAp.out _ _ _ HB1.out).mono ?_
        rintro e w2 ⟨B2, d2, rfl, hv2, hb2⟩
        have HV2 := Lib.hid hv2
        have HB2 := Lib.hid (below_next HB1.out hb2)
        clear hv2 hb2 HB1 HAp
        go_wp2_with fail
        go_loopw [13, 51] (fun u i wr => ∃ k : Nat, k ≤ m ∧ i = .int .i64 k ∧ u = .string (lastD (ws.take k) vol block was) ∧ Hid (Below w2.heap.size w2 wr)) (fun _ i _ => m - (intOf i).toNat)
        case atStart => exact ⟨0, Nat.zero_le _, rfl, rfl, Lib.hid (Below.refl _ _)⟩
        case round =>
          obtain ⟨k, hk, rfl, rfl, HB⟩ := hrel
          by_cases hlt : k < m
          · have hkl : k < ws.length := by rw [HM.out]; exact hlt
            obtain ⟨b, off, hA, hbl, x1, x2, x3⟩ := H2.out.at_ (HB2.out.trans (HB.out.mono HB2.out.size)) hkl
            have hwz : w2.heap.size ≤ wr.heap.size := HB.out.size
            have hwz2 : w.heap.size ≤ w2.heap.size := HB2.out.size
            have hbw : b < wr.heap.size := by omega
            subst hA
            have HT : Hid (lastD (ws.take (k + 1)) vol block was = if ws[k].vol = vol ∧ ws[k].block = block then ws[k].data else lastD (ws.take k) vol block was) := Lib.hid (by rw [List.take_succ_eq_append_getElem hkl, lastD_snoc])
            obtain ⟨x, hx⟩ : ∃ x, ws[k] = x := ⟨_, rfl⟩
            rw [hx] at x1 x2 x3 HT
            clear hx hkl
            obtain ⟨vol', block', data⟩ := x
            simp only at x1 x2 x3 HT
            have HBa := Lib.hid (HB.out.alloc hwz (.cells #[.int .i64 vol', .int .i64 block', .string data] 53))
            obtain ⟨cur, hcur⟩ : ∃ cur, lastD (ws.take k) vol block was = cur := ⟨_, rfl⟩
            rw [hcur] at HT ⊢
            clear hcur
            by_cases hvv : vol' = vol
            · have hv' : (vol' == vol) = true := by simp [hvv]
              by_cases hbb : block' = block
              · have hb' : (block' == block) = true := by simp [hbb]
                have HT2 : Hid (lastD (ws.take (k + 1)) vol block was = data) := Lib.hid (by rw [HT.out, if_pos ⟨hvv, hbb⟩])
                clear hvv hbb HT
                go_wp2_with fail
                go_roundw
                case rel => exact ⟨k + 1, by omega, by go_num, by rw [HT2.out], HBa⟩
                case measure => simp [intOf]; omega
              · have hb' : (block' == block) = false := by simp [hbb]
                have HT2 : Hid (lastD (ws.take (k + 1)) vol block was = cur) := Lib.hid (by rw [HT.out, if_neg (fun hh => hbb hh.2)])
                clear hvv hbb HT
                go_wp2_with fail
                go_roundw
                case rel => exact ⟨k + 1, by omega, by go_num, by rw [HT2.out], HBa⟩
                case measure => simp [intOf]; omega
            · have hv' : (vol' == vol) = false := by simp [hvv]
              have HT2 : Hid (lastD (ws.take (k + 1)) vol block was = cur) := Lib.hid (by rw [HT.out, if_neg (fun hh => hvv hh.1)])
              clear hvv HT
              go_wp2_with fail
              go_roundw
              case rel => exact ⟨k + 1, by omega, by go_num, by rw [HT2.out], HBa⟩
              case measure => simp [intOf]; omega
          · have hkm : k = m := by omega
            have HTk : Hid (lastD (ws.take k) vol block was = lastD ws vol block was) := Lib.hid (by rw [List.take_of_length_le (by rw [HM.out]; omega)])
            rw [HTk.out]
            obtain ⟨want, hwant⟩ : ∃ want, lastD ws vol block was = want := ⟨_, rfl⟩
            rw [hwant] at HGo ⊢
            clear hwant HTk
            have HBW : Hid (Below w.heap.size w wr) := Lib.hid (HB2.out.trans (HB.out.mono HB2.out.size))
            have hte := text_eq want
            have hte2 := text_eq was
            go_wp2_with fail
            refine (Get_any (HV2.out.next HB.out) HFo.out _ _).mono ?_
            rw [HGo.out.1, HGo.out.2]
            rintro e w3 ⟨rfl, hb3⟩
            have HB3 := Lib.hid (below_next HB.out hb3)
            have HBW3 := Lib.hid (below_next HBW.out hb3)
            clear hb3
            go_wp2_with fail
            refine (Get_any (HV.out.next HBW3.out) HF.out _ _).mono ?_
            rw [HWas.out, HE.out]
            rintro e w4 ⟨rfl, hb4⟩
            have HB4 := Lib.hid (below_next HB3.out hb4)
            have HBW4 := Lib.hid (below_next HBW3.out hb4)
            clear hb4
            go_wp2_with fail
            refine (Sizes_any (HV.out.next HBW4.out) HF.out).mono ?_
            rintro e w5 ⟨A5, c5, rfl, hl5, hb5⟩
            have HL5 := Lib.hid hl5
            have HB5 := Lib.hid (below_next HB4.out hb5)
            have HBW5 := Lib.hid (below_next HBW4.out hb5)
            clear hb5 hl5
            go_wp2_with fail
            refine (Sizes_any (HV2.out.next HB5.out) HFo.out).mono ?_
            rw [HSz.out]
            rintro e w6 ⟨A6, c6, rfl, hl6, hb6⟩
            have HL6 := Lib.hid hl6
            have HL56 : Hid (Lies w6 w6.heap.size A5 ((sizesV vs).map (Value.int .i64))) := Lib.hid (HL5.out.next hb6)
            have HB6 := Lib.hid (below_next HB5.out hb6)
            have HBW6 := Lib.hid (below_next HBW5.out hb6)
            clear hb6 hl6 HL5 HB HB3 HB4 HB5 HBW HBW3 HBW4 HBW5
            obtain ⟨L, hL⟩ : ∃ L, sizesV vs = L := ⟨_, rfl⟩
            rw [hL] at HL6 HL56 hsz ⊢
            clear hL
            obtain ⟨p, hp⟩ : ∃ p, L.length = p := ⟨_, rfl⟩
            have HP := Lib.hid hp
            rw [hp] at hsz ⊢
            clear hp
            go_wp2_with fail
            go_loopw [93] (fun i wr => ∃ j z : Nat, j ≤ p ∧ i = .int .i64 j ∧ wr = w6.drewN z) (fun i _ => p - (intOf i).toNat)
            case atStart => exact ⟨0, 0, Nat.zero_le _, rfl, rfl⟩
            case round =>
              obtain ⟨j, z, hj, rfl, rfl⟩ := hrel
              by_cases hjp : j < p
              · have hjl : j < L.length := by rw [HP.out]; exact hjp
                obtain ⟨e1, f1, hA1, _, s1⟩ := HL56.out.num (Below.refl _ _) hjl
                obtain ⟨e2, f2, hA2, _, s2⟩ := HL6.out.num (Below.refl _ _) hjl
                subst hA1
                subst hA2
                obtain ⟨t, ht⟩ : ∃ t, L[j] = t := ⟨_, rfl⟩
                rw [ht] at s1 s2
                clear ht hjl
                have hj0 : (0 : Int) ≤ (j : Int) := Int.natCast_nonneg _
                have hj8 : (j : Int) < (p : Int) := by omega
                go_wp2_with fail
                go_quiet (fail)
                go_wp2_with fail
                go_roundw
                case rel => exact ⟨j + 1, z + nq, by omega, by go_num, rfl⟩
                case measure => simp [intOf]; omega
              · have HB7 : Hid (Below w2.heap.size w2 (w6.drewN z)) := Lib.hid (below_q HB6.out z)
                have HBW7 : Hid (Below w.heap.size w (w6.drewN z)) := Lib.hid (below_q HBW6.out z)
                clear HL6 HL56 HB6 HBW6
                generalize w6.drewN z = W at *
                go_wp2_with fail
                refine (Right_any (HV2.out.next HB7.out) HFo.out).mono ?_
                rw [HR2.out]
                rintro e w8 ⟨rfl, hb8⟩
                have HB8 := Lib.hid (below_next HBW7.out hb8)
                clear hb8
                go_wp2_with fail
                refine (awake_any _).mono ?_
                rintro e w9 ⟨rfl, hb9⟩
                have HB9 := Lib.hid (below_next HB8.out hb9)
                clear hb9
                go_wp2_with fail
                go_ret
                exact ⟨rfl, HB9.out⟩
      · have hc' : (checkE vs ws != 0) = true := by rw [bne_iff_ne]; exact hc
        have HE := Lib.hid he
        clear he hc
        obtain ⟨X, hX⟩ : ∃ X, applyV vs ws = X := ⟨_, rfl⟩
        have HXe := Lib.hid hX
        clear hX
        obtain ⟨E, hE⟩ : ∃ E, checkE vs ws = E := ⟨_, rfl⟩
        have HEe := Lib.hid hE
        rw [hE] at hc'
        clear hE
        go_enter Try.func8, Try.ntmps8
        go_wp2_with fail
        refine (Small_any HV.out HF.out _ _ _).mono ?_
        rw [HS1.out]
        rintro e w' ⟨rfl, rfl⟩
        go_wp2_with fail
        refine (Get_any HV.out HF.out _ _).mono ?_
        rw [HE.out]
        rintro e w1 ⟨rfl, hb1⟩
        have HB1 := Lib.hid hb1
        clear hb1
        go_wp2_with fail
        refine (Apply_any (HV.out.next HB1.out) HF.out (H2.out.next HB1.out) hl).mono ?_
        rw [HXe.out, HEe.out]
        rintro e w2 ⟨B2, d2, rfl, hv2, hb2⟩
        have HB2 := Lib.hid (below_next HB1.out hb2)
        clear hv2 hb2
        go_wp2_with fail
        refine (awake_any _).mono ?_
        rintro e w3 ⟨rfl, hb3⟩
        have HB3 := Lib.hid (below_next HB2.out hb3)
        clear hb3
        go_wp2_with fail
        go_ret
        exact ⟨rfl, HB3.out⟩
    · have he' : (gtE vs vol block != 0) = true := by rw [bne_iff_ne]; exact he
      clear he
      obtain ⟨E0, hE0⟩ : ∃ E0, gtE vs vol block = E0 := ⟨_, rfl⟩
      have HE0 := Lib.hid hE0
      rw [hE0] at he'
      clear hE0
      obtain ⟨X, hX⟩ : ∃ X, applyV vs ws = X := ⟨_, rfl⟩
      have HXe := Lib.hid hX
      clear hX
      obtain ⟨E, hE⟩ : ∃ E, checkE vs ws = E := ⟨_, rfl⟩
      have HEe := Lib.hid hE
      clear hE
      go_enter Try.func8, Try.ntmps8
      go_wp2_with fail
      refine (Small_any HV.out HF.out _ _ _).mono ?_
      rw [HS1.out]
      rintro e w' ⟨rfl, rfl⟩
      go_wp2_with fail
      refine (Get_any HV.out HF.out _ _).mono ?_
      rw [HE0.out]
      rintro e w1 ⟨rfl, hb1⟩
      have HB1 := Lib.hid hb1
      clear hb1
      go_wp2_with fail
      refine (Apply_any (HV.out.next HB1.out) HF.out (H2.out.next HB1.out) hl).mono ?_
      rw [HXe.out, HEe.out]
      rintro e w2 ⟨B2, d2, rfl, hv2, hb2⟩
      have HB2 := Lib.hid (below_next HB1.out hb2)
      clear hv2 hb2
      go_wp2_with fail
      refine (awake_any _).mono ?_
      rintro e w3 ⟨rfl, hb3⟩
      have HB3 := Lib.hid (below_next HB2.out hb3)
      clear hb3
      go_wp2_with fail
      go_ret
      exact ⟨rfl, HB3.out⟩
end Go.Proofs.Ytphmemopabgaeaa
