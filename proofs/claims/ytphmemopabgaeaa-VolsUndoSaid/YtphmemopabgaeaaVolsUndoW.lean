/- The walk of VolsUndo. -/
import Derived.Test.YtphmemopabgaeaaVolU
import Derived.Test.YtphmemopabgaeaaVolX
namespace Go.Proofs.Ytphmemopabgaeaa
open Go.RowKit

theorem same_self' (a : List Vl) : sameB a a = rightB a := by simp [sameB]
theorem fit_res {vs : List Vl} {id n : Int} : VolsFit (resV vs id n) := by
  by_cases h : resE vs id n = 0
  · obtain ⟨_, _, _, _, _, _, hr⟩ := res_ok h; exact right_fit hr
  · unfold resV; rw [if_neg h]; exact ⟨by simp, by simp⟩
theorem fit_add {vs : List Vl} {id n : Int} : VolsFit (addV vs id n) := by
  by_cases h : addE vs id n = 0
  · exact right_fit (add_undo h).2.1
  · unfold addV; rw [if_neg h]; exact ⟨by simp, by simp⟩

set_option maxHeartbeats 8000000 in
set_option maxRecDepth 100000 in
theorem VolsUndo_walk {w : World} {A : Option Addr} {c : Nat} {vs : List Vl} (h : VolsAt w w.heap.size A vs) (hf : VolsFit vs) (id n : Int) :
    Calls Try.prog 10 #[.slice A vs.length c, .int .i64 id, .int .i64 n] w fun e w' => e = .returned (.bool true) ∧ Below w.heap.size w w' := by
  have HV := Lib.hid h
  have HF := Lib.hid hf
  clear h hf
  cases hs1 : smallB vs 0 with
  | false =>
    have HS := Lib.hid hs1
    clear hs1
    go_enter Try.func10, Try.ntmps10
    go_wp2_with fail
    refine (Small_any HV.out HF.out _ _ _).mono ?_
    rw [HS.out]
    rintro e w' ⟨rfl, rfl⟩
    go_wp2_with fail
    refine (awake_any _).mono ?_
    rintro e w1 ⟨rfl, hb⟩
    replace hb := Lib.hid hb
    go_wp2_with fail
    go_ret
    exact ⟨rfl, hb.out⟩
  | true =>
    have HS1 := Lib.hid hs1
    have hn10 := ((smallB_iff _ _).1 hs1).1
    clear hs1
    have HRes : Hid (∀ (w1 : World) (c : Nat), Below w.heap.size w w1 → Calls Try.prog 17 #[.slice A vs.length c, .int .i64 id, .int .i64 n] w1 (VolsEnd (resV vs id n) (resE vs id n) w1)) := Lib.hid (fun w1 c hb => Resize_any (HV.out.next hb) HF.out id n)
    by_cases h0 : addE vs id n = 0
    case' pos =>
      obtain ⟨_, _, hlen, hd1, hd2⟩ := add_undo h0
      have HAdd : Hid (∀ c, Calls Try.prog 13 #[.slice A vs.length c, .int .i64 id, .int .i64 n] w (VolsEnd (addV vs id n) 0 w)) := Lib.hid (fun c => by have := Add_any (c := c) HV.out HF.out id n; rw [h0] at this; exact this)
      have HDrop : Hid (∀ (w1 : World) (B : Option Addr) (c : Nat), VolsAt w1 w1.heap.size B (addV vs id n) → Calls Try.prog 15 #[.slice B (vs.length + 1) c, .int .i64 id] w1 (VolsEnd vs 0 w1)) := Lib.hid (fun w1 B c hB => by have := Drop_any (c := c) hB fit_add id; rw [hd1, hd2, hlen] at this; exact this)
      have HSame : Hid (sameB vs vs = true) := Lib.hid (by rw [same_self']; exact (add_undo h0).1)
      have HLen := Lib.hid hlen
      clear h0 hlen hd1 hd2
      obtain ⟨X, hX⟩ : ∃ X, addV vs id n = X := ⟨_, rfl⟩
      rw [hX] at HAdd HDrop HLen
      clear hX
      go_enter Try.func10, Try.ntmps10
      go_wp2_with fail
      refine (Small_any HV.out HF.out _ _ _).mono ?_
      rw [HS1.out]
      rintro e w' ⟨rfl, rfl⟩
      go_wp2_with fail
      with_reducible refine (HAdd.out _).mono ?_
      rintro e w1 ⟨B1, d1, rfl, hv1, hb1⟩
      rw [HLen.out]
      have HV1 := Lib.hid hv1
      have HB1 := Lib.hid hb1
      clear hv1 hb1
      go_wp2_with fail
      with_reducible refine (HDrop.out _ _ _ HV1.out).mono ?_
      rintro e w2 ⟨B2, d2, rfl, hv2, hb2⟩
      have HV2 := Lib.hid hv2
      have HB2 := Lib.hid (below_next HB1.out hb2)
      clear hv2 hb2
      go_wp2_with fail
      refine (Same_any HV2.out (HV.out.next HB2.out) HF.out HF.out).mono ?_
      rw [HSame.out]
      rintro e wz ⟨rfl, hbz⟩
      have HBz := Lib.hid (below_next HB2.out hbz)
      clear hbz HV2 HB2 HV1 HB1 HAdd HDrop HSame HLen
      go_wp2_with fail
    case' neg =>
      have h0' : (addE vs id n == 0) = false := by rw [beq_eq_false_iff_ne]; exact h0
      have HAdd : Hid (∀ c, Calls Try.prog 13 #[.slice A vs.length c, .int .i64 id, .int .i64 n] w (VolsEnd (addV vs id n) (addE vs id n) w)) := Lib.hid (fun c => Add_any HV.out HF.out id n)
      clear h0
      obtain ⟨X, hX⟩ : ∃ X, addV vs id n = X := ⟨_, rfl⟩
      rw [hX] at HAdd
      clear hX
      obtain ⟨E, hE⟩ : ∃ E, addE vs id n = E := ⟨_, rfl⟩
      rw [hE] at HAdd h0'
      clear hE
      go_enter Try.func10, Try.ntmps10
      go_wp2_with fail
      refine (Small_any HV.out HF.out _ _ _).mono ?_
      rw [HS1.out]
      rintro e w' ⟨rfl, rfl⟩
      go_wp2_with fail
      with_reducible refine (HAdd.out _).mono ?_
      rintro e wz ⟨B1, d1, rfl, hv1, hbz⟩
      have HBz := Lib.hid hbz
      clear hv1 hbz HAdd
      go_wp2_with fail
    all_goals
      obtain ⟨m, hm⟩ : ∃ m, vs.length = m := ⟨_, rfl⟩
      have HM := Lib.hid hm
      rw [hm] at hn10 HRes ⊢
      clear hm
      go_loopw [54] (fun i wr => ∃ k : Nat, k ≤ m ∧ i = .int .i64 k ∧ Hid (Below w.heap.size w wr)) (fun i _ => m - (intOf i).toNat)
      case atStart => exact ⟨0, Nat.zero_le _, rfl, HBz⟩
      case round =>
        clear HBz
        obtain ⟨k, hk, rfl, HB⟩ := hrel
        by_cases hlt : k < m
        · have hkl : k < vs.length := by rw [HM.out]; exact hlt
          obtain ⟨b, off, a, c', hA, hbl, x1, x2, hly⟩ := HV.out.at_ HB.out hkl
          have hwz : w.heap.size ≤ wr.heap.size := HB.out.size
          have hbw : b < wr.heap.size := by omega
          subst hA
          have HUndo : Hid (resE vs id n = 0 → vs[k].1 = id → (vs[k].2.length : Int) ≤ n → resE (resV vs id n) id vs[k].2.length = 0 ∧ resV (resV vs id n) id vs[k].2.length = vs) := Lib.hid (fun h1 h2 h3 => res_undo h1 hkl h2 h3)
          obtain ⟨v, hv⟩ : ∃ v, vs[k] = v := ⟨_, rfl⟩
          rw [hv] at x1 x2 HUndo
          clear hv hkl hly
          obtain ⟨i1, bs⟩ := v
          simp only at x1 x2 HUndo
          obtain ⟨q, hq⟩ : ∃ q, bs.length = q := ⟨_, rfl⟩
          rw [hq] at x2 HUndo
          clear hq
          have HBa := Lib.hid (HB.out.alloc hwz (.cells #[.int .i64 i1, .slice a q c'] 47))
          by_cases hi : i1 = id
          · have hi' : (i1 != id) = false := by simp [hi]
            by_cases hq : n < q
            · clear HUndo hi
              go_wp2_with fail
              go_roundw
              case rel => exact ⟨k + 1, by omega, by go_num, HBa⟩
              case measure => simp [intOf]; omega
            · have hq' : decide (n < (q : Int)) = false := by rw [decide_eq_false_iff_not]; exact hq
              by_cases hr : resE vs id n = 0
              · obtain ⟨u1, u2⟩ := HUndo.out hr hi (by omega)
                have HR1 : Hid (∀ (w1 : World) (c : Nat), Below w.heap.size w w1 → Calls Try.prog 17 #[.slice (some ⟨b, off, none⟩) m c, .int .i64 id, .int .i64 n] w1 (VolsEnd (resV vs id n) 0 w1)) := Lib.hid (fun w1 c hb => by have := HRes.out w1 c hb; rw [hr] at this; exact this)
                have HR2 : Hid (∀ (w1 : World) (B : Option Addr) (c : Nat), VolsAt w1 w1.heap.size B (resV vs id n) → Calls Try.prog 17 #[.slice B (resV vs id n).length c, .int .i64 id, .int .i64 q] w1 (VolsEnd vs 0 w1)) := Lib.hid (fun w1 B c hB => by have := Resize_any (c := c) hB fit_res id q; rw [u1, u2] at this; exact this)
                have HSame : Hid (sameB vs vs = true) := Lib.hid (by rw [same_self']; exact (res_ok hr).1)
                have HX : Hid (∀ w2, Below (wr.alloc (.cells #[.int .i64 i1, .slice a q c'] 47)).heap.size (wr.alloc (.cells #[.int .i64 i1, .slice a q c'] 47)) w2 → w2.cell? ⟨wr.heap.size, 1, none⟩ = some (.slice a q c')) := Lib.hid (fun w2 hb => by
                  rw [hb.cell (p := ⟨wr.heap.size, 1, none⟩) (by simp), Lib.cell_of_heap (heap_alloc_new _ _)]; rfl)
                clear hr u1 u2 HUndo hi hq
                obtain ⟨Y, hY⟩ : ∃ Y, resV vs id n = Y := ⟨_, rfl⟩
                rw [hY] at HR1 HR2
                clear hY
                go_wp2_with fail
                with_reducible refine (HR1.out _ _ HBa.out).mono ?_
                rintro e w1 ⟨B1, d1, rfl, hv1, hb1⟩
                have HV1 := Lib.hid hv1
                have HB1 := Lib.hid (below_next HBa.out hb1)
                have y1 := HX.out w1 hb1
                clear hv1 hb1 HX HR1
                go_wp2_with fail
                with_reducible refine (HR2.out _ _ _ HV1.out).mono ?_
                rintro e w2 ⟨B2, d2, rfl, hv2, hb2⟩
                have HV2 := Lib.hid hv2
                have HB2 := Lib.hid (below_next HB1.out hb2)
                clear hv2 hb2 y1
                have HS2 : Hid (∀ d2 d3, Calls Try.prog 30 #[.slice B2 vs.length d2, .slice (some ⟨b, off, none⟩) m d3] w2 fun e w' => e = .returned (.bool true) ∧ Below w2.heap.size w2 w') := Lib.hid (fun d2 d3 => by
                  have := Same_any (c1 := d2) (c2 := d3) HV2.out (HV.out.next HB2.out) HF.out HF.out
                  rw [HSame.out] at this
                  conv at this => arg 3; rw [show (#[Value.slice B2 vs.length d2, Value.slice (some ⟨b, off, none⟩) vs.length d3] : Array Value) = #[Value.slice B2 vs.length d2, Value.slice (some ⟨b, off, none⟩) m d3] from by rw [HM.out]]
                  exact this)
                go_wp2_with fail
                with_reducible refine (HS2.out _ _).mono ?_
                rintro e w3 ⟨rfl, hb3⟩
                have HB3 := Lib.hid (below_next HB2.out hb3)
                clear hb3
                go_wp2_with fail
                go_roundw
                case rel => exact ⟨k + 1, by omega, by go_num, HB3⟩
                case measure => simp [intOf]; omega
              · have hr' : (resE vs id n == 0) = false := by rw [beq_eq_false_iff_ne]; exact hr
                clear hr HUndo hi
                have HR1 := HRes
                obtain ⟨Y, hY⟩ : ∃ Y, resV vs id n = Y := ⟨_, rfl⟩
                obtain ⟨E2, hE2⟩ : ∃ E2, resE vs id n = E2 := ⟨_, rfl⟩
                rw [hY, hE2] at HR1
                rw [hE2] at hr'
                clear hY hE2
                go_wp2_with fail
                with_reducible refine (HR1.out _ _ HBa.out).mono ?_
                rintro e w1 ⟨B1, d1, rfl, hv1, hb1⟩
                have HB1 := Lib.hid (below_next HBa.out hb1)
                clear hv1 hb1
                go_wp2_with fail
                go_roundw
                case rel => exact ⟨k + 1, by omega, by go_num, HB1⟩
                case measure => simp [intOf]; omega
          · have hi' : (i1 != id) = true := by simp [hi]
            clear HUndo hi
            go_wp2_with fail
            go_roundw
            case rel => exact ⟨k + 1, by omega, by go_num, HBa⟩
            case measure => simp [intOf]; omega
        · go_wp2_with fail
          refine (awake_any _).mono ?_
          rintro e w1 ⟨rfl, hb1⟩
          have HB1 := Lib.hid (below_next HB.out hb1)
          clear hb1
          go_wp2_with fail
          go_ret
          exact ⟨rfl, HB1.out⟩
end Go.Proofs.Ytphmemopabgaeaa
