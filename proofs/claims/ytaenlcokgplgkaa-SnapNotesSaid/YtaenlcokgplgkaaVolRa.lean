/- Contracts of the document's Check, Last and Apply. -/
import Derived.Test.YtaenlcokgplgkaaVolBd
import Derived.Test.YtaenlcokgplgkaaVolW
namespace Go.Proofs.Ytaenlcokgplgkaa
open Go.RowKit

set_option maxHeartbeats 1600000 in
set_option maxRecDepth 100000 in
theorem RefCheck_any {w : World} {A A2 : Option Addr} {c c2 : Nat} {vs : List Vl} {ws : List Wr} (h : VolsAt w w.heap.size A vs) (hf : VolsFit vs) (h2 : WrsAt w w.heap.size A2 ws) (hl2 : ws.length ≤ 9223372036854775807) :
    Calls Try.prog 28 #[.slice A vs.length c, .slice A2 ws.length c2] w fun e w' => e = .returned (.int .i64 (checkE vs ws)) ∧ Below w.heap.size w w' := by
  have HV := Lib.hid h
  have HF := Lib.hid hf
  have HW := Lib.hid h2
  have hl := hf.1
  cases hr : rightB vs with
  | false =>
    rw [show checkE vs ws = 1 from by unfold checkE; rw [hr]; rfl]
    have HR := Lib.hid hr
    clear h hf hr h2
    go_enter Try.func28, Try.ntmps28
    go_wp2_with (go_at_call 20; refine (RefRight_any HV.out HF.out).mono ?_; rw [HR.out]; rintro e w1 ⟨rfl, hb⟩; replace hb := Lib.hid hb)
    go_ret
    exact ⟨rfl, hb.out⟩
  | true =>
    rw [checkE_right hr]
    have HR := Lib.hid hr
    obtain ⟨m, hm⟩ : ∃ m, ws.length = m := ⟨_, rfl⟩
    have HM := Lib.hid hm
    rw [hm] at hl2 ⊢
    clear h hf hr h2 hm
    go_enter Try.func28, Try.ntmps28
    go_wp2_with (go_at_call 20; refine (RefRight_any HV.out HF.out).mono ?_; rw [HR.out]; rintro e w1 ⟨rfl, hb⟩; replace hb := Lib.hid hb)
    go_loopw [5] (fun i wr => ∃ k : Nat, k ≤ m ∧ i = .int .i64 k ∧ Hid (chk vs ws = chk vs (ws.drop k)) ∧ Hid (Below w.heap.size w wr)) (fun i _ => m - (intOf i).toNat)
    case atStart => exact ⟨0, Nat.zero_le _, rfl, Lib.hid rfl, hb⟩
    case round =>
      clear hb
      obtain ⟨k, hk, rfl, HK, HB⟩ := hrel
      by_cases hlt : k < m
      · have hkl : k < ws.length := by rw [HM.out]; exact hlt
        obtain ⟨b, off, hA, hbl, x1, x2, x3⟩ := HW.out.at_ HB.out hkl
        subst hA
        have HStep : Hid (chk vs ws = if gotE vs ws[k].vol ws[k].block = 0 then (if shortB ws[k].data = true then chk vs (ws.drop (k + 1)) else 5) else gotE vs ws[k].vol ws[k].block) := Lib.hid (by
          rw [HK.out, drop_at hkl, chk])
        obtain ⟨x, hx⟩ : ∃ x, ws[k] = x := ⟨_, rfl⟩
        rw [hx] at x1 x2 x3 HStep
        clear hx hkl HK
        obtain ⟨vol, block, data⟩ := x
        simp only at x1 x2 x3 HStep
        have HGet : Hid (∀ q c, Calls Try.prog 32 #[.slice A vs.length c, .int .i64 vol, .int .i64 block] (wr.drewN q) fun e w' => e = .returned (.tuple #[.string (gotS vs vol block), .int .i64 (gotE vs vol block)]) ∧ w' = wr.drewN q) := Lib.hid (fun q c => (RefGet_any (HV.out.next (below_q HB.out q)) hl vol block).mono (fun e w' h => ⟨h.1, h.2.symm⟩))
        obtain ⟨E, hE⟩ : ∃ E, gotE vs vol block = E := ⟨_, rfl⟩
        obtain ⟨S, hS⟩ : ∃ S, gotS vs vol block = S := ⟨_, rfl⟩
        rw [hE] at HStep
        rw [hE, hS] at HGet
        clear hE hS
        have hk0 : (0 : Int) ≤ (k : Int) := Int.natCast_nonneg _
        have hk8 : (k : Int) < (m : Int) := by omega
        have x3' : ∀ q, (wr.drewN q).cell? ⟨b, off + k * 3 + 2, none⟩ = some (.string data) := fun q => x3
        have HX3 := Lib.hid x3'
        clear x3'
        by_cases h0 : E = 0
        · subst h0
          by_cases h8 : data.size ≤ 8
          · have h8' : decide (8 < (data.size : Int)) = false := by rw [decide_eq_false_iff_not]; omega
            have HS2 : Hid (chk vs ws = chk vs (ws.drop (k + 1))) := Lib.hid (by rw [HStep.out, if_pos rfl, if_pos (by simp [shortB, h8])])
            clear HStep
            go_wp2_with fail
            go_quiet ((go_at_call 32; exact Calls.quiet_of_same (HGet.out _ _)))
            go_wp2_with fail
            go_roundw
            case rel => exact ⟨k + 1, by omega, by go_num, HS2, Lib.hid (below_q HB.out _)⟩
            case measure => simp [intOf]; omega
          · have h8' : decide (8 < (data.size : Int)) = true := by rw [decide_eq_true_iff]; omega
            have HS2 : Hid (chk vs ws = 5) := Lib.hid (by rw [HStep.out, if_pos rfl, if_neg (by simp [shortB]; omega)])
            clear HStep
            go_wp2_with fail
            go_quiet ((go_at_call 32; exact Calls.quiet_of_same (HGet.out _ _)))
            go_wp2_with fail
            go_ret
            exact ⟨by rw [HS2.out]; rfl, below_q HB.out _⟩
        · have h0' : (E != 0) = true := by rw [bne_iff_ne]; exact h0
          have HS2 : Hid (chk vs ws = E) := Lib.hid (by rw [HStep.out, if_neg h0])
          clear HStep h0
          go_wp2_with fail
          go_quiet ((go_at_call 32; exact Calls.quiet_of_same (HGet.out _ _)))
          go_wp2_with fail
          go_ret
          exact ⟨by rw [HS2.out]; rfl, below_q HB.out _⟩
      · have HE : Hid (chk vs ws = 0) := Lib.hid (by rw [HK.out, List.drop_of_length_le (by rw [HM.out]; omega)]; rfl)
        go_wp2_with fail
        go_ret
        exact ⟨by rw [HE.out]; rfl, HB.out⟩

set_option maxHeartbeats 1600000 in
theorem RefLast_any {w : World} {A2 : Option Addr} {c2 : Nat} {ws : List Wr} (h2 : WrsAt w w.heap.size A2 ws) (hl2 : ws.length ≤ 200) (vol block : Int) :
    Calls Try.prog 29 #[.slice A2 ws.length c2, .int .i64 vol, .int .i64 block] w fun e w' => e = .returned (.tuple #[.string ((lastF ws vol block).getD ByteArray.empty), .bool (lastF ws vol block).isSome]) ∧ w = w' := by
  have HW := Lib.hid h2
  obtain ⟨m, hm⟩ : ∃ m, ws.length = m := ⟨_, rfl⟩
  have HM := Lib.hid hm
  rw [hm] at hl2 ⊢
  clear h2 hm
  go_enter Try.func29, Try.ntmps29
  go_wp2_with fail
  go_loop [8] (fun i => ∃ x : Int, -1 ≤ x ∧ x < m ∧ i = .int .i64 x ∧ Hid (lastF ws vol block = lastF (ws.take (x + 1).toNat) vol block)) (fun i => (intOf i + 1).toNat)
  case atStart => exact ⟨(m : Int) - 1, by omega, by omega, rfl, Lib.hid (by rw [List.take_of_length_le (by rw [HM.out]; omega)])⟩
  case round =>
    obtain ⟨x, hx1, hx2, rfl, HK⟩ := hrel
    by_cases hx0 : 0 ≤ x
    · obtain ⟨j, rfl⟩ := Int.eq_ofNat_of_zero_le hx0
      have hjl : j < ws.length := by rw [HM.out]; omega
      obtain ⟨b, off, hA, hbl, x1, x2, x3⟩ := HW.out.at_ (Below.refl _ _) hjl
      subst hA
      have HT : Hid (lastF ws vol block = if ws[j].vol = vol ∧ ws[j].block = block then some ws[j].data else lastF (ws.take j) vol block) := Lib.hid (by
        rw [HK.out, show ((j : Int) + 1).toNat = j + 1 from by omega, List.take_succ_eq_append_getElem hjl, lastF_snoc])
      obtain ⟨y, hy⟩ : ∃ y, ws[j] = y := ⟨_, rfl⟩
      rw [hy] at x1 x2 x3 HT
      clear hy hjl HK hx1
      obtain ⟨vol', block', data⟩ := y
      simp only at x1 x2 x3 HT
      by_cases hvv : vol' = vol
      · have hv' : (vol' == vol) = true := by simp [hvv]
        by_cases hbb : block' = block
        · have hb' : (block' == block) = true := by simp [hbb]
          have HT2 : Hid (lastF ws vol block = some data) := Lib.hid (by rw [HT.out, if_pos ⟨hvv, hbb⟩])
          clear hvv hbb HT
          go_wp2_with fail
          go_ret2
          exact ⟨by rw [HT2.out]; rfl, rfl⟩
        · have hb' : (block' == block) = false := by simp [hbb]
          have HT2 : Hid (lastF ws vol block = lastF (ws.take ((j : Int) - 1 + 1).toNat) vol block) := Lib.hid (by rw [HT.out, if_neg (fun hh => hbb hh.2), show ((j : Int) - 1 + 1).toNat = j from by omega])
          clear hvv hbb HT
          go_wp2_with fail
          go_round
          case rel => exact ⟨(j : Int) - 1, by omega, by omega, rfl, HT2⟩
          case measure => simp [intOf]
      · have hv' : (vol' == vol) = false := by simp [hvv]
        have HT2 : Hid (lastF ws vol block = lastF (ws.take ((j : Int) - 1 + 1).toNat) vol block) := Lib.hid (by rw [HT.out, if_neg (fun hh => hvv hh.1), show ((j : Int) - 1 + 1).toNat = j from by omega])
        clear hvv HT
        go_wp2_with fail
        go_round
        case rel => exact ⟨(j : Int) - 1, by omega, by omega, rfl, HT2⟩
        case measure => simp [intOf]
    · have hx0' : decide (0 ≤ x) = false := by rw [decide_eq_false_iff_not]; exact hx0
      have HT2 : Hid (lastF ws vol block = none) := Lib.hid (by rw [HK.out, show (x + 1).toNat = 0 from by omega]; rfl)
      go_wp2_with fail
      go_ret2
      exact ⟨by rw [HT2.out]; rfl, rfl⟩

theorem refB_length (ws : List Wr) (id : Int) (bs : List ByteArray) : (refB ws id bs).length = bs.length := by simp [refB]
theorem refB_take {ws : List Wr} {id : Int} {bs : List ByteArray} {k : Nat} (h : k < bs.length) : (refB ws id bs).take (k + 1) = (refB ws id bs).take k ++ [(lastF ws id (k : Int)).getD bs[k]] := by
  rw [List.take_succ_eq_append_getElem (by rw [refB_length]; exact h)]
  simp only [refB, List.getElem_map, List.getElem_range]
  rw [List.getD_eq_getElem?_getD (l := bs), List.getElem?_eq_getElem h]
  rfl
theorem refA_take {vs : List Vl} {ws : List Wr} {k : Nat} (h : k < vs.length) : refA (vs.take (k + 1)) ws = refA (vs.take k) ws ++ [(vs[k].1, refB ws vs[k].1 vs[k].2)] := by
  unfold refA; rw [List.take_succ_eq_append_getElem h, List.map_append]; rfl
theorem refA_length (vs : List Vl) (ws : List Wr) : (refA vs ws).length = vs.length := by simp [refA]

set_option maxHeartbeats 8000000 in
set_option maxRecDepth 100000 in
theorem RefApply_any {w : World} {A A2 : Option Addr} {c c2 : Nat} {vs : List Vl} {ws : List Wr} (h : VolsAt w w.heap.size A vs) (hf : VolsFit vs) (h2 : WrsAt w w.heap.size A2 ws) (hl2 : ws.length ≤ 200) :
    Calls Try.prog 18 #[.slice A vs.length c, .slice A2 ws.length c2] w (VolsEnd (applyV vs ws) (checkE vs ws) w) := by
  have HV := Lib.hid h
  have HF := Lib.hid hf
  have HW := Lib.hid h2
  have HCk : Hid (∀ c c2, Calls Try.prog 28 #[.slice A vs.length c, .slice A2 ws.length c2] w fun e w' => e = .returned (.int .i64 (checkE vs ws)) ∧ Below w.heap.size w w') := Lib.hid (fun c c2 => RefCheck_any h hf h2 (by omega))
  by_cases h0 : checkE vs ws = 0
  · obtain ⟨hr, hck, _⟩ := right_apply h0
    rw [applyV_ok h0, h0, refA_apply (rightB_good hr) hck]
    rw [h0] at HCk
    obtain ⟨hs4, hs32⟩ := right_small hr
    have HS32 := Lib.hid hs32
    have HLast : Hid (∀ w1 c2 id b, Below w.heap.size w w1 → Calls Try.prog 29 #[.slice A2 ws.length c2, .int .i64 id, .int .i64 b] w1 fun e w' => e = .returned (.tuple #[.string ((lastF ws id b).getD ByteArray.empty), .bool (lastF ws id b).isSome]) ∧ w1 = w') := Lib.hid (fun w1 c2 id b hb => RefLast_any (h2.next hb) hl2 id b)
    obtain ⟨n, hn⟩ : ∃ n, vs.length = n := ⟨_, rfl⟩
    have HN := Lib.hid hn
    rw [hn] at hs4 HCk ⊢
    obtain ⟨iv, hiv, hv0, hv1, hv2⟩ := info_parts Try.infoVol
    obtain ⟨is, his, hs0, hs1, hs2⟩ := info_parts Try.infoStrV
    clear h hf h2 h0 hr hck hs32 hn
    go_enter Try.func18, Try.ntmps18
    go_wp2_with (go_at_call 28; refine (HCk.out _ _).mono ?_; rintro e w1 ⟨rfl, hb⟩; replace hb := Lib.hid hb)
    clear HCk
    go_loopw [7, 8] (fun o i wr => ∃ k : Nat, k ≤ n ∧ i = .int .i64 k ∧ (∃ us, Hid (OwnO wr w.heap.size o (refA (vs.take k) ws) us)) ∧ Hid (Below w.heap.size w wr)) (fun _ i _ => n - (intOf i).toNat)
    case atStart => exact ⟨0, Nat.zero_le _, rfl, ⟨[], Lib.hid (OwnO.none_ _ _)⟩, hb⟩
    case round =>
      clear hb
      obtain ⟨k, hk, rfl, ⟨us, HO⟩, HB⟩ := hrel
      obtain ⟨w0, hw0⟩ : ∃ w0, w0 = wr := ⟨_, rfl⟩
      subst hw0
      obtain ⟨Ao, co, ho, hxx⟩ := own_lies HO.out.row
      clear hxx
      subst ho
      have HLen : Hid ((refA (vs.take k) ws).length = k) := Lib.hid (by rw [refA_length, List.length_take, HN.out]; omega)
      rw [HLen.out]
      rw [HLen.out] at HO
      by_cases hlt : k < n
      · have hkl : k < vs.length := by rw [HN.out]; exact hlt
        obtain ⟨b, off, a, c', hA, hbl, x1, x2, hly⟩ := HV.out.at_ HB.out hkl
        have hwz : w.heap.size ≤ w0.heap.size := HB.out.size
        have hbw : b < w0.heap.size := by omega
        subst hA
        have HAt : Hid (∀ w', Below w.heap.size w w' → w'.cell? ⟨b, off + k * 2 + 1, none⟩ = some (.slice a vs[k].2.length c') ∧ Lies w' w.heap.size a (vs[k].2.map Value.string)) := Lib.hid (fun w' hb => by
          have hb' : Below w.heap.size w w' := hb
          rcases HV.out with h | ⟨b', off', hA', hlt', hc'⟩
          · rw [h] at hkl; simp at hkl
          · cases hA'
            obtain ⟨a1, c1, g1, g2, g3⟩ := hc' k hkl
            have e2 := (HB.out.cell (p := ⟨b, off + k * 2 + 1, none⟩) hbl)
            rw [x2, g2] at e2
            simp only [Option.some.injEq, Value.slice.injEq] at e2
            obtain ⟨rfl, _, rfl⟩ := e2
            exact ⟨(hb'.cell (p := ⟨b, off + k * 2 + 1, none⟩) hbl).trans g2, g3.below hb'⟩)
        have hb32 := HS32.out _ (List.getElem_mem hkl)
        have HT : Hid (refA (vs.take (k + 1)) ws = refA (vs.take k) ws ++ [(vs[k].1, refB ws vs[k].1 vs[k].2)]) := Lib.hid (refA_take hkl)
        obtain ⟨v, hv⟩ : ∃ v, vs[k] = v := ⟨_, rfl⟩
        rw [hv] at x1 x2 HT HAt hb32
        clear hv hkl hly
        obtain ⟨id, bs⟩ := v
        simp only at x1 x2 HT HAt hb32
        obtain ⟨q, hq⟩ : ∃ q, bs.length = q := ⟨_, rfl⟩
        have HQ := Lib.hid hq
        rw [hq] at x2 HAt hb32
        clear hq
        have HI0 := Lib.hid (Inner.first w0 id)
        go_wp2_with fail
        go_loopw [10] (fun j wr => ∃ t : Nat, t ≤ q ∧ j = .int .i64 t ∧ ∃ u, Hid (Inner w0 wr id ((refB ws id bs).take t) u)) (fun j _ => q - (intOf j).toNat)
        case atStart => exact ⟨0, Nat.zero_le _, rfl, _, HI0⟩
        case round =>
          clear HI0
          obtain ⟨t, ht, rfl, u, HI⟩ := hrel
          have HBi : Hid (Below w.heap.size w wr) := Lib.hid (HB.out.trans (HI.out.bel.mono hwz))
          obtain ⟨y1, y2⟩ := HAt.out wr HBi.out
          obtain ⟨z0, z1, z2⟩ := HI.out.cells
          obtain ⟨Au, cu, hu, hxx⟩ := own_lies HI.out.own
          clear hxx
          have HLt : Hid (((refB ws id bs).take t).length = t) := Lib.hid (by rw [List.length_take, refB_length, HQ.out]; omega)
          rw [HLt.out] at hu
          subst hu
          by_cases htq : t < q
          · have htl : t < bs.length := by rw [HQ.out]; exact htq
            obtain ⟨b2, off2, hA2, _, y3⟩ := y2.text (Below.refl _ _) htl
            subst hA2
            have HT2 := Lib.hid (refB_take (ws := ws) (id := id) htl)
            obtain ⟨s0, hs0'⟩ : ∃ s0, bs[t] = s0 := ⟨_, rfl⟩
            rw [hs0'] at y3 HT2
            clear hs0' htl y2
            have hwi : w0.heap.size < wr.heap.size := HI.out.lt
            have HOwnI : Hid (wr.ownsRow (w0.heap.size + 1) 9 1 (.slice Au t cu) t (((refB ws id bs).take t).map Value.string)) := Lib.hid (by have := HI.out.own; rw [HLt.out] at this; exact this)
            obtain ⟨lf, hlf⟩ : ∃ lf, lastF ws id (t : Int) = lf := ⟨_, rfl⟩
            have HLs : Hid (∀ c2, Calls Try.prog 29 #[.slice A2 ws.length c2, .int .i64 id, .int .i64 t] wr fun e w' => e = .returned (.tuple #[.string (lf.getD ByteArray.empty), .bool lf.isSome]) ∧ wr = w') := Lib.hid (fun c2 => by have := HLast.out wr c2 id t HBi.out; rw [hlf] at this; exact this)
            rw [hlf] at HT2
            clear hlf
            have HStep : Hid (∀ s u' w3, lf.getD s0 = s → w3.ownsRow (w0.heap.size + 1) 9 1 u' (t + 1) (((refB ws id bs).take t).map Value.string ++ [.string s]) → (wr.alloc (.cells #[.string s] 9)).grownBy w3 (Value.slice Au t cu).ownBlock → Inner w0 (w3.setCell ⟨w0.heap.size, 1, none⟩ u') id ((refB ws id bs).take (t + 1)) u' ∧ w3.cell? ⟨w0.heap.size, 1, none⟩ = some (.slice Au t cu) ∧ w3.frozen? ⟨w0.heap.size, 1, none⟩ = false) := Lib.hid (fun s u' w3 hs ho hg => by
              rw [HT2.out, hs]
              exact HI.out.step (by rw [HLt.out]; exact ho) hg)
            cases lf with
            | some d =>
              simp only [Option.getD_some, Option.isSome_some] at HLs HStep
              go_wp2_with (first
                | (go_at_call 29; refine (HLs.out _).mono ?_; rintro e w' ⟨rfl, rfl⟩)
                | (at_builtin; refine wpList_append_own _ rfl (.tmp 60) (.tmp 62) 49 rfl (w0.heap.size + 1) 9 is (.string ByteArray.empty) 1 16 Try.underlying49 his hs0 hs1 hs2 rfl (by decide) (.slice Au t cu) t _ rfl (HOwnI.out.alloc _) ⟨wr.heap.size, 0, none⟩ 1 1 [.string d] rfl rfl (cell_one_new _ _ _) ?c2 ?c3 ?c4 ?c5 ?_))
              case c2 => intro u hu; simp only [List.mem_singleton] at hu; subst hu; rfl
              case c3 => unfold maxLen; omega
              case c4 => omega
              case c5 => simp; omega
              intro u' w3 ho3 hg3 _
              rw [← List.map_take] at ho3
              obtain ⟨hI3, m1, m2⟩ := HStep.out d u' w3 rfl ho3 hg3
              obtain ⟨Au3, cu3, hu3, hxx⟩ := own_lies ho3
              have HI3 := Lib.hid hI3
              clear ho3 hg3 hI3 hxx
              subst hu3
              go_wp2_with fail
              go_roundw
              case rel => exact ⟨t + 1, by omega, by go_num, _, HI3⟩
              case measure => simp [intOf]; omega
            | none =>
              simp only [Option.getD_none, Option.isSome_none] at HLs HStep
              go_wp2_with (first
                | (go_at_call 29; refine (HLs.out _).mono ?_; rintro e w' ⟨rfl, rfl⟩)
                | (at_builtin; refine wpList_append_own _ rfl (.tmp 60) (.tmp 62) 49 rfl (w0.heap.size + 1) 9 is (.string ByteArray.empty) 1 16 Try.underlying49 his hs0 hs1 hs2 rfl (by decide) (.slice Au t cu) t _ rfl (HOwnI.out.alloc _) ⟨wr.heap.size, 0, none⟩ 1 1 [.string s0] rfl rfl (cell_one_new _ _ _) ?c2 ?c3 ?c4 ?c5 ?_))
              case c2 => intro u hu; simp only [List.mem_singleton] at hu; subst hu; rfl
              case c3 => unfold maxLen; omega
              case c4 => omega
              case c5 => simp; omega
              intro u' w3 ho3 hg3 _
              rw [← List.map_take] at ho3
              obtain ⟨hI3, m1, m2⟩ := HStep.out s0 u' w3 rfl ho3 hg3
              obtain ⟨Au3, cu3, hu3, hxx⟩ := own_lies ho3
              have HI3 := Lib.hid hI3
              clear ho3 hg3 hI3 hxx
              subst hu3
              go_wp2_with fail
              go_roundw
              case rel => exact ⟨t + 1, by omega, by go_num, _, HI3⟩
              case measure => simp [intOf]; omega
          · have HIx : Hid (Inner w0 wr id (refB ws id bs) (.slice Au t cu)) := Lib.hid (by have := HI.out; rwa [List.take_of_length_le (by rw [refB_length, HQ.out]; omega)] at this)
            have hwi : w0.heap.size < wr.heap.size := HI.out.lt
            have HOwnV : Hid (wr.ownsRow w.heap.size 51 2 (.slice Ao k co) k (volCells (refA (vs.take k) ws) us)) := Lib.hid (by have := (HO.out.kept HI.out.bel).row; rw [HLen.out] at this; exact this)
            have HEnd : Hid (∀ g cap w3, w3.ownsRow w.heap.size 51 2 (.slice (some ⟨g, 0, none⟩) (k + 1) cap) (k + 1) (volCells (refA (vs.take k) ws) us ++ [.int .i64 id, .slice Au t cu]) → (wr.alloc (.cells #[.int .i64 id, .slice Au t cu] 51)).grownBy w3 (Value.slice Ao k co).ownBlock → ((Value.slice Ao k co).ownBlock = some g ∨ g = wr.heap.size + 1) → OwnO w3 w.heap.size (.slice (some ⟨g, 0, none⟩) (k + 1) cap) (refA (vs.take (k + 1)) ws) (us ++ [.slice Au t cu]) ∧ Below w.heap.size w w3) := Lib.hid (fun g cap w3 ho hg hat => by
              have := built (w := w) HO.out HIx.out HB.out hwz (by rw [HLen.out]; exact ho) hg hat (Nat.le_refl _)
              rw [HLen.out] at this
              rw [HT.out]
              exact this)
            go_wp2_with (at_builtin; refine wpList_append_lies _ rfl (.tmp 65) (.tmp 67) 23 rfl w.heap.size 51 iv (.agg #[.int .i64 0, .slice none 0 0]) 2 32 Try.underlying23 hiv hv0 hv1 hv2 rfl (by decide) (.slice Ao k co) k _ rfl (HOwnV.out.alloc _) ⟨wr.heap.size, 0, none⟩ 1 1 [.int .i64 id, .slice Au t cu] rfl rfl ?d1 ?d2 (by omega) ?d3 ?d4 ?d5 (wr.heap.size + 1) ?d6 ?_)
            case d1 =>
              intro j x hx
              rw [WideShapes.add_plain, Nat.zero_add, Lib.cell_of_heap (heap_alloc_new _ _)]
              simpa using hx
            case d2 => intro x hx; simp only [List.mem_cons, List.not_mem_nil, or_false] at hx; rcases hx with rfl | rfl <;> rfl
            case d3 => unfold maxLen; omega
            case d4 => omega
            case d5 => simp; omega
            case d6 => simp
            intro g cap w3 ho3 hg3 hat3 _
            obtain ⟨hE1, hE2⟩ := HEnd.out g cap w3 ho3 hg3 hat3
            have HE1 := Lib.hid hE1
            have HE2 := Lib.hid hE2
            clear ho3 hg3 hat3 hE1 hE2
            go_wp2_with fail
            go_roundw
            case rel => exact ⟨k + 1, by omega, by go_num, ⟨_, HE1⟩, HE2⟩
            case measure => simp [intOf]; omega
      · have HE : Hid (VolsEnd (refA vs ws) 0 w (.returned (.tuple #[.slice Ao k co, .int .i64 0])) w0) := Lib.hid (by
          have hO := HO.out
          have hL := HLen.out
          rw [List.take_of_length_le (by rw [HN.out]; omega)] at hO hL
          obtain ⟨A9, c9, hv9, hvol9⟩ := hO.vols
          rw [hL] at hv9
          simp only [Value.slice.injEq] at hv9
          obtain ⟨rfl, _, rfl⟩ := hv9
          exact ⟨_, _, by rw [hL], hvol9, HB.out⟩)
        go_wp2_with fail
        go_ret2
        exact HE.out
  · rw [applyV_no h0]
    have h0' : (checkE vs ws != 0) = true := by rw [bne_iff_ne]; exact h0
    clear h hf h2 h0
    obtain ⟨e8, he8⟩ : ∃ e8, checkE vs ws = e8 := ⟨_, rfl⟩
    rw [he8] at HCk h0' ⊢
    clear he8
    go_enter Try.func18, Try.ntmps18
    go_wp2_with (go_at_call 28; refine (HCk.out _ _).mono ?_; rintro e w1 ⟨rfl, hb⟩; replace hb := Lib.hid hb)
    go_ret2
    exact VolsEnd.none_ _ hb.out
end Go.Proofs.Ytaenlcokgplgkaa
