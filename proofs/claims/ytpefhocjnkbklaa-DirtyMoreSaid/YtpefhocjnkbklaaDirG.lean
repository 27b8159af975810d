/- Bitmaps: contract of the document's List. -/
import Derived.Test.YtpefhocjnkbklaaDirF
namespace Go.Proofs.Ytpefhocjnkbklaa
open Go.RowKit

theorem has_at {m : List Bt} (h : bitsOk m = true) {k : Nat} (hk : k < m.length) {q : Nat} (hq : q < 32) : hasB m m[k].vol (q : Int) = m[k].mask.toNat.testBit q := by
  rw [hasB_doc h (by omega) (by omega), maskAt_of h (List.getElem_mem hk), Int.toNat_natCast]

set_option maxHeartbeats 4000000 in
set_option maxRecDepth 100000 in
theorem DocList_any {w : World} {A : Option Addr} {c : Nat} {m : List Bt} (h : BtsAt w w.heap.size A m) (hf : BtsFit m) :
    Calls Try.prog 17 #[.slice A m.length c] w (MksRow (marksM m) w) := by
  have HV := Lib.hid h
  have HL := Lib.hid hf.1
  have hl := hf.1
  have HF := Lib.hid hf
  obtain ⟨i0, hi0, hz0, hz1, hz2⟩ := info_parts Try.infoMk
  clear h hf
  cases hr : bitsOk m with
  | false =>
    rw [marksM_not hr]
    obtain ⟨n, hn⟩ : ∃ n, m.length = n := ⟨_, rfl⟩
    have hn0 : n ≠ 0 := by
      intro e
      rw [e] at hn
      rw [List.eq_nil_of_length_eq_zero hn] at hr
      cases hr
    have hpos : decide (0 < n) = true := by rw [decide_eq_true_iff]; omega
    have hpos2 : (0 : Int) < (n : Int) := by omega
    have HRt : Hid (Calls Try.prog 11 #[.slice A n c] w fun e w' => e = .returned (.bool false) ∧ Below w.heap.size w w') := Lib.hid (by
      rw [← hn]; refine (DocRight_any HV.out HL.out).mono ?_; rw [hr]; exact fun _ _ h => h)
    rw [hn] at hl ⊢
    clear hr hn
    go_enter Try.func17, Try.ntmps17
    go_wp2_with fail
    go_loopg [3, 4] 0 (fun kx s3 s4 wr => s4 = .int .i64 0 ∧ s3 = .slice none 0 0 ∧ Hid (w = wr))
    case atStart => exact ⟨rfl, rfl, Lib.hid rfl⟩
    case round =>
      obtain ⟨rfl, rfl, HW⟩ := hrel
      have hw := HW.out
      subst hw
      go_wp2_with (go_at_call 11; refine HRt.out.mono ?_; rintro e w1 ⟨rfl, hb⟩; replace hb := Lib.hid hb)
      go_ret
      exact .none_ hb.out
  | true =>
    rw [marksM_is hr]
    have hl := bitsOk_length hr
    have HMf := Lib.hid fun k hk q hq => has_at hr (k := k) hk (q := q) hq
    have hLL : (listM m).length ≤ 8160 := by rw [← countM_is hr]; exact countM_le m
    obtain ⟨L, hLe⟩ : ∃ L, listM m = L := ⟨_, rfl⟩
    have HLe := Lib.hid hLe
    rw [hLe] at hLL ⊢
    have HLL := Lib.hid hLL
    obtain ⟨n, hn⟩ : ∃ n, m.length = n := ⟨_, rfl⟩
    have HN := Lib.hid hn
    have HRt : Hid (∀ wr, Below w.heap.size w wr → Calls Try.prog 11 #[.slice A n c] wr fun e w' => e = .returned (.bool true) ∧ Below wr.heap.size wr w') := Lib.hid fun wr hb => by
      rw [← hn]; refine (DocRight_any (HV.out.next hb) HL.out).mono ?_; rw [hr]; exact fun _ _ h => h
    have HHas : Hid (∀ wr, Below w.heap.size w wr → ∀ v b, Calls Try.prog 14 #[.slice A n c, .int .i64 v, .int .i64 b] wr fun e w' => e = .returned (.bool (hasB m v b)) ∧ Below wr.heap.size wr w') := Lib.hid fun wr hb v b => by
      rw [← hn]; exact DocHas_any (HV.out.next hb) HF.out v b
    rw [hn] at hl ⊢
    clear hr hLe hLL hn
    go_enter Try.func17, Try.ntmps17
    go_wp2_with fail
    go_loopg [3, 4] n (fun kx s3 s4 wr => ∃ (k : Nat) (ms : List Mk) (j : Nat), s4 = .int .i64 k ∧ k ≤ n ∧ n - k ≤ kx ∧ ms.length = j ∧ Hid (ms ++ listM (m.drop k) = L) ∧ Hid (wr.ownsRow w.heap.size 34 2 s3 j (mkCells ms)) ∧ Hid (Below w.heap.size w wr))
    case atStart => exact ⟨0, [], 0, rfl, Nat.zero_le _, by omega, rfl, Lib.hid HLe.out, Lib.hid (World.ownsRow_nil _ _ _ _), Lib.hid (Below.refl _ _)⟩
    case round =>
      obtain ⟨k, ms, j, rfl, hk, hkx, hj, HM, HO, HB⟩ := hrel
      obtain ⟨A4, c4, h4, hxx⟩ := own_lies HO.out
      clear hxx
      subst h4
      by_cases hlt : k < n
      · have hltz : (k : Int) < (n : Int) := by omega
        have hltd : decide (k < n) = true := by rw [decide_eq_true_iff]; exact hlt
        have hk0 : (0 : Int) ≤ (k : Int) := Int.natCast_nonneg _
        have hkl : k < m.length := by rw [HN.out]; exact hlt
        have HHk := Lib.hid fun q hq => HMf.out k hkl q hq
        obtain ⟨b, off, hA, hbl, c1, c2⟩ := HV.out.at_ (Below.refl _ _) hkl
        have HCell : Hid (∀ ws, Below w.heap.size w ws → ws.cell? ⟨b, off + k * 2, none⟩ = some (.int .i64 m[k].vol)) := Lib.hid fun ws hb => by rw [hb.cell (p := ⟨b, off + k * 2, none⟩) hbl]; exact c1
        subst hA
        have HD := Lib.hid (listM_drop hkl)
        obtain ⟨x, hx⟩ : ∃ x, m[k] = x := ⟨_, rfl⟩
        rw [hx] at HD HCell HHk
        clear hx hkl c1 c2
        obtain ⟨i1, u1⟩ := x
        simp only at HD HCell HHk
        obtain ⟨T, hT⟩ : ∃ T, ms ++ marksOf i1 (bitsAt u1.toNat 0 32) = T := ⟨_, rfl⟩
        have HT := Lib.hid hT
        have HTL : Hid (T ++ listM (m.drop (k + 1)) = L) := Lib.hid (by rw [← hT, List.append_assoc, ← HD.out, HM.out])
        clear hT HD HM
        go_wp2_with (go_at_call 11; refine (HRt.out _ HB.out).mono ?_; rintro e w1 ⟨rfl, hb⟩; replace hb := Lib.hid hb)
        have HB1 : Hid (Below w.heap.size w w1) := Lib.hid (below_next HB.out hb.out)
        have HO1 : Hid (w1.ownsRow w.heap.size 34 2 (.slice A4 j c4) j (mkCells ms)) := Lib.hid (own_kept HO.out hb.out)
        clear HB HO hb
        go_loopg [3, 5] 32 (fun kx s3 s5 ws => ∃ (q : Nat) (ns : List Mk) (j : Nat), s5 = .int .i64 q ∧ q ≤ 32 ∧ 32 - q ≤ kx ∧ ns.length = j ∧ Hid (ns ++ marksOf i1 (bitsAt u1.toNat q (32 - q)) = T) ∧ Hid (ws.ownsRow w.heap.size 34 2 s3 j (mkCells ns)) ∧ Hid (Below w.heap.size w ws))
        case atStart => exact ⟨0, ms, j, rfl, Nat.zero_le _, by omega, hj, HT, HO1, HB1⟩
        case round =>
          clear HO1 HB1 HT hj
          obtain ⟨q, ns, j', rfl, hq, hqx, hj, HM, HO, HB⟩ := hrel
          obtain ⟨A5, c5, h5, hxx⟩ := own_lies HO.out
          clear hxx
          subst h5
          by_cases hq2 : q < 32
          · have hlq : (q : Int) < 32 := by omega
            have d1 := HCell.out _ HB.out
            have hq0 : (0 : Int) ≤ (q : Int) := Int.natCast_nonneg _
            have HHa := Lib.hid (HHk.out q hq2)
            cases ht : u1.toNat.testBit q with
            | false =>
              have HHa2 : Hid (hasB m i1 (q : Int) = false) := Lib.hid (by rw [HHa.out, ht])
              have HM2 : Hid (ns ++ marksOf i1 (bitsAt u1.toNat (q + 1) (32 - (q + 1))) = T) := Lib.hid (by
                rw [← HM.out, show 32 - q = (32 - (q + 1)) + 1 from by omega, bitsAt_no ht])
              clear ht HHa
              go_wp2_with (go_at_call 14; refine (HHas.out _ HB.out _ _).mono ?_; rw [HHa2.out]; rintro e w3 ⟨rfl, hb⟩; replace hb := Lib.hid hb)
              go_roundg (32 - (q + 1))
              case measure => omega
              case rel => exact ⟨q + 1, ns, j', by go_num, by omega, Nat.le_refl _, hj, HM2, Lib.hid (own_kept HO.out hb.out), Lib.hid (below_next HB.out hb.out)⟩
            | true =>
              have HHa2 : Hid (hasB m i1 (q : Int) = true) := Lib.hid (by rw [HHa.out, ht])
              have HM2 : Hid ((ns ++ [(i1, (q : Int))]) ++ marksOf i1 (bitsAt u1.toNat (q + 1) (32 - (q + 1))) = T) := Lib.hid (by
                rw [← HM.out, show 32 - q = (32 - (q + 1)) + 1 from by omega, bitsAt_yes ht, marksOf_cons, List.append_assoc])
              have HJ : Hid (j' ≤ 8160) := Lib.hid (by
                have h1 := HLL.out
                rw [← HTL.out, ← HM.out] at h1
                simp at h1
                omega)
              clear ht HHa
              go_wp2_with (first
                | (go_at_call 14; refine (HHas.out _ HB.out _ _).mono ?_; rw [HHa2.out]; rintro e w3 ⟨rfl, hb⟩; have HB3 := Lib.hid (below_next HB.out hb); have HO3 := Lib.hid (own_kept HO.out hb); have d3 := HCell.out _ HB3.out; clear hb)
                | (at_builtin; refine wpList_append_own_at _ rfl (.tmp 28) (.tmp 36) 31 rfl w.heap.size 34 i0 (.agg #[.int .i64 0, .int .i64 0]) 2 16 Try.underlying31 hi0 hz0 hz1 hz2 rfl (by decide) (.slice A5 j' c5) j' _ rfl (HO3.out.alloc _) ⟨w3.heap.size, 0, none⟩ 1 1 [.int .i64 i1, .int .i64 q] (by first | rfl | simp) rfl ?c3 (by intro u hu; simp at hu; rcases hu with rfl | rfl <;> rfl) ?c4 ?c5 ?c6 ?_))
              case c3 =>
                intro j u hj
                have := cell_two_new w3 (.int .i64 i1) (.int .i64 q) 34 j u hj
                simpa using this
              case c4 => have := HJ.out; unfold maxLen; omega
              case c5 => have := HJ.out; omega
              case c6 => have := HB3.out.size; simp; omega
              intro v6 w6 hown hg _ _
              have HO6 : Hid (w6.ownsRow w.heap.size 34 2 v6 (j' + 1) (mkCells (ns ++ [(i1, (q : Int))]))) := Lib.hid (by rw [mkCells_append]; exact hown)
              have HB6 : Hid (Below w.heap.size w w6) := Lib.hid ((HB3.out.alloc HB3.out.size _).grown hg (by have := HB3.out.size; simp; omega) (fun q hq => (HO3.out.lt q hq).1))
              clear hown hg d3 HO3 HB3 HO HB
              go_wp2_with fail
              go_roundg (32 - (q + 1))
              case measure => omega
              case rel => exact ⟨q + 1, ns ++ [(i1, (q : Int))], j' + 1, by go_num, by omega, Nat.le_refl _, by simp [hj], HM2, HO6, HB6⟩
          · have hlq : ¬ (q : Int) < 32 := by omega
            have HT2 : Hid (ns = T) := Lib.hid (by
              have h := HM.out
              rw [show 32 - q = 0 from by omega] at h
              simpa [bitsAt, marksOf] using h)
            go_wp2_with fail
            go_roundg (n - (k + 1))
            case measure => omega
            case rel => exact ⟨k + 1, ns, j', by go_num, by omega, Nat.le_refl _, hj, Lib.hid (by rw [HT2.out, HTL.out]), HO, HB⟩
      · have hltz : ¬ (k : Int) < (n : Int) := by omega
        have hltd : decide (k < n) = false := by rw [decide_eq_false_iff_not]; exact hlt
        have HE : Hid (MksRow L w (.returned (.slice A4 j c4)) wr) := Lib.hid (by
          have hm := HM.out
          rw [List.drop_eq_nil_of_le (by rw [HN.out]; omega)] at hm
          simp only [listM, List.append_nil] at hm
          subst hm
          have hO := HO.out
          rw [← hj] at hO ⊢
          exact own_rowM hO (Nat.le_refl _) HB.out)
        go_wp2_with fail
        go_ret
        exact HE.out
end Go.Proofs.Ytpefhocjnkbklaa
