/- Bitmaps: the walks of DirtySets and DirtyNames. -/
import Derived.Test.YtpefhocjnkbklaaDirX
namespace Go.Proofs.Ytpefhocjnkbklaa
open Go.RowKit

set_option maxHeartbeats 4000000 in
set_option maxRecDepth 100000 in
theorem DirtySets_walk {w : World} {A : Option Addr} {c : Nat} {m : List Bt} (h : BtsAt w w.heap.size A m) (hf : BtsFit m) (v k : Int) :
    Calls Try.prog 3 #[.slice A m.length c, .int .i64 v, .int .i64 k] w fun e w' => e = .returned (.bool true) ∧ Below w.heap.size w w' := by
  have HV := Lib.hid h
  have HF := Lib.hid hf
  have hl := hf.1
  clear h hf
  by_cases g1 : 300 < m.length
  · have hd : decide ((300 : Int) < (m.length : Int)) = true := by rw [decide_eq_true_iff]; omega
    go_enter Try.func3, Try.ntmps3
    go_wp2_with fail
    refine (awake10_any _).mono ?_
    rintro e w4 ⟨rfl, hb4⟩
    replace hb4 := Lib.hid hb4
    go_wp2_with fail
    go_ret
    exact ⟨rfl, hb4.out⟩
  · have hd : decide ((300 : Int) < (m.length : Int)) = false := by rw [decide_eq_false_iff_not]; omega
    obtain ⟨r, hr⟩ : ∃ r, bitsOk m = r := ⟨_, rfl⟩
    obtain ⟨p, hp⟩ : ∃ p, hasB m v k = p := ⟨_, rfl⟩
    have HR1 : Hid (∀ w1 c, Below w.heap.size w w1 → Calls Try.prog 11 #[.slice A m.length c] w1 fun e w' => e = .returned (.bool r) ∧ Below w.heap.size w w') := Lib.hid fun w1 c h => by
      rw [← hr]; exact (DocRight_any (HV.out.next h) HF.out.1).mono fun _ _ h3 => ⟨h3.1, below_next h h3.2⟩
    have HR2 : Hid (∀ w1 c, Below w.heap.size w w1 → Calls Try.prog 12 #[.slice A m.length c] w1 fun e w' => e = .returned (.bool r) ∧ Below w.heap.size w w') := Lib.hid fun w1 c h => by
      rw [← hr]; exact (DirRight_any (HV.out.next h) HF.out.1).mono fun _ _ h3 => ⟨h3.1, below_next h h3.2⟩
    have HH1 : Hid (∀ w1 c, Below w.heap.size w w1 → Calls Try.prog 13 #[.slice A m.length c, .int .i64 v, .int .i64 k] w1 fun e w' => e = .returned (.bool p) ∧ Below w.heap.size w w') := Lib.hid fun w1 c h => by
      rw [← hp]; exact (DirHas_any (HV.out.next h) HF.out v k).mono fun _ _ h3 => ⟨h3.1, below_next h h3.2⟩
    have HH2 : Hid (∀ w1 c, Below w.heap.size w w1 → Calls Try.prog 14 #[.slice A m.length c, .int .i64 v, .int .i64 k] w1 fun e w' => e = .returned (.bool p) ∧ Below w.heap.size w w') := Lib.hid fun w1 c h => by
      rw [← hp]; exact (DocHas_any (HV.out.next h) HF.out v k).mono fun _ _ h3 => ⟨h3.1, below_next h h3.2⟩
    have HSt : Hid (∀ w1 c, Below w.heap.size w w1 → Calls Try.prog 15 #[.slice A m.length c, .int .i64 v, .int .i64 k] w1 (BtsEnd (setR m v k) (.int .i64 (setE m v k)) w1)) := Lib.hid fun w1 c h => Set_any (HV.out.next h) HF.out v k
    have hpp : (p != p) = false := by simp
    have hrr : (r != r) = false := by simp
    cases r with
    | false =>
      rw [(setE_not hr).1, (setE_not hr).2] at HSt
      clear hr hp
      go_enter Try.func3, Try.ntmps3
      go_wp2_with fail
      refine (HR1.out _ _ (Below.refl _ _)).mono ?_
      rintro e w1 ⟨rfl, hb1⟩
      replace hb1 := Lib.hid hb1
      go_wp2_with fail
      refine (HR2.out _ _ hb1.out).mono ?_
      rintro e w2 ⟨rfl, hb2⟩
      replace hb2 := Lib.hid hb2
      go_wp2_with fail
      refine (HH1.out _ _ hb2.out).mono ?_
      rintro e w3 ⟨rfl, hb3⟩
      replace hb3 := Lib.hid hb3
      go_wp2_with fail
      refine (HH2.out _ _ hb3.out).mono ?_
      rintro e w4 ⟨rfl, hb4⟩
      replace hb4 := Lib.hid hb4
      go_wp2_with fail
      refine (HSt.out _ _ hb4.out).mono ?_
      rintro e w5 ⟨B5, d5, rfl, _, hb5⟩
      have HB5 := Lib.hid (below_next hb4.out hb5)
      clear hb5
      go_wp2_with fail
      refine (awake10_any _).mono ?_
      rintro e w6 ⟨rfl, hb6⟩
      have HB6 := Lib.hid (below_next HB5.out hb6)
      clear hb6
      go_wp2_with fail
      go_ret
      exact ⟨rfl, HB6.out⟩
    | true =>
      have HLi : Hid (∀ w1 c, Below w.heap.size w w1 → Calls Try.prog 17 #[.slice A m.length c] w1 (MksRow (listM m) w1)) := Lib.hid fun w1 c h => by
        have := DocList_any (c := c) (HV.out.next h) HF.out
        rw [marksM_is hr] at this
        exact this
      have hll : (listM m).length ≤ 8160 := by rw [← countM_is hr]; exact countM_le m
      have hmay : mayAll (listM m ++ [(v, k)]) = mayB (v, k) := by rw [mayAll_append, listM_may hr, mayAll_one]; rfl
      have HOf0 : Hid (∀ w1 B d, MksAt w1 w1.heap.size B (listM m ++ [(v, k)]) → Calls Try.prog 16 #[.slice B ((listM m).length + 1) d] w1 (BtsEnd (ofM (listM m ++ [(v, k)])) (.bool (mayB (v, k))) w1)) := Lib.hid fun w1 B d h => by
        have := DocOf_any (c := d) h (by rw [List.length_append, List.length_singleton]; omega)
        rw [hmay, List.length_append, List.length_singleton] at this
        exact this
      have HSet := Lib.hid fun h => set_of hr (vol := v) (block := k) h
      have HNo := Lib.hid fun h => ofM_not (l := listM m ++ [(v, k)]) (hmay.trans h)
      obtain ⟨L, hL⟩ : ∃ L, listM m = L := ⟨_, rfl⟩
      rw [hL] at HLi hll HOf0 HSet HNo
      obtain ⟨n, hn⟩ : ∃ n, L.length = n := ⟨_, rfl⟩
      have HLn := Lib.hid hn
      rw [hn] at hll HOf0
      obtain ⟨i0, hi0, hz0, hz1, hz2⟩ := info_parts Try.infoMk
      clear hmay hL hn
      cases hm : mayB (v, k) with
      | false =>
        rw [(setE_may hr hm).1, (setE_may hr hm).2] at HSt
        rw [hm, HNo.out hm] at HOf0
        clear hr hp hm
        go_enter Try.func3, Try.ntmps3
        go_wp2_with fail
        refine (HR1.out _ _ (Below.refl _ _)).mono ?_
        rintro e w1 ⟨rfl, hb1⟩
        replace hb1 := Lib.hid hb1
        go_wp2_with fail
        refine (HR2.out _ _ hb1.out).mono ?_
        rintro e w2 ⟨rfl, hb2⟩
        replace hb2 := Lib.hid hb2
        go_wp2_with fail
        refine (HH1.out _ _ hb2.out).mono ?_
        rintro e w3 ⟨rfl, hb3⟩
        replace hb3 := Lib.hid hb3
        go_wp2_with fail
        refine (HH2.out _ _ hb3.out).mono ?_
        rintro e w4 ⟨rfl, hb4⟩
        replace hb4 := Lib.hid hb4
        go_wp2_with fail
        refine (HSt.out _ _ hb4.out).mono ?_
        rintro e w5 ⟨B5, d5, rfl, _, hb5⟩
        have HB5 := Lib.hid (below_next hb4.out hb5)
        clear hb5
        go_wp2_with fail
        refine (HLi.out _ _ HB5.out).mono ?_
        rintro e w6 ⟨B6, d6, rfl, _, ⟨_, ho6⟩, hb6⟩
        rw [HLn.out] at ho6 ⊢
        have HO6 := Lib.hid ho6
        have HB6 := Lib.hid hb6
        clear ho6 hb6
        go_wp2_with (at_builtin; refine wpList_append_own_at _ rfl (.tmp 54) (.tmp 58) 31 rfl w5.heap.size 34 i0 (.agg #[.int .i64 0, .int .i64 0]) 2 16 Try.underlying31 hi0 hz0 hz1 hz2 rfl (by decide) (.slice B6 n d6) n _ rfl (HO6.out.alloc _) ⟨w6.heap.size, 0, none⟩ 1 1 [.int .i64 v, .int .i64 k] (by first | rfl | simp) rfl ?c3 (by intro u hu; simp at hu; rcases hu with rfl | rfl <;> rfl) ?c4 ?c5 ?c6 ?_)
        case c3 =>
          intro j u hj
          have := cell_two_new w6 (.int .i64 v) (.int .i64 k) 34 j u hj
          simpa using this
        case c4 => unfold maxLen; omega
        case c5 => omega
        case c6 => have := HB6.out.size; simp; omega
        intro v7 w7 hown hg _ _
        have hown2 : w7.ownsRow w5.heap.size 34 2 v7 (n + 1) (mkCells (L ++ [(v, k)])) := by rw [mkCells_append]; exact hown
        obtain ⟨B7, d7, rfl, _, hl7⟩ := own_lies hown2
        have HM7 := Lib.hid (MksAt.of_lies hl7)
        have HB7 : Hid (Below w.heap.size w w7) := Lib.hid (HB5.out.trans (((HB6.out.alloc HB6.out.size _).grown hg (by have := HB6.out.size; simp; omega) (fun q hq => (HO6.out.lt q hq).1)).mono HB5.out.size))
        clear hown hown2 hg hl7
        go_wp2_with fail
        refine (HOf0.out _ _ _ HM7.out).mono ?_
        rintro e w8 ⟨B8, d8, rfl, _, hb8⟩
        have HB8 := Lib.hid (below_next HB7.out hb8)
        clear hb8
        go_wp2_with fail
        refine (awake10_any _).mono ?_
        rintro e w9 ⟨rfl, hb9⟩
        have HB9 := Lib.hid (below_next HB8.out hb9)
        clear hb9
        go_wp2_with fail
        go_ret
        exact ⟨rfl, HB9.out⟩
      | true =>
        have HJf := Lib.hid (joinM_fit hr (oneM_ok hm))
        have HHz : Hid (∀ w1 B d, BtsAt w1 w1.heap.size B (joinM m (oneM v k)) → Calls Try.prog 13 #[.slice B (joinM m (oneM v k)).length d, .int .i64 v, .int .i64 k] w1 fun e w' => e = .returned (.bool true) ∧ Below w1.heap.size w1 w') := Lib.hid fun w1 B d h => by
          rw [← has_set hr hm]; exact DirHas_any h HJf.out v k
        rw [(setE_ok hr hm).1, (setE_ok hr hm).2] at HSt
        rw [hm, HSet.out hm] at HOf0
        generalize joinM m (oneM v k) = J at *
        clear hr hp hm HSet HNo
        go_enter Try.func3, Try.ntmps3
        go_wp2_with fail
        refine (HR1.out _ _ (Below.refl _ _)).mono ?_
        rintro e w1 ⟨rfl, hb1⟩
        replace hb1 := Lib.hid hb1
        go_wp2_with fail
        refine (HR2.out _ _ hb1.out).mono ?_
        rintro e w2 ⟨rfl, hb2⟩
        replace hb2 := Lib.hid hb2
        go_wp2_with fail
        refine (HH1.out _ _ hb2.out).mono ?_
        rintro e w3 ⟨rfl, hb3⟩
        replace hb3 := Lib.hid hb3
        go_wp2_with fail
        refine (HH2.out _ _ hb3.out).mono ?_
        rintro e w4 ⟨rfl, hb4⟩
        replace hb4 := Lib.hid hb4
        go_wp2_with fail
        refine (HSt.out _ _ hb4.out).mono ?_
        rintro e w5 ⟨B5, d5, rfl, hA5, hb5⟩
        have HB5 := Lib.hid (below_next hb4.out hb5)
        have HA5 := Lib.hid hA5
        clear hb5 hA5
        go_wp2_with fail
        refine (HLi.out _ _ HB5.out).mono ?_
        rintro e w6 ⟨B6, d6, rfl, _, ⟨_, ho6⟩, hb6⟩
        rw [HLn.out] at ho6 ⊢
        have HO6 := Lib.hid ho6
        have HB6 := Lib.hid hb6
        clear ho6 hb6
        go_wp2_with (at_builtin; refine wpList_append_own_at _ rfl (.tmp 54) (.tmp 58) 31 rfl w5.heap.size 34 i0 (.agg #[.int .i64 0, .int .i64 0]) 2 16 Try.underlying31 hi0 hz0 hz1 hz2 rfl (by decide) (.slice B6 n d6) n _ rfl (HO6.out.alloc _) ⟨w6.heap.size, 0, none⟩ 1 1 [.int .i64 v, .int .i64 k] (by first | rfl | simp) rfl ?c3 (by intro u hu; simp at hu; rcases hu with rfl | rfl <;> rfl) ?c4 ?c5 ?c6 ?_)
        case c3 =>
          intro j u hj
          have := cell_two_new w6 (.int .i64 v) (.int .i64 k) 34 j u hj
          simpa using this
        case c4 => unfold maxLen; omega
        case c5 => omega
        case c6 => have := HB6.out.size; simp; omega
        intro v7 w7 hown hg _ _
        have hown2 : w7.ownsRow w5.heap.size 34 2 v7 (n + 1) (mkCells (L ++ [(v, k)])) := by rw [mkCells_append]; exact hown
        obtain ⟨B7, d7, rfl, _, hl7⟩ := own_lies hown2
        have HM7 := Lib.hid (MksAt.of_lies hl7)
        have hb57 : Below w5.heap.size w5 w7 := (HB6.out.alloc HB6.out.size _).grown hg (by have := HB6.out.size; simp; omega) (fun q hq => (HO6.out.lt q hq).1)
        have HA7 := Lib.hid (HA5.out.next hb57)
        have HB7 : Hid (Below w.heap.size w w7) := Lib.hid (below_next HB5.out hb57)
        clear hown hown2 hg hl7 hb57
        go_wp2_with fail
        refine (HOf0.out _ _ _ HM7.out).mono ?_
        rintro e w8 ⟨B8, d8, rfl, hA8, hb8⟩
        have HA7' := Lib.hid (HA7.out.next hb8)
        have HA8 := Lib.hid hA8
        have HB8 := Lib.hid (below_next HB7.out hb8)
        clear hb8 hA8 HA7
        go_wp2_with fail
        refine (DocEqual_any HA7'.out HA8.out HJf.out.1).mono ?_
        rw [eqBt_self]
        rintro e w9 ⟨rfl, hb9⟩
        have HA9 := Lib.hid (HA7'.out.next hb9)
        have HB9 := Lib.hid (below_next HB8.out hb9)
        clear hb9
        go_wp2_with fail
        refine (HHz.out _ _ _ HA9.out).mono ?_
        rintro e wa ⟨rfl, hba⟩
        have HBa := Lib.hid (below_next HB9.out hba)
        clear hba
        go_wp2_with fail
        refine (awake10_any _).mono ?_
        rintro e wb ⟨rfl, hbb⟩
        have HBb := Lib.hid (below_next HBa.out hbb)
        clear hbb
        go_wp2_with fail
        go_ret
        exact ⟨rfl, HBb.out⟩
end Go.Proofs.Ytpefhocjnkbklaa
