/- Bitmaps: the walks of DirtyNames and DirtyLists. -/
import Derived.Test.YtpefhocjnkbklaaDirX
namespace Go.Proofs.Ytpefhocjnkbklaa
open Go.RowKit

theorem vol_le {vs : List Vl} (h : rightB vs = true) : ∀ v ∈ vs, v.2.length ≤ 32 := by
  have hg := rightB_good h
  have : ∀ (l : List Vl) (last : Int), goodFrom last l = true → ∀ v ∈ l, v.2.length ≤ 32 := by
    intro l
    induction l with
    | nil => intro _ _ v hv; simp at hv
    | cons x r ih =>
      intro last h v hv
      obtain ⟨_, h2, h3⟩ := (goodFrom_cons _ _ _).1 h
      rcases List.mem_cons.1 hv with rfl | hv
      · exact ((volOk_iff v).1 h2).1.2.2.2
      · exact ih _ h3 v hv
  exact this vs 0 hg

set_option maxHeartbeats 4000000 in
set_option maxRecDepth 100000 in
theorem DirtyNames_walk {w : World} {A A2 : Option Addr} {c c2 : Nat} {ws : List Wr} {vs : List Vl} (h : WrsAt w w.heap.size A ws) (hf : ws.length ≤ 9223372036854775807) (h2 : VolsAt w w.heap.size A2 vs) (hf2 : VolsFit vs) :
    Calls Try.prog 5 #[.slice A ws.length c, .slice A2 vs.length c2] w fun e w' => e = .returned (.bool true) ∧ Below w.heap.size w w' := by
  have HV := Lib.hid h
  have H2 := Lib.hid h2
  have F2 := Lib.hid hf2
  clear h h2 hf2
  cases hs : smallB vs ws.length with
  | false =>
    have HS := Lib.hid hs
    clear hs
    go_enter Try.func5, Try.ntmps5
    go_wp2_with fail
    refine (Small_any H2.out F2.out _ _ _).mono ?_
    rw [HS.out]
    rintro e w' ⟨rfl, rfl⟩
    go_wp2_with fail
    refine (awake10_any _).mono ?_
    rintro e w4 ⟨rfl, hb4⟩
    replace hb4 := Lib.hid hb4
    go_wp2_with fail
    go_ret
    exact ⟨rfl, hb4.out⟩
  | true =>
    have HS := Lib.hid hs
    have hs2 := (smallB_iff _ _).1 hs
    have HOf : Hid (∀ c, Calls Try.prog 22 #[.slice A ws.length c] w (BtsEnd (ofM (namesW ws)) (.int .i64 (ofE ws)) w)) := Lib.hid fun c => Of_any HV.out hf
    have HNa : Hid (∀ w1 c, Below w.heap.size w w1 → Calls Try.prog 23 #[.slice A ws.length c] w1 (MksRow (namesW ws) w1)) := Lib.hid fun w1 c h => Names_any (HV.out.next h) (by omega)
    have hnl : (namesW ws).length = ws.length := by simp [namesW]
    have HDo : Hid (∀ w1 B d, MksAt w1 w1.heap.size B (namesW ws) → Calls Try.prog 16 #[.slice B ws.length d] w1 (BtsEnd (ofM (namesW ws)) (.bool (mayAll (namesW ws))) w1)) := Lib.hid fun w1 B d h => by
      have := DocOf_any (c := d) h (by rw [hnl]; omega)
      rw [hnl] at this
      exact this
    have HN := Lib.hid hnl
    have hol : (ofM (namesW ws)).length ≤ 9223372036854775807 := by have := bitsOk_length (ofM_ok (namesW ws)); omega
    have hoe : (mayAll (namesW ws) = true ∧ ofE ws = 0) ∨ (mayAll (namesW ws) = false ∧ ofE ws = 10) := by
      unfold ofE
      cases mayAll (namesW ws) with
      | true => exact .inl ⟨rfl, rfl⟩
      | false => exact .inr ⟨rfl, rfl⟩
    generalize ofM (namesW ws) = J at *
    generalize ofE ws = E at *
    generalize mayAll (namesW ws) = ok at *
    generalize namesW ws = ns at *
    have HJl := Lib.hid hol
    have HAl : Hid (∀ w1 c, Below w.heap.size w w1 → Calls Try.prog 24 #[.slice A2 vs.length c] w1 (BtsEnd1 (allM vs) w1)) := Lib.hid fun w1 c h => All_any (H2.out.next h) F2.out
    have HRv : Hid (∀ w1 c, Below w.heap.size w w1 → Calls Try.prog 25 #[.slice A2 vs.length c] w1 fun e w' => e = .returned (.bool (rightB vs)) ∧ Below w1.heap.size w1 w') := Lib.hid fun w1 c h => RefRight_any (H2.out.next h) F2.out
    clear hs hol hnl
    cases hv : rightB vs with
    | false =>
      rw [hv] at HRv
      rw [show allM vs = [] from by unfold allM; rw [hv]; rfl] at HAl
      clear hv
      rcases hoe with ⟨rfl, rfl⟩ | ⟨rfl, rfl⟩
      all_goals
        go_enter Try.func5, Try.ntmps5
        go_wp2_with fail
        refine (Small_any H2.out F2.out _ _ _).mono ?_
        rw [HS.out]
        rintro e w' ⟨rfl, rfl⟩
        go_wp2_with fail
        refine (HOf.out _).mono ?_
        rintro e w1 ⟨B1, d1, rfl, hA1, hb1⟩
        have HA1 := Lib.hid hA1
        have HB1 := Lib.hid hb1
        clear hA1 hb1
        go_wp2_with fail
        refine (HNa.out _ _ HB1.out).mono ?_
        rintro e w2 ⟨B2, d2, rfl, hl2, _, hb2⟩
        have HA2 := Lib.hid (HA1.out.next hb2)
        have HM2 := Lib.hid (MksAt.of_lies hl2)
        have HB2 := Lib.hid (below_next HB1.out hb2)
        rw [HN.out]
        clear hl2 hb2 HA1
        go_wp2_with fail
        refine (HDo.out _ _ _ HM2.out).mono ?_
        rintro e w3 ⟨B3, d3, rfl, hA3, hb3⟩
        have HA3 := Lib.hid hA3
        have HA2' := Lib.hid (HA2.out.next hb3)
        have HB3 := Lib.hid (below_next HB2.out hb3)
        clear hA3 hb3 HA2
        go_wp2_with fail
        refine (DocEqual_any HA2'.out HA3.out HJl.out).mono ?_
        rw [eqBt_self]
        rintro e w4 ⟨rfl, hb4⟩
        have HB4 := Lib.hid (below_next HB3.out hb4)
        clear hb4
        go_wp2_with fail
        refine (HAl.out _ _ HB4.out).mono ?_
        rintro e w5 ⟨B5, d5, rfl, _, hb5⟩
        have HB5 := Lib.hid (below_next HB4.out hb5)
        clear hb5
        go_wp2_with fail
        refine (HRv.out _ _ HB5.out).mono ?_
        rintro e w6 ⟨rfl, hb6⟩
        have HB6 := Lib.hid (below_next HB5.out hb6)
        clear hb6
        go_wp2_with fail
        refine (awake10_any _).mono ?_
        rintro e w7 ⟨rfl, hb7⟩
        have HB7 := Lib.hid (below_next HB6.out hb7)
        clear hb7
        go_wp2_with fail
        go_ret
        exact ⟨rfl, HB7.out⟩
    | true =>
      rw [hv] at HRv
      have h4 : vs.length ≤ 4 := ((rightB_iff vs).1 hv).1
      have HDA : Hid (∀ w1 c, Below w.heap.size w w1 → Calls Try.prog 26 #[.slice A2 vs.length c] w1 (MksRow (allMk vs) w1)) := Lib.hid fun w1 c h => DocAll_any (H2.out.next h) h4 fun v hv2 => vol_le hv v hv2
      have hal : (allMk vs).length ≤ 128 := by
        have : ∀ l : List Vl, (∀ v ∈ l, v.2.length ≤ 32) → (allMk l).length ≤ l.length * 32 := by
          intro l
          induction l with
          | nil => intro _; simp [allMk]
          | cons x r ih =>
            intro hx
            have := ih fun v hv => hx v (List.mem_cons_of_mem _ hv)
            have := hx x List.mem_cons_self
            rw [allMk_cons, List.length_append, upTo_length, List.length_cons]; omega
        have := this vs fun v hv2 => vol_le hv v hv2
        omega
      obtain ⟨q1, q2, q3⟩ := all_of hv
      have HDo2 : Hid (∀ w1 B d, MksAt w1 w1.heap.size B (allMk vs) → Calls Try.prog 16 #[.slice B (allMk vs).length d] w1 (BtsEnd (allM vs) (.bool true) w1)) := Lib.hid fun w1 B d h => by
        have := DocOf_any (c := d) h (by omega)
        rw [q1, q2] at this
        exact this
      have hfit : BtsFit (allM vs) := by rw [(all_of hv).2.2]; exact fit_of_ok (allBits_from (rightB_good hv)) (allBits_pos (rightB_good hv))
      have HWi : Hid (∀ w1 B d c, BtsAt w1 w1.heap.size B (allM vs) → Below w.heap.size w w1 → Calls Try.prog 27 #[.slice B (allM vs).length d, .slice A2 vs.length c] w1 fun e w' => e = .returned (.bool true) ∧ Below w1.heap.size w1 w') := Lib.hid fun w1 B d c h h3 => by
        rw [← within_all hv]; exact Within_any h hfit (H2.out.next h3) F2.out
      have HLl := Lib.hid hfit.1
      clear q3
      generalize allMk vs = mk at *
      generalize allM vs = L at *
      clear hv q1 q2 hal hfit h4
      rcases hoe with ⟨rfl, rfl⟩ | ⟨rfl, rfl⟩
      all_goals
        go_enter Try.func5, Try.ntmps5
        go_wp2_with fail
        refine (Small_any H2.out F2.out _ _ _).mono ?_
        rw [HS.out]
        rintro e w' ⟨rfl, rfl⟩
        go_wp2_with fail
        refine (HOf.out _).mono ?_
        rintro e w1 ⟨B1, d1, rfl, hA1, hb1⟩
        have HA1 := Lib.hid hA1
        have HB1 := Lib.hid hb1
        clear hA1 hb1
        go_wp2_with fail
        refine (HNa.out _ _ HB1.out).mono ?_
        rintro e w2 ⟨B2, d2, rfl, hl2, _, hb2⟩
        have HA2 := Lib.hid (HA1.out.next hb2)
        have HM2 := Lib.hid (MksAt.of_lies hl2)
        have HB2 := Lib.hid (below_next HB1.out hb2)
        rw [HN.out]
        clear hl2 hb2 HA1
        go_wp2_with fail
        refine (HDo.out _ _ _ HM2.out).mono ?_
        rintro e w3 ⟨B3, d3, rfl, hA3, hb3⟩
        have HA3 := Lib.hid hA3
        have HA2' := Lib.hid (HA2.out.next hb3)
        have HB3 := Lib.hid (below_next HB2.out hb3)
        clear hA3 hb3 HA2
        go_wp2_with fail
        refine (DocEqual_any HA2'.out HA3.out HJl.out).mono ?_
        rw [eqBt_self]
        rintro e w4 ⟨rfl, hb4⟩
        have HB4 := Lib.hid (below_next HB3.out hb4)
        clear hb4
        go_wp2_with fail
        refine (HAl.out _ _ HB4.out).mono ?_
        rintro e w5 ⟨B5, d5, rfl, hA5, hb5⟩
        have HA5 := Lib.hid hA5
        have HB5 := Lib.hid (below_next HB4.out hb5)
        clear hb5 hA5
        go_wp2_with fail
        refine (HRv.out _ _ HB5.out).mono ?_
        rintro e w6 ⟨rfl, hb6⟩
        have HA6 := Lib.hid (HA5.out.next hb6)
        have HB6 := Lib.hid (below_next HB5.out hb6)
        clear hb6 HA5
        go_wp2_with fail
        refine (HDA.out _ _ HB6.out).mono ?_
        rintro e w7 ⟨B7, d7, rfl, hl7, _, hb7⟩
        have HA7 := Lib.hid (HA6.out.next hb7)
        have HM7 := Lib.hid (MksAt.of_lies hl7)
        have HB7 := Lib.hid (below_next HB6.out hb7)
        clear hl7 hb7 HA6
        go_wp2_with fail
        refine (HDo2.out _ _ _ HM7.out).mono ?_
        rintro e w8 ⟨B8, d8, rfl, hA8, hb8⟩
        have HA7' := Lib.hid (HA7.out.next hb8)
        have HA8 := Lib.hid hA8
        have HB8 := Lib.hid (below_next HB7.out hb8)
        clear hA8 hb8 HA7
        go_wp2_with fail
        refine (DocEqual_any HA7'.out HA8.out HLl.out).mono ?_
        rw [eqBt_self]
        rintro e w9 ⟨rfl, hb9⟩
        have HA9 := Lib.hid (HA7'.out.next hb9)
        have HB9 := Lib.hid (below_next HB8.out hb9)
        clear hb9
        go_wp2_with fail
        refine (HWi.out _ _ _ _ HA9.out HB9.out).mono ?_
        rintro e wa ⟨rfl, hba⟩
        have HBa := Lib.hid (below_next HB9.out hba)
        clear hba
        go_wp2_with fail
        refine (awake10_any _).mono ?_
        rintro e wb ⟨rfl, hbb⟩
        have HBb := Lib.hid (below_next HBa.out hbb)
        clear hbb
        go_wp2_with fail
        go_ret
        exact ⟨rfl, HBb.out⟩

/-- What the loop over the marks keeps. -/
def LoopQ (vs : List Vl) (L : List Mk) (I q : Bool) (k : Nat) : Prop := (q = true → gotAll vs (L.take k) = true ∧ gotAll vs L = I) ∧ (q = false → I = false)
theorem gotAll_no {vs : List Vl} {l : List Mk} {k : Nat} (hk : k < l.length) (h : (gotE vs l[k].1 l[k].2 == 0) = false) : gotAll vs l = false := by
  refine gotAll_bad (k := k + 1) ?_
  rw [gotAll_take hk, h, Bool.and_false]

set_option maxHeartbeats 4000000 in
set_option maxRecDepth 100000 in
theorem DirtyLists_walk {w : World} {A A2 : Option Addr} {c c2 : Nat} {m : List Bt} {vs : List Vl} (h : BtsAt w w.heap.size A m) (hf : BtsFit m) (h2 : VolsAt w w.heap.size A2 vs) (hf2 : VolsFit vs) :
    Calls Try.prog 6 #[.slice A m.length c, .slice A2 vs.length c2] w fun e w' => e = .returned (.bool true) ∧ Below w.heap.size w w' := by
  have HV := Lib.hid h
  have HF := Lib.hid hf
  have hl := hf.1
  have H2 := Lib.hid h2
  have F2 := Lib.hid hf2
  clear h hf h2 hf2
  by_cases g1 : 300 < m.length
  · have hd : decide ((300 : Int) < (m.length : Int)) = true := by rw [decide_eq_true_iff]; omega
    go_enter Try.func6, Try.ntmps6
    go_wp2_with fail
    refine (awake10_any _).mono ?_
    rintro e w4 ⟨rfl, hb4⟩
    replace hb4 := Lib.hid hb4
    go_wp2_with fail
    go_ret
    exact ⟨rfl, hb4.out⟩
  · have hd : decide ((300 : Int) < (m.length : Int)) = false := by rw [decide_eq_false_iff_not]; omega
    cases hs : smallB vs 0 with
    | false =>
      have HS := Lib.hid hs
      clear hs
      go_enter Try.func6, Try.ntmps6
      go_wp2_with fail
      refine (Small_any H2.out F2.out _ _ _).mono ?_
      rw [HS.out]
      rintro e w' ⟨rfl, rfl⟩
      go_wp2_with fail
      refine (awake10_any _).mono ?_
      rintro e w4 ⟨rfl, hb4⟩
      replace hb4 := Lib.hid hb4
      go_wp2_with fail
      go_ret
      exact ⟨rfl, hb4.out⟩
    | true =>
      have HS := Lib.hid hs
      obtain ⟨L, hL⟩ : ∃ L, marksM m = L := ⟨_, rfl⟩
      have hLn : L.length = countM m := by rw [← hL]; rfl
      have hcl := countM_le m
      obtain ⟨n, hn⟩ : ∃ n, countM m = n := ⟨_, rfl⟩
      rw [hn] at hLn hcl
      have HDL : Hid (∀ w1 c, Below w.heap.size w w1 → Calls Try.prog 17 #[.slice A m.length c] w1 (MksRow L w1)) := Lib.hid fun w1 c h => by rw [← hL]; exact DocList_any (HV.out.next h) HF.out
      have HPL : Hid (∀ w1 c, Below w.heap.size w w1 → Calls Try.prog 30 #[.slice A m.length c] w1 (MksRow L w1)) := Lib.hid fun w1 c h => by rw [← hL]; exact DirList_any (HV.out.next h) HF.out
      have HCo : Hid (∀ w1 c, Below w.heap.size w w1 → Calls Try.prog 31 #[.slice A m.length c] w1 fun e w' => e = .returned (.int .i64 n) ∧ Below w1.heap.size w1 w') := Lib.hid fun w1 c h => by rw [← hn]; exact Count_any (HV.out.next h) HF.out
      obtain ⟨I, hI⟩ : ∃ I, withinB m vs = I := ⟨_, rfl⟩
      have HWi : Hid (∀ w1 c c2, Below w.heap.size w w1 → Calls Try.prog 27 #[.slice A m.length c, .slice A2 vs.length c2] w1 fun e w' => e = .returned (.bool I) ∧ Below w1.heap.size w1 w') := Lib.hid fun w1 c c2 h => by rw [← hI]; exact Within_any (HV.out.next h) HF.out (H2.out.next h) F2.out
      have HRt : Hid (∀ w1 c, Below w.heap.size w w1 → Calls Try.prog 11 #[.slice A m.length c] w1 fun e w' => e = .returned (.bool (bitsOk m)) ∧ Below w1.heap.size w1 w') := Lib.hid fun w1 c h => DocRight_any (HV.out.next h) HF.out.1
      have HRv : Hid (∀ w1 c, Below w.heap.size w w1 → Calls Try.prog 25 #[.slice A2 vs.length c] w1 fun e w' => e = .returned (.bool (rightB vs)) ∧ Below w1.heap.size w1 w') := Lib.hid fun w1 c h => RefRight_any (H2.out.next h) F2.out
      have HGe : Hid (∀ w1 c v b, Below w.heap.size w w1 → Calls Try.prog 28 #[.slice A2 vs.length c, .int .i64 v, .int .i64 b] w1 fun e w' => e = .returned (.tuple #[.string (gotS vs v b), .int .i64 (gotE vs v b)]) ∧ w' = w1) := Lib.hid fun w1 c v b h => (RefGet_any (H2.out.next h) F2.out.1 v b).mono fun _ _ h3 => ⟨h3.1, h3.2.symm⟩
      -- where the loop is not entered, or ends
      have HIn : Hid ((bitsOk m = true → rightB vs = true → gotAll vs L = I) ∧ (bitsOk m = false → I = false ∧ L = []) ∧ (rightB vs = false → I = false)) := Lib.hid ⟨fun h3 h4 => by
          rw [← hL, marksM_is h3, ← hI, within_marks h3 (fun b hb => (HF.out.2 b hb).1) h4], fun h3 => ⟨by rw [← hI, withinB_bits h3], by rw [← hL, marksM_not h3]⟩, fun h3 => by rw [← hI, withinB_vols h3]⟩
      have HLn := Lib.hid hLn
      have hLl : L.length ≤ 9223372036854775807 := by omega
      have HLl := Lib.hid hLl
      have hII : (I == I) = true := by simp
      have hnn : ((n : Int) == (n : Int)) = true := by simp
      clear hs hL hn hI hLn hLl
      go_enter Try.func6, Try.ntmps6
      go_wp2_with fail
      refine (Small_any H2.out F2.out _ _ _).mono ?_
      rw [HS.out]
      rintro e w' ⟨rfl, rfl⟩
      go_wp2_with fail
      refine (HDL.out _ _ (Below.refl _ _)).mono ?_
      rintro e w1 ⟨B1, d1, rfl, hl1, _, hb1⟩
      have HM1 := Lib.hid (MksAt.of_lies hl1)
      have HB1 := Lib.hid hb1
      rw [HLn.out]
      clear hl1 hb1
      go_wp2_with fail
      refine (HRt.out _ _ HB1.out).mono ?_
      rintro e w2 ⟨rfl, hb2⟩
      have HM2 := Lib.hid (HM1.out.next hb2)
      have HB2 := Lib.hid (below_next HB1.out hb2)
      clear hb2 HM1 HB1
      have HStart : Hid (∃ q0 : Bool, (bitsOk m = true ∧ rightB vs = true ∧ q0 = true ∧ gotAll vs L = I) ∨ (q0 = false ∧ I = false ∧ (bitsOk m = false ∨ (bitsOk m = true ∧ rightB vs = false)))) := Lib.hid (by
        cases hr : bitsOk m with
        | false => exact ⟨false, .inr ⟨rfl, (HIn.out.2.1 hr).1, .inl rfl⟩⟩
        | true =>
          cases hv : rightB vs with
          | false => exact ⟨false, .inr ⟨rfl, HIn.out.2.2 hv, .inr ⟨rfl, rfl⟩⟩⟩
          | true => exact ⟨true, .inl ⟨rfl, rfl, rfl, HIn.out.1 hr hv⟩⟩)
      have hcase := HStart.out
      clear HStart HIn
      have HGo : Hid (∀ (W : World), Below w.heap.size w W → MksAt W W.heap.size B1 L → True) := Lib.hid fun _ _ _ => trivial
      clear HGo
      obtain ⟨q0, hcase⟩ := hcase
      rcases hcase with ⟨hr, hv, rfl, hg⟩ | ⟨rfl, hIf, hr | ⟨hr, hv⟩⟩
      case' inl =>
        rw [hr]
        have HRv2 := Lib.hid fun c => HRv.out w2 c HB2.out
        rw [hv] at HRv2
        clear hr hv HRv HRt
        have HQ0 : Hid (LoopQ vs L I true 0) := Lib.hid ⟨fun _ => ⟨rfl, hg⟩, fun h => by cases h⟩
        clear hg
        go_wp2_with fail
        refine (HRv2.out _).mono ?_
        rintro e w3 ⟨rfl, hb3⟩
        have HM3 := Lib.hid (HM2.out.next hb3)
        have HB3 := Lib.hid (below_next HB2.out hb3)
        clear hb3 HM2 HB2 HRv2
        go_wp2_with fail
      case' inr.inl =>
        rw [hr]
        clear hr HRv HRt
        have HQ0 : Hid (LoopQ vs L I false 0) := Lib.hid ⟨fun h => (by cases h), fun _ => hIf⟩
        have HM3 := Lib.hid HM2.out
        have HB3 := Lib.hid HB2.out
        clear hIf HM2 HB2
        go_wp2_with fail
      case' inr.inr =>
        rw [hr]
        have HRv2 := Lib.hid fun c => HRv.out w2 c HB2.out
        rw [hv] at HRv2
        clear hr hv HRv HRt
        have HQ0 : Hid (LoopQ vs L I false 0) := Lib.hid ⟨fun h => (by cases h), fun _ => hIf⟩
        clear hIf
        go_wp2_with fail
        refine (HRv2.out _).mono ?_
        rintro e w3 ⟨rfl, hb3⟩
        have HM3 := Lib.hid (HM2.out.next hb3)
        have HB3 := Lib.hid (below_next HB2.out hb3)
        clear hb3 HM2 HB2 HRv2
        go_wp2_with fail
      all_goals
        go_loopg [6, 7] n (fun kx s6 s7 wr => ∃ (k : Nat) (q : Bool), s7 = .int .i64 k ∧ k ≤ n ∧ n - k ≤ kx ∧ s6 = .bool q ∧ Hid (LoopQ vs L I q k) ∧ Hid (MksAt wr wr.heap.size B1 L) ∧ Hid (Below w.heap.size w wr))
        case atStart => exact ⟨0, _, rfl, Nat.zero_le _, by omega, rfl, HQ0, HM3, HB3⟩
        case round =>
          clear HQ0 HM3 HB3
          obtain ⟨k, q, rfl, hk, hkx, rfl, HQ, HMs, HB⟩ := hrel
          have hgoal : (k < n ∧ q = true) ∨ ((¬ k < n ∨ (k < n ∧ q = false)) ∧ q = I) := by
            by_cases hlt : k < n
            · cases q with
              | true => exact .inl ⟨hlt, rfl⟩
              | false => exact .inr ⟨.inr ⟨hlt, rfl⟩, (HQ.out.2 rfl).symm⟩
            · refine .inr ⟨.inl hlt, ?_⟩
              cases q with
              | true =>
                obtain ⟨h1, h2⟩ := HQ.out.1 rfl
                rw [List.take_of_length_le (by rw [HLn.out]; omega)] at h1
                rw [← h2, h1]
              | false => exact (HQ.out.2 rfl).symm
          rcases hgoal with ⟨hlt, rfl⟩ | ⟨hex, HqI0⟩
          case' inl =>
            have hltz : (k : Int) < (n : Int) := by omega
            have hltd : decide (k < n) = true := by rw [decide_eq_true_iff]; exact hlt
            have hk0 : (0 : Int) ≤ (k : Int) := Int.natCast_nonneg _
            have hkl : k < L.length := by rw [HLn.out]; exact hlt
            obtain ⟨b, off, hA, hbl, x1, x2⟩ := HMs.out.at_ (Below.refl _ _) hkl
            have HTk := Lib.hid (gotAll_take (vs := vs) hkl)
            have HNo := Lib.hid fun h => gotAll_no (vs := vs) hkl h
            subst hA
            obtain ⟨x, hx⟩ : ∃ x, L[k] = x := ⟨_, rfl⟩
            rw [hx] at x1 x2 HTk HNo
            clear hx hkl
            obtain ⟨i1, q1⟩ := x
            simp only at x1 x2 HTk HNo
            have HGet : Hid (∀ z c, Calls Try.prog 28 #[.slice A2 vs.length c, .int .i64 i1, .int .i64 q1] (wr.drewN z) fun e w' => e = .returned (.tuple #[.string (gotS vs i1 q1), .int .i64 (gotE vs i1 q1)]) ∧ w' = wr.drewN z) := Lib.hid fun z c => HGe.out _ c i1 q1 (below_q HB.out z)
            obtain ⟨E, hE⟩ : ∃ E, gotE vs i1 q1 = E := ⟨_, rfl⟩
            rw [hE] at HGet HTk HNo
            generalize gotS vs i1 q1 = Sx at HGet
            obtain ⟨z, hz⟩ : ∃ z, (E == 0) = z := ⟨_, rfl⟩
            rw [hz] at HTk HNo
            have HQ2 : Hid (LoopQ vs L I z (k + 1)) := Lib.hid ⟨fun h => ⟨by rw [HTk.out, (HQ.out.1 rfl).1, h]; rfl, (HQ.out.1 rfl).2⟩, fun h => by rw [← (HQ.out.1 rfl).2]; exact HNo.out h⟩
            have HM4 : Hid (∀ y, MksAt (wr.drewN y) (wr.drewN y).heap.size (some ⟨b, off, none⟩) L) := Lib.hid fun y => HMs.out.next (below_q (Below.refl _ _) y)
            have HB4 : Hid (∀ y, Below w.heap.size w (wr.drewN y)) := Lib.hid fun y => below_q HB.out y
            clear hE HQ HTk HNo hbl HMs
            go_wp2_with fail
            go_quiet ((go_at_call 28; exact Calls.quiet_of_same (HGet.out _ _)))
            clear x1 x2
            go_wp2_with fail
            go_roundg (n - (k + 1))
            case measure => omega
            case rel => exact ⟨k + 1, z, by go_num, by omega, Nat.le_refl _, by first | rfl | rw [hz], HQ2, HM4.out _, HB4.out _⟩
          case' inr =>
            have HqI : q = I := HqI0
            clear HqI0 HQ
            subst HqI
            rcases hex with hex | ⟨hlt, hex⟩
            case' inl =>
              have hltd : decide (k < n) = false := by rw [decide_eq_false_iff_not]; exact hex
              have hltz : ¬ (k : Int) < (n : Int) := by omega
            case' inr =>
              have hltd : decide (k < n) = true := by rw [decide_eq_true_iff]; exact hlt
              have hltz : (k : Int) < (n : Int) := by omega
              subst hex
            all_goals
              go_wp2_with fail
              refine (HPL.out _ _ HB.out).mono ?_
              rintro e w5 ⟨B5, d5, rfl, hl5, _, hb5⟩
              have HM5 := Lib.hid (MksAt.of_lies hl5)
              have HM5' := Lib.hid (HMs.out.next hb5)
              have HB5 := Lib.hid (below_next HB.out hb5)
              rw [HLn.out]
              clear hl5 hb5
              have HSm : Hid (∀ c c2, Calls Try.prog 29 #[.slice B5 n c, .slice B1 n c2] w5 fun e w' => e = .returned (.bool true) ∧ Below w5.heap.size w5 w') := Lib.hid fun c c2 => by
                have := SameMarks_any (c1 := c) (c2 := c2) HM5.out HM5'.out HLl.out
                rw [eqM_self, HLn.out] at this
                exact this
              go_wp2_with fail
              refine (HSm.out _ _).mono ?_
              rintro e w6 ⟨rfl, hb6⟩
              have HB6 := Lib.hid (below_next HB5.out hb6)
              clear hb6
              go_wp2_with fail
              refine (HCo.out _ _ HB6.out).mono ?_
              rintro e w7 ⟨rfl, hb7⟩
              have HB7 := Lib.hid (below_next HB6.out hb7)
              clear hb7
              go_wp2_with fail
              refine (HWi.out _ _ _ HB7.out).mono ?_
              rintro e w8 ⟨rfl, hb8⟩
              have HB8 := Lib.hid (below_next HB7.out hb8)
              clear hb8
              go_wp2_with fail
              refine (awake10_any _).mono ?_
              rintro e w9 ⟨rfl, hb9⟩
              have HB9 := Lib.hid (below_next HB8.out hb9)
              clear hb9
              go_wp2_with fail
              go_ret
              exact ⟨rfl, HB9.out⟩
end Go.Proofs.Ytpefhocjnkbklaa
