/- The walk of VolsSizes. -/
import Derived.Test.YtphmemopabgaeaaVolRk
namespace Go.Proofs.Ytphmemopabgaeaa
open Go.RowKit

theorem fitB {l : List Int} : VolsFit (blankVs l) := by
  by_cases h : blankOk l = true
  · unfold blankVs
    rw [if_pos h]
    have h2 : rightB (prs l (l.length / 2)) = true := by
      simp only [blankOk, Bool.and_eq_true] at h
      exact h.2.2.2
    exact right_fit h2
  · unfold blankVs; rw [if_neg h]; exact ⟨by simp, by simp⟩
theorem sizesOf_at {vs : List Vl} {k : Nat} (h : k < vs.length) : (sizesOf vs).getD (2 * k) 0 = vs[k].1 ∧ (sizesOf vs).getD (2 * k + 1) 0 = (vs[k].2.length : Int) := by
  induction vs generalizing k with
  | nil => simp at h
  | cons v r ih =>
    have e : sizesOf (v :: r) = v.1 :: (v.2.length : Int) :: sizesOf r := rfl
    cases k with
    | zero => exact ⟨rfl, rfl⟩
    | succ k =>
      have := ih (k := k) (by simpa using h)
      rw [e, show 2 * (k + 1) = 2 * k + 1 + 1 from by omega]
      simpa using this

set_option maxHeartbeats 8000000 in
set_option maxRecDepth 100000 in
theorem VolsSizes_walk {w : World} {A A2 : Option Addr} {c c2 : Nat} {vs : List Vl} {l : List Int} (h : VolsAt w w.heap.size A vs) (hf : VolsFit vs) (h2 : Lies w w.heap.size A2 (l.map (Value.int .i64))) (hl : l.length ≤ 9223372036854775807) :
    Calls Try.prog 6 #[.slice A vs.length c, .slice A2 l.length c2] w fun e w' => e = .returned (.bool true) ∧ Below w.heap.size w w' := by
  have HV := Lib.hid h
  have HF := Lib.hid hf
  have H2 := Lib.hid h2
  clear h hf h2
  cases hs1 : smallB vs 0 with
  | false =>
    have HS := Lib.hid hs1
    clear hs1
    go_enter Try.func6, Try.ntmps6
    go_wp2_with fail
    refine (Small_any HV.out HF.out _ _ _).mono ?_
    rw [HS.out]
    rintro e w' ⟨rfl, rfl⟩
    go_wp2_with fail
    refine (awake_any _).mono ?_
    rintro e w1 ⟨rfl, hb⟩
    replace hb := Lib.hid hb
    go_wp2_with fail
    go_ret
    exact ⟨rfl, hb.out⟩
  | true =>
    have HS1 := Lib.hid hs1
    have hn10 := ((smallB_iff _ _).1 hs1).1
    clear hs1
    have HBk : Hid (∀ w1 c, Below w.heap.size w w1 → Calls Try.prog 28 #[.slice A2 l.length c] w1 (VolsEnd (blankVs l) (blankEr l) w1)) := Lib.hid (fun w1 c hb => Blank_any (H2.out.next hb) hl)
    have HRk : Hid (∀ w1 c, Below w.heap.size w w1 → Calls Try.prog 29 #[.slice A2 l.length c] w1 (RefBlankEnd l w1)) := Lib.hid (fun w1 c hb => RefBlank_any (H2.out.next hb) hl)
    have HFb : Hid (VolsFit (blankVs l)) := Lib.hid fitB
    have HBe : Hid ((blankOk l = false → blankVs l = [] ∧ blankEr l = 1) ∧ (blankOk l = true → blankEr l = 0)) := Lib.hid ⟨blank_no, fun h => by unfold blankEr; rw [if_pos h]⟩
    have QB := Lib.hid (show eqB (blankVs l) (blankVs l) = true from by simp [eqB])
    unfold RefBlankEnd at HRk
    obtain ⟨X, hX⟩ : ∃ X, blankVs l = X := ⟨_, rfl⟩
    obtain ⟨E, hE⟩ : ∃ E, blankEr l = E := ⟨_, rfl⟩
    obtain ⟨K, hK⟩ : ∃ K, blankOk l = K := ⟨_, rfl⟩
    rw [hX, hE] at HBk
    rw [hX, hE, hK] at HBe
    rw [hX] at HFb QB
    simp only [hX, hK] at HRk
    clear hX hE hK
    obtain ⟨n2, hn2⟩ : ∃ n2, l.length = n2 := ⟨_, rfl⟩
    rw [hn2] at hl HBk HRk ⊢
    clear hn2
    obtain ⟨n, hn⟩ : ∃ n, vs.length = n := ⟨_, rfl⟩
    have HN := Lib.hid hn
    cases hr : rightB vs with
    | false =>
      have HR := Lib.hid hr
      have HSz : Hid (sizesV vs = []) := Lib.hid (by unfold sizesV; rw [hr]; rfl)
      clear hr hn
      go_enter Try.func6, Try.ntmps6
      go_wp2_with fail
      refine (Small_any HV.out HF.out _ _ _).mono ?_
      rw [HS1.out]
      rintro e w' ⟨rfl, rfl⟩
      go_wp2_with fail
      refine (Sizes_any HV.out HF.out).mono ?_
      rw [HSz.out]
      rintro e w1 ⟨A1, d1, rfl, hl1, hb1⟩
      have HB1 := Lib.hid hb1
      clear hl1 hb1
      simp only [List.length_nil]
      go_wp2_with fail
      refine (RefRight_any (HV.out.next HB1.out) HF.out).mono ?_
      rw [HR.out]
      rintro e w2 ⟨rfl, hb2⟩
      have HBz := Lib.hid (below_next HB1.out hb2)
      clear hb2 HB1
      go_wp2_with fail
      go_loop [28] (fun i => i = .int .i64 0) (fun _ => 0)
      case atStart => rfl
      case round =>
        subst hrel
        go_wp2_with fail
        with_reducible refine (HBk.out _ _ HBz.out).mono ?_
        rintro e w3 ⟨B3, d3, rfl, hv3, hb3⟩
        have HV3 := Lib.hid hv3
        have HB3 := Lib.hid (below_next HBz.out hb3)
        clear hv3 hb3
        cases K with
        | false =>
          obtain ⟨hXe, hEe⟩ := HBe.out.1 rfl
          subst hXe
          subst hEe
          simp only [List.length_nil]
          go_wp2_with fail
          with_reducible refine (HRk.out _ _ HB3.out).mono ?_
          rintro e w4 ⟨B4, n4, d4, rfl, hx4, hb4⟩
          have HB4 := Lib.hid (below_next HB3.out hb4)
          clear hx4 hb4
          go_wp2_with fail
          refine (awake_any _).mono ?_
          rintro e w5 ⟨rfl, hb5⟩
          have HB5 := Lib.hid (below_next HB4.out hb5)
          clear hb5
          go_wp2_with fail
          go_ret
          exact ⟨rfl, HB5.out⟩
        | true =>
          have hEe := HBe.out.2 rfl
          subst hEe
          go_wp2_with fail
          with_reducible refine (HRk.out _ _ HB3.out).mono ?_
          rintro e w4 ⟨B4, n4, d4, rfl, hx4, hb4⟩
          obtain ⟨rfl, hv4⟩ := hx4 (by simp)
          have HV4 := Lib.hid hv4
          have HV34 : Hid (VolsAt w4 w4.heap.size B3 X) := Lib.hid (HV3.out.next hb4)
          have HB4 := Lib.hid (below_next HB3.out hb4)
          clear hb4 hv4
          go_wp2_with fail
          refine (RefEqual_any HV34.out HV4.out HFb.out HFb.out).mono ?_
          rw [QB.out]
          rintro e w5 ⟨rfl, hb5⟩
          have HB5 := Lib.hid (below_next HB4.out hb5)
          clear hb5
          go_wp2_with fail
          refine (awake_any _).mono ?_
          rintro e w6 ⟨rfl, hb6⟩
          have HB6 := Lib.hid (below_next HB5.out hb6)
          clear hb6
          go_wp2_with fail
          go_ret
          exact ⟨rfl, HB6.out⟩
    | true =>
      have HR := Lib.hid hr
      have HSz : Hid (sizesV vs = sizesOf vs) := Lib.hid (by unfold sizesV; rw [if_pos hr])
      have hs4 := (right_small hr).1
      have HSl := Lib.hid (sizesOf_length vs)
      have HNumL : Hid (∀ c, Calls Try.prog 27 #[.slice A n c] w fun e w' => ∃ A1 d1, e = .returned (.slice A1 (n * 2) d1) ∧ Lies w' w'.heap.size A1 ((sizesOf vs).map (Value.int .i64)) ∧ Below w.heap.size w w') := Lib.hid (fun c => by
        have := Sizes_any (c := c) HV.out HF.out
        rw [HSz.out, HN.out] at this
        refine this.mono (fun e w' hh => ?_)
        obtain ⟨A1, d1, h1, h2, h3⟩ := hh
        rw [HSl.out, HN.out] at h1
        exact ⟨A1, d1, h1, h2, h3⟩)
      have HSm : Hid (∀ c A2 m c2, Calls Try.prog 11 #[.slice A n c, .slice A2 m c2] w fun e w' => e = .returned (.bool (smallB vs m)) ∧ w = w') := Lib.hid (fun c A2 m c2 => by have := Small_any (c := c) HV.out HF.out A2 m c2; rw [HN.out] at this; exact this)
      have HRr : Hid (∀ w1 c, Below w.heap.size w w1 → Calls Try.prog 21 #[.slice A n c] w1 fun e w' => e = .returned (.bool true) ∧ Below w1.heap.size w1 w') := Lib.hid (fun w1 c hb => by have := RefRight_any (c := c) (HV.out.next hb) HF.out; rw [HR.out, HN.out] at this; exact this)
      rw [hn] at hs4 hn10 ⊢
      clear hr hn
      obtain ⟨p, hp⟩ : ∃ p, n * 2 = p := ⟨_, rfl⟩
      have hp1 : p ≤ n * 2 := by omega
      have hp2 : n * 2 ≤ p := by omega
      have hpe : ((p : Int) != 2 * (n : Int)) = false := by rw [bne_eq_false_iff_eq]; omega
      rw [hp] at HNumL
      clear hp
      go_enter Try.func6, Try.ntmps6
      go_wp2_with fail
      with_reducible refine (HSm.out _ _ _ _).mono ?_
      rw [HS1.out]
      rintro e w' ⟨rfl, rfl⟩
      go_wp2_with fail
      with_reducible refine (HNumL.out _).mono ?_
      rintro e w1 ⟨A1, d1, rfl, hl1, hb1⟩
      have HL1 := Lib.hid hl1
      have HB1 := Lib.hid hb1
      clear hl1 hb1
      go_wp2_with fail
      with_reducible refine (HRr.out _ _ HB1.out).mono ?_
      rintro e w2 ⟨rfl, hb2⟩
      have HB2 := Lib.hid (below_next HB1.out hb2)
      have HL2 : Hid (Lies w2 w2.heap.size A1 ((sizesOf vs).map (Value.int .i64))) := Lib.hid (HL1.out.next hb2)
      clear hb2 HB1 HL1
      go_wp2_with fail
      go_loopw [28] (fun i wr => ∃ k z : Nat, k ≤ n ∧ i = .int .i64 k ∧ wr = w2.drewN z) (fun i _ => n - (intOf i).toNat)
      case atStart => exact ⟨0, 0, Nat.zero_le _, rfl, rfl⟩
      case round =>
        obtain ⟨k, z, hk, rfl, rfl⟩ := hrel
        by_cases hlt : k < n
        · have hkl : k < vs.length := by rw [HN.out]; exact hlt
          obtain ⟨b, off, a, c', hA, hbl, x1, x2, hly⟩ := HV.out.at_ HB2.out hkl
          obtain ⟨b1, o1, hA1, _, y1⟩ := HL2.out.numB (Below.refl _ _) (k := 2 * k) (by rw [HSl.out]; omega)
          obtain ⟨b1', o1', hA1', _, y2⟩ := HL2.out.numB (Below.refl _ _) (k := 2 * k + 1) (by rw [HSl.out]; omega)
          subst hA
          subst hA1
          cases hA1'
          rw [(sizesOf_at hkl).1] at y1
          rw [(sizesOf_at hkl).2] at y2
          obtain ⟨v, hv⟩ : ∃ v, vs[k] = v := ⟨_, rfl⟩
          rw [hv] at x1 x2 y1 y2
          clear hv hkl hly
          obtain ⟨id, bs⟩ := v
          simp only at x1 x2 y1 y2
          obtain ⟨q, hq⟩ : ∃ q, bs.length = q := ⟨_, rfl⟩
          rw [hq] at x2 y2
          clear hq
          have hk0 : (0 : Int) ≤ (k : Int) := Int.natCast_nonneg _
          have hk8 : (k : Int) < (n : Int) := by omega
          have hw1 : IntKind.i64.wrap (2 * (k : Int)) = 2 * (k : Int) := by rw [IntKind.wrap_i64]; omega
          have hw2 : (0 : Int) ≤ 2 * (k : Int) := by omega
          have hw3 : (2 * (k : Int)).toNat = 2 * k := by omega
          have hw4 : 2 * (k : Int) < (p : Int) := by omega
          have hw5 : IntKind.i64.wrap (2 * (k : Int) + 1) = 2 * (k : Int) + 1 := by rw [IntKind.wrap_i64]; omega
          have hw6 : (0 : Int) ≤ 2 * (k : Int) + 1 := by omega
          have hw7 : (2 * (k : Int) + 1).toNat = 2 * k + 1 := by omega
          have hw8 : 2 * (k : Int) + 1 < (p : Int) := by omega
          have ht1 : (id != id) = false := by simp
          have ht2 : ((q : Int) != (q : Int)) = false := by simp
          go_wp2_with fail
          go_quiet (fail)
          clear hw1 hw2 hw3 hw4 hw5 hw6 hw7 hw8
          go_wp2_with fail
          go_roundw
          case rel => exact ⟨k + 1, z + nq, by omega, by go_num, rfl⟩
          case measure => simp [intOf]; omega
        · have HBz : Hid (Below w.heap.size w (w2.drewN z)) := Lib.hid (below_q HB2.out z)
          clear HL2
          generalize w2.drewN z = Wz at *
          go_wp2_with fail
          with_reducible refine (HBk.out _ _ HBz.out).mono ?_
          rintro e w3 ⟨B3, d3, rfl, hv3, hb3⟩
          have HV3 := Lib.hid hv3
          have HB3 := Lib.hid (below_next HBz.out hb3)
          clear hv3 hb3
          cases K with
          | false =>
            obtain ⟨hXe, hEe⟩ := HBe.out.1 rfl
            subst hXe
            subst hEe
            simp only [List.length_nil]
            go_wp2_with fail
            with_reducible refine (HRk.out _ _ HB3.out).mono ?_
            rintro e w4 ⟨B4, n4, d4, rfl, hx4, hb4⟩
            have HB4 := Lib.hid (below_next HB3.out hb4)
            clear hx4 hb4
            go_wp2_with fail
            refine (awake_any _).mono ?_
            rintro e w5 ⟨rfl, hb5⟩
            have HB5 := Lib.hid (below_next HB4.out hb5)
            clear hb5
            go_wp2_with fail
            go_ret
            exact ⟨rfl, HB5.out⟩
          | true =>
            have hEe := HBe.out.2 rfl
            subst hEe
            go_wp2_with fail
            with_reducible refine (HRk.out _ _ HB3.out).mono ?_
            rintro e w4 ⟨B4, n4, d4, rfl, hx4, hb4⟩
            obtain ⟨rfl, hv4⟩ := hx4 (by simp)
            have HV4 := Lib.hid hv4
            have HV34 : Hid (VolsAt w4 w4.heap.size B3 X) := Lib.hid (HV3.out.next hb4)
            have HB4 := Lib.hid (below_next HB3.out hb4)
            clear hb4 hv4
            go_wp2_with fail
            refine (RefEqual_any HV34.out HV4.out HFb.out HFb.out).mono ?_
            rw [QB.out]
            rintro e w5 ⟨rfl, hb5⟩
            have HB5 := Lib.hid (below_next HB4.out hb5)
            clear hb5
            go_wp2_with fail
            refine (awake_any _).mono ?_
            rintro e w6 ⟨rfl, hb6⟩
            have HB6 := Lib.hid (below_next HB5.out hb6)
            clear hb6
            go_wp2_with fail
            go_ret
            exact ⟨rfl, HB6.out⟩
end Go.Proofs.Ytphmemopabgaeaa
