/- Bitmaps: contracts of the document's Right; of both Has. -/
import Derived.Test.YtpefhocjnkbklaaDirB
namespace Go.Proofs.Ytpefhocjnkbklaa
open Go.RowKit

theorem power32 (w : World) : Calls Try.prog 36 #[.int .i64 32] w fun e w' => e = .returned (.int .u64 4294967296) ∧ w' = w := by
  refine (power_any 32 w (by decide) (by decide)).mono ?_
  rintro e w' ⟨rfl, rfl⟩
  exact ⟨rfl, rfl⟩

set_option maxHeartbeats 4000000 in
set_option maxRecDepth 100000 in
theorem DocRight_any {w : World} {A : Option Addr} {c : Nat} {m : List Bt} (h : BtsAt w w.heap.size A m) (hl : m.length ≤ 9223372036854775807) :
    Calls Try.prog 11 #[.slice A m.length c] w fun e w' => e = .returned (.bool (bitsOk m)) ∧ Below w.heap.size w w' := by
  have HV := Lib.hid h
  obtain ⟨n, hn⟩ : ∃ n, m.length = n := ⟨_, rfl⟩
  have HN := Lib.hid hn
  rw [hn] at hl ⊢
  clear h hn
  go_enter Try.func11, Try.ntmps11
  go_wp2_with fail
  go_loopw [3] (fun i wr => ∃ k : Nat, k ≤ n ∧ i = .int .i64 k ∧ Hid (okN m k) ∧ Hid (0 ≤ lastAt m k) ∧ Hid (Below w.heap.size w wr)) (fun i _ => n - (intOf i).toNat)
  case atStart => exact ⟨0, Nat.zero_le _, rfl, Lib.hid rfl, Lib.hid (Int.le_refl _), Lib.hid (Below.refl _ _)⟩
  case round =>
    obtain ⟨k, hk, rfl, HG, HPos, HB⟩ := hrel
    by_cases hlt : k < n
    · have hkl : k < m.length := by rw [HN.out]; exact hlt
      obtain ⟨b, off, hA, hbl, c1, c2⟩ := HV.out.at_ HB.out hkl
      subst hA
      have hprev : k = 0 ∧ lastAt m k = 0 ∨ ∃ i0, 0 < k ∧ lastAt m k = i0 ∧ wr.cell? ⟨b, off + (k - 1) * 2, none⟩ = some (.int .i64 i0) := by
        by_cases h0 : k = 0
        · subst h0; exact .inl ⟨rfl, rfl⟩
        · obtain ⟨b', off', hA', _, d1, _⟩ := HV.out.at_ HB.out (i := k - 1) (by omega)
          cases hA'
          refine .inr ⟨_, by omega, ?_, d1⟩
          have := lastAt_succ (m := m) (k := k - 1) (by omega)
          rw [show k - 1 + 1 = k from by omega] at this
          exact this
      have HBad := Lib.hid fun hb => okN_bad HG.out hkl hb
      have HNext := Lib.hid fun hb => okN_next HG.out hkl hb
      have HL := Lib.hid (lastAt_succ hkl)
      obtain ⟨x, hx⟩ : ∃ x, m[k] = x := ⟨_, rfl⟩
      rw [hx] at c1 c2 HBad HNext HL
      clear hx hkl HG
      obtain ⟨i1, u1⟩ := x
      obtain ⟨last, hlast⟩ : ∃ last, lastAt m k = last := ⟨_, rfl⟩
      rw [hlast] at HBad HNext HPos hprev
      clear hlast
      have hpos := HPos.out
      simp only [badBt_true, badBt_false] at c1 c2 HBad HNext HL
      have hWR : ∀ q, Below w.heap.size w (wr.drewN q) := fun q => below_q HB.out q
      have HWR := Lib.hid hWR
      clear hWR
      have hk0 : (0 : Int) ≤ (k : Int) := Int.natCast_nonneg _
      have hk8 : (k : Int) < (n : Int) := by omega
      by_cases g1 : 1 ≤ i1
      · have e1 : decide (i1 < 1) = false := by rw [decide_eq_false_iff_not]; omega
        by_cases g2 : i1 ≤ 255
        · have e2 : decide (255 < i1) = false := by rw [decide_eq_false_iff_not]; omega
          by_cases g3 : u1 = 0
          · have e3 : (u1 == 0) = true := by simp [g3]
            have HE := Lib.hid (HBad.out (.inr (.inr (.inl g3))))
            clear g3 HBad HNext hprev
            go_wp2_with fail
            go_quiet (fail)
            go_wp2_with fail
            go_ret
            exact ⟨by rw [HE.out]; rfl, HWR.out _⟩
          · have e3 : (u1 == 0) = false := by simp [g3]
            by_cases g4 : u1 ≤ 4294967295
            · have e4 : decide ((4294967296 : Int) ≤ u1) = false := by rw [decide_eq_false_iff_not]; omega
              by_cases g5 : last < i1
              · have HE := Lib.hid (HNext.out ⟨g5, g2, g3, g4⟩)
                have HPo : Hid (0 ≤ lastAt m (k + 1)) := Lib.hid (by rw [HL.out]; show (0 : Int) ≤ i1; omega)
                clear HBad HNext g3
                rcases hprev with ⟨hz, hla⟩ | ⟨i0, hkp, hla, d1⟩
                case' inl =>
                  have e0 : decide (0 < k) = false := by rw [decide_eq_false_iff_not]; omega
                  clear hz hla
                  go_wp2_with fail
                  go_quiet ((go_at_call 36; exact Calls.quiet_of_same (power32 _)))
                  go_wp2_with fail
                case' inr =>
                  have e0 : decide (0 < k) = true := by rw [decide_eq_true_iff]; omega
                  have e5 : decide (i1 ≤ i0) = false := by rw [decide_eq_false_iff_not]; omega
                  clear hla
                  have hw1 : IntKind.i64.wrap ((k : Int) - 1) = (k : Int) - 1 := by rw [IntKind.wrap_i64]; omega
                  have hw2 : (0 : Int) ≤ (k : Int) - 1 := by omega
                  have hw3 : ((k : Int) - 1).toNat = k - 1 := by omega
                  have hw4 : (k : Int) - 1 < (n : Int) := by omega
                  go_wp2_with fail
                  go_quiet ((go_at_call 36; exact Calls.quiet_of_same (power32 _)))
                  clear hw1 hw2 hw3 hw4 d1 e5
                  go_wp2_with fail
                all_goals
                  go_roundw
                  case rel => exact ⟨k + 1, by omega, by go_num, HE, HPo, Lib.hid (HWR.out _)⟩
                  case measure => simp [intOf]; omega
              · have HE := Lib.hid (HBad.out (.inl (by omega)))
                clear HBad HNext g3
                rcases hprev with ⟨hz, hla⟩ | ⟨i0, hkp, hla, d1⟩
                · omega
                · have e0 : decide (0 < k) = true := by rw [decide_eq_true_iff]; omega
                  have e5 : decide (i1 ≤ i0) = true := by rw [decide_eq_true_iff]; omega
                  clear hla
                  have hw1 : IntKind.i64.wrap ((k : Int) - 1) = (k : Int) - 1 := by rw [IntKind.wrap_i64]; omega
                  have hw2 : (0 : Int) ≤ (k : Int) - 1 := by omega
                  have hw3 : ((k : Int) - 1).toNat = k - 1 := by omega
                  have hw4 : (k : Int) - 1 < (n : Int) := by omega
                  go_wp2_with fail
                  go_quiet ((go_at_call 36; exact Calls.quiet_of_same (power32 _)))
                  go_wp2_with fail
                  go_ret
                  exact ⟨by rw [HE.out]; rfl, HWR.out _⟩
            · have e4 : decide ((4294967296 : Int) ≤ u1) = true := by rw [decide_eq_true_iff]; omega
              have HE := Lib.hid (HBad.out (.inr (.inr (.inr (by omega)))))
              clear HBad HNext g3 hprev
              go_wp2_with fail
              go_quiet ((go_at_call 36; exact Calls.quiet_of_same (power32 _)))
              go_wp2_with fail
              go_ret
              exact ⟨by rw [HE.out]; rfl, HWR.out _⟩
        · have e2 : decide (255 < i1) = true := by rw [decide_eq_true_iff]; omega
          have HE := Lib.hid (HBad.out (.inr (.inl (by omega))))
          clear HBad HNext hprev
          go_wp2_with fail
          go_quiet (fail)
          go_wp2_with fail
          go_ret
          exact ⟨by rw [HE.out]; rfl, HWR.out _⟩
      · have e1 : decide (i1 < 1) = true := by rw [decide_eq_true_iff]; omega
        have HE := Lib.hid (HBad.out (.inl (by omega)))
        clear HBad HNext hprev
        go_wp2_with fail
        go_quiet (fail)
        go_wp2_with fail
        go_ret
        exact ⟨by rw [HE.out]; rfl, HWR.out _⟩
    · have HE : Hid (bitsOk m = true) := Lib.hid (okN_end HG.out (by rw [HN.out]; omega))
      go_wp2_with fail
      go_ret
      exact ⟨by rw [HE.out]; rfl, HB.out⟩
end Go.Proofs.Ytpefhocjnkbklaa
