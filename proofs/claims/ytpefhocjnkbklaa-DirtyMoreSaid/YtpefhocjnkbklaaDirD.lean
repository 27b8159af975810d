/- Bitmaps: contracts of both Has. -/
import Derived.Test.YtpefhocjnkbklaaDirC
import Derived.Laws.ShiftsVarLaws
namespace Go.Proofs.Ytpefhocjnkbklaa
open Go.RowKit

theorem doc_bit {M : Int} {k : Nat} (h0 : 0 ≤ M) : (M / (2 : Int) ^ k % 2 == 1) = M.toNat.testBit k := by
  obtain ⟨N, rfl⟩ := Int.eq_ofNat_of_zero_le h0
  rw [Int.toNat_natCast, Nat.testBit_eq_decide_div_mod_eq]
  have e : ((N : Int) / (2 : Int) ^ k % 2) = ((N / 2 ^ k % 2 : Nat) : Int) := by simp
  rw [e]
  rw [Bool.eq_iff_iff, beq_iff_eq, decide_eq_true_iff]
  omega
theorem and_bit {M : Int} {k : Nat} (h0 : 0 ≤ M) (h1 : M < 18446744073709551616) (hk : k < 32) : (bits .and .u64 M ((2 : Int) ^ k) != 0) = M.toNat.testBit k := by
  have hp := two_pow_lt hk
  rw [u64_and _ _ h0 h1 (by omega) (by omega), ← doc_bit h0]
  have := and_two_pow_eq_zero M k h0
  rw [Bool.eq_iff_iff, bne_iff_ne, beq_iff_eq]
  omega
theorem maskI_fit {m : List Bt} (h : BtsFit m) (v : Int) : 0 ≤ maskI m v ∧ maskI m v < 18446744073709551616 := by
  have h2 := h.2
  clear h
  induction m with
  | nil => simp [maskI]
  | cons b r ih =>
    rw [maskI]
    split
    · exact h2 b List.mem_cons_self
    · exact ih fun x hx => h2 x (List.mem_cons_of_mem _ hx)
theorem maskI_toNat (m : List Bt) (v : Int) : (maskI m v).toNat = maskAt m v := by
  induction m with
  | nil => rfl
  | cons b r ih => rw [maskI, maskAt]; split <;> simp_all
theorem hasB_not {m : List Bt} (h : bitsOk m = false) (v b : Int) : hasB m v b = false := by unfold hasB; rw [h]; rfl
theorem hasB_may {m : List Bt} {v b : Int} (h : mayB (v, b) = false) : hasB m v b = false := by unfold hasB; rw [h]; simp
theorem hasB_is {m : List Bt} {v b : Int} (h1 : bitsOk m = true) (h2 : mayB (v, b) = true) : hasB m v b = (maskI m v).toNat.testBit b.toNat := by unfold hasB; rw [h1, h2, maskI_toNat]; rfl
theorem mayB_block {v b : Int} (h : mayB (v, b) = true) : 0 ≤ b ∧ b ≤ 31 := by simp only [mayB, decide_eq_true_eq] at h; omega

set_option maxHeartbeats 1600000 in
theorem DirHas_any {w : World} {A : Option Addr} {c : Nat} {m : List Bt} (h : BtsAt w w.heap.size A m) (hf : BtsFit m) (v b : Int) :
    Calls Try.prog 13 #[.slice A m.length c, .int .i64 v, .int .i64 b] w fun e w' => e = .returned (.bool (hasB m v b)) ∧ Below w.heap.size w w' := by
  have HV := Lib.hid h
  have HF := Lib.hid hf
  have HB0 := Lib.hid (Below.refl w.heap.size w)
  have HL := Lib.hid hf.1
  clear h hf
  cases hr : bitsOk m with
  | false =>
    rw [hasB_not hr]
    have HR := Lib.hid hr
    clear hr
    go_enter Try.func13, Try.ntmps13
    go_wp2_with (go_at_call 12; refine (DirRight_any HV.out HL.out).mono ?_; rw [HR.out]; rintro e w1 ⟨rfl, hb⟩; replace hb := Lib.hid hb)
    go_ret
    exact ⟨rfl, hb.out⟩
  | true =>
    cases hm : mayB (v, b) with
    | false =>
      rw [hasB_may hm]
      have HR := Lib.hid hr
      have HM := Lib.hid hm
      clear hr hm
      go_enter Try.func13, Try.ntmps13
      go_wp2_with (first
        | (go_at_call 12; refine (DirRight_any HV.out HL.out).mono ?_; rw [HR.out]; rintro e w1 ⟨rfl, hb⟩; replace hb := Lib.hid hb)
        | (go_at_call 37; refine (isBlock_any _ _ _).mono ?_; rw [HM.out]; rintro e w1 ⟨rfl, rfl⟩))
      go_ret
      exact ⟨rfl, hb.out⟩
    | true =>
      have hbl := mayB_block hm
      have hfit := maskI_fit HF.out v
      obtain ⟨R, hR⟩ : ∃ R, hasB m v b = R := ⟨_, rfl⟩
      have hand := and_bit (k := b.toNat) hfit.1 hfit.2 (by omega)
      rw [← hasB_is hr hm, hR] at hand
      rw [hR]
      have hb0 := hbl.1
      have hb1 : b ≤ 32 := by omega
      obtain ⟨M, hM⟩ : ∃ M, maskI m v = M := ⟨_, rfl⟩
      obtain ⟨P, hP⟩ : ∃ P, (2 : Int) ^ b.toNat = P := ⟨_, rfl⟩
      rw [hM, hP] at hand
      have HR := Lib.hid hr
      have HM := Lib.hid hm
      have HMa := Lib.hid hM
      have HP := Lib.hid hP
      clear hr hm hM hP hfit hR hbl
      go_enter Try.func13, Try.ntmps13
      go_wp2_with (first
        | (go_at_call 12; refine (DirRight_any HV.out HL.out).mono ?_; rw [HR.out]; rintro e w1 ⟨rfl, hb⟩; replace hb := Lib.hid hb)
        | (go_at_call 37; refine (isBlock_any _ _ _).mono ?_; rw [HM.out]; rintro e w1 ⟨rfl, rfl⟩)
        | (go_at_call 38; refine (maskOf_any (HV.out.next hb.out) HL.out _).mono ?_; rw [HMa.out]; rintro e w2 ⟨rfl, hb2⟩; replace hb2 := Lib.hid hb2)
        | (go_at_call 39; refine (bit_any _ _ hb0 hb1).mono ?_; rw [HP.out]; rintro e w3 ⟨rfl, rfl⟩))
      go_ret
      exact ⟨rfl, hb.out.trans (hb2.out.mono hb.out.size)⟩

theorem hasB_low {m : List Bt} {v b : Int} (h : b < 0) : hasB m v b = false := hasB_may (by simp [mayB]; omega)
theorem hasB_high {m : List Bt} {v b : Int} (h : 31 < b) : hasB m v b = false := hasB_may (by simp [mayB]; omega)

set_option maxHeartbeats 1600000 in
set_option maxRecDepth 100000 in
theorem DocHas_any {w : World} {A : Option Addr} {c : Nat} {m : List Bt} (h : BtsAt w w.heap.size A m) (hf : BtsFit m) (v b : Int) :
    Calls Try.prog 14 #[.slice A m.length c, .int .i64 v, .int .i64 b] w fun e w' => e = .returned (.bool (hasB m v b)) ∧ Below w.heap.size w w' := by
  have HV := Lib.hid h
  have HF := Lib.hid hf
  have HL := Lib.hid hf.1
  have hl := hf.1
  clear h hf
  cases hr : bitsOk m with
  | false =>
    rw [hasB_not hr]
    have HR := Lib.hid hr
    clear hr hl
    go_enter Try.func14, Try.ntmps14
    go_wp2_with (go_at_call 11; refine (DocRight_any HV.out HL.out).mono ?_; rw [HR.out]; rintro e w1 ⟨rfl, hb⟩; replace hb := Lib.hid hb)
    go_ret
    exact ⟨rfl, hb.out⟩
  | true =>
    by_cases g0 : b < 0
    · rw [hasB_low g0]
      have HR := Lib.hid hr
      have e0 : decide (b < 0) = true := by rw [decide_eq_true_iff]; exact g0
      clear hr hl
      go_enter Try.func14, Try.ntmps14
      go_wp2_with (go_at_call 11; refine (DocRight_any HV.out HL.out).mono ?_; rw [HR.out]; rintro e w1 ⟨rfl, hb⟩; replace hb := Lib.hid hb)
      go_ret
      exact ⟨rfl, hb.out⟩
    · have e0 : decide (b < 0) = false := by rw [decide_eq_false_iff_not]; exact g0
      by_cases g1 : 31 < b
      · rw [hasB_high g1]
        have HR := Lib.hid hr
        have e1 : decide (31 < b) = true := by rw [decide_eq_true_iff]; exact g1
        clear hr hl
        go_enter Try.func14, Try.ntmps14
        go_wp2_with (go_at_call 11; refine (DocRight_any HV.out HL.out).mono ?_; rw [HR.out]; rintro e w1 ⟨rfl, hb⟩; replace hb := Lib.hid hb)
        go_ret
        exact ⟨rfl, hb.out⟩
      · have e1 : decide (31 < b) = false := by rw [decide_eq_false_iff_not]; exact g1
        have hb0 : 0 ≤ b := by omega
        have hb1 : b ≤ 32 := by omega
        have HR := Lib.hid hr
        have HIs : Hid (hasB m v b = (maskI m v).toNat.testBit b.toNat) := Lib.hid (by rw [hasB_doc hr hb0 (by omega), maskI_toNat])
        obtain ⟨n, hn⟩ : ∃ n, m.length = n := ⟨_, rfl⟩
        have HN := Lib.hid hn
        have HRt : Hid (Calls Try.prog 11 #[.slice A n c] w fun e w' => e = .returned (.bool true) ∧ Below w.heap.size w w') := Lib.hid (by
          rw [← hn]; refine (DocRight_any HV.out HL.out).mono ?_; rw [hr]; exact fun _ _ h => h)
        rw [hn] at hl ⊢
        obtain ⟨R, hRR⟩ : ∃ R, hasB m v b = R := ⟨_, rfl⟩
        rw [hRR] at HIs ⊢
        clear hr hn hRR
        go_enter Try.func14, Try.ntmps14
        go_wp2_with (go_at_call 11; refine HRt.out.mono ?_; rintro e w1 ⟨rfl, hb⟩; replace hb := Lib.hid hb)
        go_loopw [7] (fun i wr => ∃ k : Nat, k ≤ n ∧ i = .int .i64 k ∧ Hid (maskI m v = maskI (m.drop k) v) ∧ Hid (Below w.heap.size w wr)) (fun i _ => n - (intOf i).toNat)
        case atStart => exact ⟨0, Nat.zero_le _, rfl, Lib.hid rfl, hb⟩
        case round =>
          obtain ⟨k, hk, rfl, HG, HB⟩ := hrel
          clear hb
          by_cases hlt : k < n
          · have hkl : k < m.length := by rw [HN.out]; exact hlt
            obtain ⟨b0, off, hA, hbl, c1, c2⟩ := HV.out.at_ HB.out hkl
            subst hA
            have HHit : Hid (m[k].vol = v → m[k].mask = maskI m v) := Lib.hid fun h => by rw [maskI_hit HG.out hkl h]
            have HStep : Hid (¬ m[k].vol = v → maskI m v = maskI (m.drop (k + 1)) v) := Lib.hid fun h => maskI_step HG.out hkl h
            have HFt := Lib.hid (HF.out.2 _ (List.getElem_mem hkl))
            obtain ⟨x, hx⟩ : ∃ x, m[k] = x := ⟨_, rfl⟩
            rw [hx] at c1 c2 HHit HStep HFt
            clear hx hkl HG
            obtain ⟨i1, u1⟩ := x
            simp only at c1 c2 HHit HStep HFt
            have hk0 : (0 : Int) ≤ (k : Int) := Int.natCast_nonneg _
            have hk8 : (k : Int) < (n : Int) := by omega
            by_cases he : i1 = v
            · have he' : (i1 == v) = true := by simp [he]
              have HD : Hid (((u1 / (2 : Int) ^ b.toNat).tmod 2 == 1) = R) := Lib.hid (by
                have := two_pow_lt (n := b.toNat) (by omega)
                rw [Int.tmod_eq_emod_of_nonneg (Int.ediv_nonneg HFt.out.1 (by omega)), doc_bit HFt.out.1, HIs.out, HHit.out he])
              have hWR : ∀ q, Below w.heap.size w (wr.drewN q) := fun q => below_q HB.out q
              have HWR := Lib.hid hWR
              clear HHit HStep he hWR
              obtain ⟨P, hP⟩ : ∃ P, (2 : Int) ^ b.toNat = P := ⟨_, rfl⟩
              have hpl : 1 ≤ P := by have := two_pow_lt (n := b.toNat) (by omega); omega
              have HP : Hid (∀ w, Calls Try.prog 36 #[.int .i64 b] w fun e w' => e = .returned (.int .u64 P) ∧ w' = w) := Lib.hid fun w => by rw [← hP]; exact power_any b w hb0 hb1
              rw [hP] at HD
              have hu0 := HFt.out.1
              have hu1 := HFt.out.2
              clear hP
              go_wp2_with fail
              go_quiet ((go_at_call 36; exact Calls.quiet_of_same (HP.out _)))
              go_wp2_with fail
              go_ret
              exact ⟨by rw [← HD.out]; rfl, HWR.out _⟩
            · have he' : (i1 == v) = false := by simp [he]
              have HE := Lib.hid (HStep.out he)
              clear HHit HStep he
              go_wp2_with fail
              go_roundw
              case rel => exact ⟨k + 1, by omega, by go_num, HE, HB⟩
              case measure => simp [intOf]; omega
          · have HE : Hid (R = false) := Lib.hid (by rw [HIs.out, HG.out, List.drop_eq_nil_of_le (by rw [HN.out]; omega)]; simp [maskI])
            go_wp2_with fail
            go_ret
            exact ⟨by rw [HE.out]; rfl, HB.out⟩
end Go.Proofs.Ytpefhocjnkbklaa
