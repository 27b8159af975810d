/- Bitmaps: contracts of power, maskOf, of both Right. -/
import Derived.Test.YtpefhocjnkbklaaDirA
namespace Go.Proofs.Ytpefhocjnkbklaa
open Go.RowKit

set_option maxHeartbeats 1000000 in
theorem power_any (n : Int) (w : World) (h1 : 0 ≤ n) (h2 : n ≤ 32) : Calls Try.prog 36 #[.int .i64 n] w fun e w' => e = .returned (.int .u64 ((2 : Int) ^ n.toNat)) ∧ w' = w := by
  obtain ⟨N, rfl⟩ := Int.eq_ofNat_of_zero_le h1
  rw [Int.toNat_natCast]
  go_enter Try.func36, Try.ntmps36
  go_wp2_with fail
  go_loopw [3, 4] (fun p i wr => ∃ (k : Nat) (P : Int), k ≤ N ∧ i = .int .i64 k ∧ p = .int .u64 P ∧ Hid (P = (2 : Int) ^ k) ∧ Hid (wr = w)) (fun _ i _ => N - (intOf i).toNat)
  case atStart => exact ⟨0, 1, Nat.zero_le _, rfl, rfl, Lib.hid rfl, Lib.hid rfl⟩
  case round =>
    obtain ⟨k, P, hk, rfl, rfl, HP, HW⟩ := hrel
    by_cases hlt : k < N
    · have hb : 1 ≤ P ∧ P ≤ 2147483648 := by have := two_pow_lt (n := k) (by omega); rw [HP.out]; omega
      have hb1 := hb.1
      have hb2 := hb.2
      have HP2 : Hid (2 * P = (2 : Int) ^ (k + 1)) := Lib.hid (by rw [HP.out, Int.pow_succ]; omega)
      have hw : IntKind.u64.wrap (2 * P) = 2 * P := by rw [IntKind.wrap_u64]; omega
      clear hb HP
      obtain ⟨R, hR⟩ : ∃ R, 2 * P = R := ⟨_, rfl⟩
      rw [hR] at HP2 hw
      go_wp2_with fail
      go_roundw
      case rel => exact ⟨k + 1, R, by omega, by go_num, by first | rfl | rw [hw], HP2, HW⟩
      case measure => simp [intOf]; omega
    · have HE : Hid (P = (2 : Int) ^ N) := Lib.hid (by rw [HP.out, show k = N from by omega])
      go_wp2_with fail
      go_ret
      exact ⟨by rw [HE.out]; rfl, HW.out⟩

/-- The mask of a volume, as it stands. -/
def maskI : List Bt → Int → Int
  | [], _ => 0
  | b :: r, v => if b.vol = v then b.mask else maskI r v
theorem maskI_nat {m : List Bt} (h : ∀ b ∈ m, 0 ≤ b.mask) (v : Int) : maskI m v = (maskAt m v : Int) := by
  induction m with
  | nil => rfl
  | cons b r ih =>
    rw [maskI, maskAt, ih fun x hx => h x (List.mem_cons_of_mem _ hx)]
    have := h b List.mem_cons_self
    split <;> omega
theorem maskI_hit {m : List Bt} {v : Int} {k : Nat} (h : maskI m v = maskI (m.drop k) v) (hk : k < m.length) (h1 : m[k].vol = v) : maskI m v = m[k].mask := by
  rw [h, List.drop_eq_getElem_cons hk, maskI, if_pos h1]
theorem maskI_step {m : List Bt} {v : Int} {k : Nat} (h : maskI m v = maskI (m.drop k) v) (hk : k < m.length) (h1 : ¬ m[k].vol = v) : maskI m v = maskI (m.drop (k + 1)) v := by
  rw [h, List.drop_eq_getElem_cons hk, maskI, if_neg h1]

set_option maxHeartbeats 1600000 in
theorem maskOf_any {w : World} {A : Option Addr} {c : Nat} {m : List Bt} (h : BtsAt w w.heap.size A m) (hl : m.length ≤ 9223372036854775807) (v : Int) :
    Calls Try.prog 38 #[.slice A m.length c, .int .i64 v] w fun e w' => e = .returned (.int .u64 (maskI m v)) ∧ Below w.heap.size w w' := by
  have HV := Lib.hid h
  obtain ⟨n, hn⟩ : ∃ n, m.length = n := ⟨_, rfl⟩
  have HN := Lib.hid hn
  rw [hn] at hl ⊢
  clear h hn
  obtain ⟨R, hR⟩ : ∃ R, maskI m v = R := ⟨_, rfl⟩
  have HR := Lib.hid hR
  rw [hR]
  clear hR
  go_enter Try.func38, Try.ntmps38
  go_wp2_with fail
  go_loopw [9] (fun i wr => ∃ k : Nat, k ≤ n ∧ i = .int .i64 k ∧ Hid (maskI m v = maskI (m.drop k) v) ∧ Hid (Below w.heap.size w wr)) (fun i _ => n - (intOf i).toNat)
  case atStart => exact ⟨0, Nat.zero_le _, rfl, Lib.hid rfl, Lib.hid (Below.refl _ _)⟩
  case round =>
    obtain ⟨k, hk, rfl, HG, HB⟩ := hrel
    by_cases hlt : k < n
    · have hkl : k < m.length := by rw [HN.out]; exact hlt
      obtain ⟨b, off, hA, hbl, c1, c2⟩ := HV.out.at_ HB.out hkl
      have hbw : b < wr.heap.size := Nat.lt_of_lt_of_le hbl HB.out.size
      have hwz : w.heap.size ≤ wr.heap.size := HB.out.size
      subst hA
      have HHit : Hid (m[k].vol = v → m[k].mask = R) := Lib.hid fun h => by rw [← HR.out, maskI_hit HG.out hkl h]
      have HStep : Hid (¬ m[k].vol = v → maskI m v = maskI (m.drop (k + 1)) v) := Lib.hid fun h => maskI_step HG.out hkl h
      obtain ⟨x, hx⟩ : ∃ x, m[k] = x := ⟨_, rfl⟩
      rw [hx] at c1 c2 HHit HStep
      clear hx hkl HG
      obtain ⟨i1, u1⟩ := x
      simp only at c1 c2 HHit HStep
      have HSz := Lib.hid (HB.out.alloc hwz (.cells #[.int .i64 i1, .int .u64 u1] 66))
      by_cases he : i1 = v
      · have he' : (i1 == v) = true := by simp [he]
        have HE := Lib.hid (HHit.out he)
        clear HHit HStep he
        go_wp2_with fail
        go_ret
        exact ⟨by rw [HE.out]; rfl, HSz.out⟩
      · have he' : (i1 == v) = false := by simp [he]
        have HE := Lib.hid (HStep.out he)
        clear HHit HStep he
        go_wp2_with fail
        go_roundw
        case rel => exact ⟨k + 1, by omega, by go_num, HE, HSz⟩
        case measure => simp [intOf]; omega
    · have HE : Hid (R = 0) := Lib.hid (by rw [← HR.out, HG.out, List.drop_eq_nil_of_le (by rw [HN.out]; omega)]; rfl)
      go_wp2_with fail
      go_ret
      exact ⟨by rw [HE.out]; rfl, HB.out⟩

theorem okN_bad {m : List Bt} {k : Nat} (h : okN m k) (hk : k < m.length) (hb : badBt (lastAt m k) m[k] = true) : bitsOk m = false := by
  show bitsFrom 0 m = false
  rw [okN_step h hk, hb]; rfl
theorem okN_next {m : List Bt} {k : Nat} (h : okN m k) (hk : k < m.length) (hb : badBt (lastAt m k) m[k] = false) : okN m (k + 1) := by
  show _ = _
  rw [okN_step h hk, hb]; rfl
theorem badBt_true (last : Int) (b : Bt) : badBt last b = true ↔ (b.vol ≤ last ∨ 255 < b.vol ∨ b.mask = 0 ∨ 4294967295 < b.mask) := by unfold badBt; rw [decide_eq_true_iff]

set_option maxHeartbeats 1600000 in
set_option maxRecDepth 100000 in
theorem DirRight_any {w : World} {A : Option Addr} {c : Nat} {m : List Bt} (h : BtsAt w w.heap.size A m) (hl : m.length ≤ 9223372036854775807) :
    Calls Try.prog 12 #[.slice A m.length c] w fun e w' => e = .returned (.bool (bitsOk m)) ∧ Below w.heap.size w w' := by
  have HV := Lib.hid h
  obtain ⟨n, hn⟩ : ∃ n, m.length = n := ⟨_, rfl⟩
  have HN := Lib.hid hn
  rw [hn] at hl ⊢
  clear h hn
  go_enter Try.func12, Try.ntmps12
  go_wp2_with fail
  go_loopw [3, 8] (fun l i wr => ∃ k : Nat, k ≤ n ∧ i = .int .i64 k ∧ l = .int .i64 (lastAt m k) ∧ Hid (okN m k) ∧ Hid (Below w.heap.size w wr)) (fun _ i _ => n - (intOf i).toNat)
  case atStart => exact ⟨0, Nat.zero_le _, rfl, rfl, Lib.hid rfl, Lib.hid (Below.refl _ _)⟩
  case round =>
    obtain ⟨k, hk, rfl, rfl, HG, HB⟩ := hrel
    by_cases hlt : k < n
    · have hkl : k < m.length := by rw [HN.out]; exact hlt
      obtain ⟨b, off, hA, hbl, c1, c2⟩ := HV.out.at_ HB.out hkl
      have hbw : b < wr.heap.size := Nat.lt_of_lt_of_le hbl HB.out.size
      have hwz : w.heap.size ≤ wr.heap.size := HB.out.size
      subst hA
      have HBad := Lib.hid fun hb => okN_bad HG.out hkl hb
      have HNext := Lib.hid fun hb => okN_next HG.out hkl hb
      have HL := Lib.hid (lastAt_succ hkl)
      obtain ⟨x, hx⟩ : ∃ x, m[k] = x := ⟨_, rfl⟩
      rw [hx] at c1 c2 HBad HNext HL
      clear hx hkl HG
      obtain ⟨i1, u1⟩ := x
      obtain ⟨last, hlast⟩ : ∃ last, lastAt m k = last := ⟨_, rfl⟩
      rw [hlast] at HBad HNext ⊢
      clear hlast
      simp only [badBt_true, badBt_false] at c1 c2 HBad HNext HL
      have HSz := Lib.hid (HB.out.alloc hwz (.cells #[.int .i64 i1, .int .u64 u1] 66))
      by_cases g1 : last < i1
      · have e1 : decide (i1 ≤ last) = false := by rw [decide_eq_false_iff_not]; omega
        by_cases g2 : i1 ≤ 255
        · have e2 : decide (255 < i1) = false := by rw [decide_eq_false_iff_not]; omega
          by_cases g3 : u1 = 0
          · have e3 : (u1 == 0) = true := by simp [g3]
            have HE := Lib.hid (HBad.out (.inr (.inr (.inl g3))))
            clear g3 HBad HNext
            go_wp2_with fail
            go_ret
            exact ⟨by rw [HE.out]; rfl, HSz.out⟩
          · have e3 : (u1 == 0) = false := by simp [g3]
            by_cases g4 : u1 ≤ 4294967295
            · have e4 : decide (4294967295 < u1) = false := by rw [decide_eq_false_iff_not]; omega
              have HE := Lib.hid (HNext.out ⟨g1, g2, g3, g4⟩)
              clear HBad HNext g3
              go_wp2_with fail
              go_roundw
              case rel => exact ⟨k + 1, by omega, by go_num, by rw [HL.out], HE, HSz⟩
              case measure => simp [intOf]; omega
            · have e4 : decide (4294967295 < u1) = true := by rw [decide_eq_true_iff]; omega
              have HE := Lib.hid (HBad.out (.inr (.inr (.inr (by omega)))))
              clear HBad HNext g3
              go_wp2_with fail
              go_ret
              exact ⟨by rw [HE.out]; rfl, HSz.out⟩
        · have e2 : decide (255 < i1) = true := by rw [decide_eq_true_iff]; omega
          have HE := Lib.hid (HBad.out (.inr (.inl (by omega))))
          clear HBad HNext
          go_wp2_with fail
          go_ret
          exact ⟨by rw [HE.out]; rfl, HSz.out⟩
      · have e1 : decide (i1 ≤ last) = true := by rw [decide_eq_true_iff]; omega
        have HE := Lib.hid (HBad.out (.inl (by omega)))
        clear HBad HNext
        go_wp2_with fail
        go_ret
        exact ⟨by rw [HE.out]; rfl, HSz.out⟩
    · have HE : Hid (bitsOk m = true) := Lib.hid (okN_end HG.out (by rw [HN.out]; omega))
      go_wp2_with fail
      go_ret
      exact ⟨by rw [HE.out]; rfl, HB.out⟩
end Go.Proofs.Ytpefhocjnkbklaa
