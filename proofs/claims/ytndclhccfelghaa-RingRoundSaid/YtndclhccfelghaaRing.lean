/- Contracts of the functions of the package ring and of the document's answer for it: At, Gap, isPosition; Right, next, At, Gap. Each changes nothing. -/
import Derived.Test.YtndclhccfelghaaRows
import Derived.WalkKit
import Derived.WalkSpells
import Derived.WalkLawsBesides
import Derived.Lib.Hide
import Derived.PlainAid
import Derived.Deep.OwnRows
import Derived.Laws.BitsAllLaws
import Derived.Test.YtndclhccfelghaaSpec
namespace Go.Proofs.Ytndclhccfelghaa
open Go.RowKit

/-- A place of a ring. -/
def Place (size p : Int) : Prop := 1 ≤ size ∧ size ≤ 4096 ∧ 0 ≤ p ∧ p < size

theorem place_not {size p : Int} (h : ¬ Place size p) : size < 1 ∨ 4096 < size ∨ p < 0 ∨ size ≤ p := by
  unfold Place at h; omega

set_option maxHeartbeats 400000 in
theorem isPosition_yes (size p : Int) (w : World) (h : Place size p) :
    Calls Try.prog 17 #[.int .i64 size, .int .i64 p] w fun e w' => e = .returned (.bool true) ∧ w = w' := by
  obtain ⟨h1, h2, h3, h4⟩ := h
  go_enter Try.func17, Try.ntmps17
  go_wp2
  go_ret
  exact ⟨rfl, rfl⟩

set_option maxHeartbeats 400000 in
theorem isPosition_no (size p : Int) (w : World) (h : ¬ Place size p) :
    Calls Try.prog 17 #[.int .i64 size, .int .i64 p] w fun e w' => e = .returned (.bool false) ∧ w = w' := by
  have h' := place_not h
  clear h
  by_cases h1 : size < 1
  · go_enter Try.func17, Try.ntmps17
    go_wp2
    go_ret
    exact ⟨rfl, rfl⟩
  · by_cases h2 : 4096 < size
    · have h3 : decide (size ≤ 4096) = false := by simp; omega
      go_enter Try.func17, Try.ntmps17
      go_wp2
      go_ret
      exact ⟨rfl, rfl⟩
    · by_cases h3 : p < 0
      · have h4 : decide (0 ≤ p) = false := by simp; omega
        go_enter Try.func17, Try.ntmps17
        go_wp2
        go_ret
        exact ⟨rfl, rfl⟩
      · have h4 : decide (p < size) = false := by simp; omega
        go_enter Try.func17, Try.ntmps17
        go_wp2
        go_ret
        exact ⟨rfl, rfl⟩

set_option maxHeartbeats 400000 in
theorem Right_yes (size p : Int) (w : World) (h : Place size p) :
    Calls Try.prog 15 #[.int .i64 size, .int .i64 p] w fun e w' => e = .returned (.bool true) ∧ w = w' := by
  obtain ⟨h1, h2, h3, h4⟩ := h
  go_enter Try.func15, Try.ntmps15
  go_wp2
  go_ret
  exact ⟨rfl, rfl⟩

set_option maxHeartbeats 400000 in
theorem Right_no (size p : Int) (w : World) (h : ¬ Place size p) :
    Calls Try.prog 15 #[.int .i64 size, .int .i64 p] w fun e w' => e = .returned (.bool false) ∧ w = w' := by
  have h' := place_not h
  clear h
  by_cases h1 : size < 1
  · go_enter Try.func15, Try.ntmps15
    go_wp2
    go_ret
    exact ⟨rfl, rfl⟩
  · by_cases h2 : 4096 < size
    · have h3 : decide (size < 4097) = false := by simp; omega
      go_enter Try.func15, Try.ntmps15
      go_wp2
      go_ret
      exact ⟨rfl, rfl⟩
    · by_cases h3 : p < 0
      · have h4 : decide (0 ≤ p) = false := by simp; omega
        go_enter Try.func15, Try.ntmps15
        go_wp2
        go_ret
        exact ⟨rfl, rfl⟩
      · have h4 : decide (p < size) = false := by simp; omega
        go_enter Try.func15, Try.ntmps15
        go_wp2
        go_ret
        exact ⟨rfl, rfl⟩

/-- The place behind. -/
def nextP (size at_ : Int) : Int := if at_ = size - 1 then 0 else at_ + 1

theorem nextP_mod {size from_ : Int} (k : Nat) (h1 : 1 ≤ size) : nextP size ((from_ + k) % size) = (from_ + (k + 1 : Nat)) % size := by
  unfold nextP
  have a := Int.emod_nonneg (from_ + k) (show size ≠ 0 by omega)
  have b := Int.emod_lt_of_pos (from_ + k) (show 0 < size by omega)
  have c := Int.emod_add_mul_ediv (from_ + k) size
  have e : from_ + ((k + 1 : Nat) : Int) = ((from_ + k) % size + 1) + size * ((from_ + k) / size) := by omega
  rw [e, Int.add_mul_emod_self_left]
  split
  · next h => rw [h, show size - 1 + 1 = size from by omega, Int.emod_self]
  · next h => exact (Int.emod_eq_of_lt (a := (from_ + k) % size + 1) (by omega) (by omega)).symm

set_option maxHeartbeats 400000 in
theorem next_any (size p : Int) (w : World) (h : Place size p) :
    Calls Try.prog 18 #[.int .i64 size, .int .i64 p] w fun e w' => e = .returned (.int .i64 (nextP size p)) ∧ w = w' := by
  obtain ⟨h1, h2, h3, h4⟩ := h
  by_cases hp : p = size - 1
  · have e : nextP size p = 0 := by unfold nextP; rw [if_pos hp]
    have hb : (p == size - 1) = true := by rw [beq_iff_eq]; exact hp
    rw [e]
    clear hp e
    go_enter Try.func18, Try.ntmps18
    go_wp2
    go_ret
    exact ⟨rfl, rfl⟩
  · have e : nextP size p = p + 1 := by unfold nextP; rw [if_neg hp]
    have hb : (p == size - 1) = false := by rw [beq_eq_false_iff_ne]; exact hp
    rw [e]
    clear hp e
    go_enter Try.func18, Try.ntmps18
    go_wp2
    go_ret
    exact ⟨rfl, rfl⟩

/-! ### At -/

def AtOk (size from_ n : Int) : Prop := Place size from_ ∧ 0 ≤ n ∧ n ≤ 1099511627776

set_option maxHeartbeats 400000 in
theorem At_ok (size from_ n : Int) (w : World) (h : AtOk size from_ n) :
    Calls Try.prog 9 #[.int .i64 size, .int .i64 from_, .int .i64 n] w fun e w' => e = .returned (.tuple #[.int .i64 ((from_ + n) % size), .int .i64 0]) ∧ w = w' := by
  obtain ⟨hp, h5, h6⟩ := h
  have hp' := hp
  obtain ⟨h1, h2, h3, h4⟩ := hp'
  go_enter Try.func9, Try.ntmps9
  go_wp2_with (go_at_call 17; refine (isPosition_yes _ _ _ hp).mono ?_; rintro e w' ⟨rfl, rfl⟩)
  go_ret2
  exact ⟨rfl, rfl⟩

set_option maxHeartbeats 400000 in
theorem At_no (size from_ n : Int) (w : World) (h : ¬ AtOk size from_ n) :
    Calls Try.prog 9 #[.int .i64 size, .int .i64 from_, .int .i64 n] w fun e w' => e = .returned (.tuple #[.int .i64 0, .int .i64 1]) ∧ w = w' := by
  by_cases hp : Place size from_
  · have h7 : n < 0 ∨ 1099511627776 < n := by unfold AtOk at h; have := hp; simp only [hp, true_and] at h; omega
    clear h
    by_cases h5 : n < 0
    · go_enter Try.func9, Try.ntmps9
      go_wp2_with (go_at_call 17; refine (isPosition_yes _ _ _ hp).mono ?_; rintro e w' ⟨rfl, rfl⟩)
      go_ret2
      exact ⟨rfl, rfl⟩
    · have h6 : decide (n < 0) = false := by simp; omega
      have h8 : 1099511627776 < n := by omega
      go_enter Try.func9, Try.ntmps9
      go_wp2_with (go_at_call 17; refine (isPosition_yes _ _ _ hp).mono ?_; rintro e w' ⟨rfl, rfl⟩)
      go_ret2
      exact ⟨rfl, rfl⟩
  · clear h
    go_enter Try.func9, Try.ntmps9
    go_wp2_with (go_at_call 17; refine (isPosition_no _ _ _ hp).mono ?_; rintro e w' ⟨rfl, rfl⟩)
    go_ret2
    exact ⟨rfl, rfl⟩

theorem mod_small {size : Int} (n : Int) (h1 : 1 ≤ size) : ∃ m : Nat, n % size = m ∧ (m : Int) < size ∧ n % size = (m : Int) % size := by
  have a := Int.emod_nonneg n (show size ≠ 0 by omega)
  have b := Int.emod_lt_of_pos n (show 0 < size by omega)
  obtain ⟨m, hm⟩ := Int.eq_ofNat_of_zero_le a
  exact ⟨m, hm, by omega, by rw [← hm, Int.emod_emod]⟩

set_option maxHeartbeats 400000 in
theorem RefAt_ok (size from_ n : Int) (w : World) (h : AtOk size from_ n) :
    Calls Try.prog 10 #[.int .i64 size, .int .i64 from_, .int .i64 n] w fun e w' => e = .returned (.tuple #[.int .i64 ((from_ + n) % size), .int .i64 0]) ∧ w = w' := by
  obtain ⟨hp, h5, h6⟩ := h
  have hp' := hp
  obtain ⟨h1, h2, h3, h4⟩ := hp'
  obtain ⟨m, hm, hm2, hm3⟩ := mod_small n h1
  have HM := Lib.hid hm
  have HR : Hid ((from_ + n) % size = (from_ + m) % size) := Lib.hid (by rw [← Int.add_emod_emod, hm3, Int.add_emod_emod])
  clear hm hm3
  go_enter Try.func10, Try.ntmps10
  go_wp2_with (go_at_call 15; refine (Right_yes _ _ _ hp).mono ?_; rintro e w' ⟨rfl, rfl⟩)
  go_loop [8, 9] (fun a i => ∃ k : Nat, k ≤ m ∧ i = .int .i64 k ∧ a = .int .i64 ((from_ + k) % size)) (fun _ i => m - (intOf i).toNat)
  case atStart => exact ⟨0, Nat.zero_le _, rfl, by rw [Int.emod_eq_of_lt (by omega) (by omega)]; simp⟩
  case round =>
    obtain ⟨k, hk, rfl, rfl⟩ := hrel
    obtain ⟨x, HX⟩ : ∃ x, Hid ((from_ + k) % size = x) := ⟨_, Lib.hid rfl⟩
    have hx : Place size x := ⟨h1, h2, by rw [← HX.out]; exact Int.emod_nonneg _ (by omega), by rw [← HX.out]; exact Int.emod_lt_of_pos _ (by omega)⟩
    have HY : Hid (nextP size x = (from_ + (k + 1 : Nat)) % size) := Lib.hid (by rw [← HX.out]; exact nextP_mod k h1)
    rw [HX.out]
    by_cases hlt : k < m
    · have hl : (k : Int) < n % size := by rw [HM.out]; omega
      go_wp2_with (go_at_call 18; refine (next_any _ _ _ hx).mono ?_; rintro e w' ⟨rfl, rfl⟩)
      go_round
      case rel => exact ⟨k + 1, by omega, by go_num, by rw [HY.out]⟩
      case measure => simp [intOf]; omega
    · have hl : ¬ (k : Int) < n % size := by rw [HM.out]; omega
      have hkm : k = m := by omega
      go_wp2
      go_ret2
      rw [HR.out, ← hkm, HX.out]
      exact ⟨rfl, rfl⟩

set_option maxHeartbeats 400000 in
theorem RefAt_no (size from_ n : Int) (w : World) (h : ¬ AtOk size from_ n) :
    Calls Try.prog 10 #[.int .i64 size, .int .i64 from_, .int .i64 n] w fun e w' => e = .returned (.tuple #[.int .i64 0, .int .i64 1]) ∧ w = w' := by
  by_cases hp : Place size from_
  · have h7 : n < 0 ∨ 1099511627776 < n := by unfold AtOk at h; have := hp; simp only [hp, true_and] at h; omega
    clear h
    by_cases h5 : n < 0
    · go_enter Try.func10, Try.ntmps10
      go_wp2_with (go_at_call 15; refine (Right_yes _ _ _ hp).mono ?_; rintro e w' ⟨rfl, rfl⟩)
      go_ret2
      exact ⟨rfl, rfl⟩
    · have h6 : decide (n < 0) = false := by simp; omega
      have h8 : 1099511627776 < n := by omega
      go_enter Try.func10, Try.ntmps10
      go_wp2_with (go_at_call 15; refine (Right_yes _ _ _ hp).mono ?_; rintro e w' ⟨rfl, rfl⟩)
      go_ret2
      exact ⟨rfl, rfl⟩
  · clear h
    go_enter Try.func10, Try.ntmps10
    go_wp2_with (go_at_call 15; refine (Right_no _ _ _ hp).mono ?_; rintro e w' ⟨rfl, rfl⟩)
    go_ret2
    exact ⟨rfl, rfl⟩

theorem place_five : Place 5 3 := by unfold Place; omega

set_option maxHeartbeats 400000 in
theorem RingAwake_any (w : World) : Calls Try.prog 11 #[] w fun e w' => e = .returned (.bool true) ∧ w = w' := by
  go_enter Try.func11, Try.ntmps11
  go_wp2_with (go_at_call 9; refine (At_ok 5 3 4 _ ⟨place_five, by omega, by omega⟩).mono ?_; rintro e w' ⟨rfl, rfl⟩)
  go_ret
  exact ⟨rfl, rfl⟩

/-! ### Gap -/

def gapN (size from_ to : Int) : Int := if to < from_ then to + size - from_ else to - from_

theorem gapN_bounds {size from_ to : Int} (hp : Place size from_) (hq : Place size to) : 0 ≤ gapN size from_ to ∧ gapN size from_ to < size := by
  obtain ⟨h1, h2, h3, h4⟩ := hp
  obtain ⟨_, _, h5, h6⟩ := hq
  unfold gapN
  split <;> omega

theorem gapN_goes {size from_ to : Int} (hp : Place size from_) (hq : Place size to) : (from_ + gapN size from_ to) % size = to := by
  obtain ⟨h1, h2, h3, h4⟩ := hp
  obtain ⟨_, _, h5, h6⟩ := hq
  unfold gapN
  split
  · rw [show from_ + (to + size - from_) = to + size from by omega, Int.add_emod_right]
    exact Int.emod_eq_of_lt h5 h6
  · rw [show from_ + (to - from_) = to from by omega]
    exact Int.emod_eq_of_lt h5 h6

theorem gapN_first {size from_ to : Int} (hp : Place size from_) (hq : Place size to) {k : Nat} (hk : (k : Int) < gapN size from_ to) : (from_ + k) % size ≠ to := by
  have hb := gapN_bounds hp hq
  have hg := gapN_goes hp hq
  obtain ⟨h1, h2, h3, h4⟩ := hp
  obtain ⟨_, _, h5, h6⟩ := hq
  intro h
  have e : (from_ + gapN size from_ to) % size = (from_ + k) % size := by rw [hg, h]
  have e2 := Int.emod_emod_of_dvd 0 (Int.dvd_refl size)
  have e3 : size ∣ (from_ + gapN size from_ to) - (from_ + k) := Int.dvd_of_emod_eq_zero (by rw [← Int.emod_sub_emod, e, Int.emod_sub_emod]; simp) 
  obtain ⟨c, hc⟩ := e3
  have hc2 : gapN size from_ to - k = size * c := by omega
  have hc3 : 0 < size * c := by omega
  have hc4 : size * c < size * 1 := by omega
  have hc5 : c < 1 := Int.lt_of_mul_lt_mul_left hc4 (by omega)
  have hc6 : 0 < c := Int.pos_of_mul_pos_right hc3 (by omega)
  omega

set_option maxHeartbeats 400000 in
theorem Gap_ok (size from_ to : Int) (w : World) (hp : Place size from_) (hq : Place size to) :
    Calls Try.prog 12 #[.int .i64 size, .int .i64 from_, .int .i64 to] w fun e w' => e = .returned (.tuple #[.int .i64 (gapN size from_ to), .int .i64 0]) ∧ w = w' := by
  have hp' := hp
  obtain ⟨h1, h2, h3, h4⟩ := hp'
  have hq' := hq
  obtain ⟨_, _, h5, h6⟩ := hq'
  by_cases hlt : to < from_
  · have e : gapN size from_ to = to + size - from_ := by unfold gapN; rw [if_pos hlt]
    rw [e]
    clear e
    go_enter Try.func12, Try.ntmps12
    go_wp2_with (go_at_call 17; refine (isPosition_yes _ _ _ (by assumption)).mono ?_; rintro e w' ⟨rfl, rfl⟩)
    go_ret2
    exact ⟨rfl, rfl⟩
  · have e : gapN size from_ to = to - from_ := by unfold gapN; rw [if_neg hlt]
    rw [e]
    clear e
    go_enter Try.func12, Try.ntmps12
    go_wp2_with (go_at_call 17; refine (isPosition_yes _ _ _ (by assumption)).mono ?_; rintro e w' ⟨rfl, rfl⟩)
    go_ret2
    exact ⟨rfl, rfl⟩

set_option maxHeartbeats 400000 in
theorem Gap_no (size from_ to : Int) (w : World) (h : ¬ (Place size from_ ∧ Place size to)) :
    Calls Try.prog 12 #[.int .i64 size, .int .i64 from_, .int .i64 to] w fun e w' => e = .returned (.tuple #[.int .i64 0, .int .i64 1]) ∧ w = w' := by
  by_cases hp : Place size from_
  · have hq : ¬ Place size to := fun q => h ⟨hp, q⟩
    clear h
    go_enter Try.func12, Try.ntmps12
    go_wp2_with fail
    refine (isPosition_yes _ _ _ hp).mono ?_
    rintro e w' ⟨rfl, rfl⟩
    go_wp2_with (go_at_call 17; refine (isPosition_no _ _ _ hq).mono ?_; rintro e w' ⟨rfl, rfl⟩)
    go_ret2
    exact ⟨rfl, rfl⟩
  · clear h
    go_enter Try.func12, Try.ntmps12
    go_wp2_with (go_at_call 17; refine (isPosition_no _ _ _ hp).mono ?_; rintro e w' ⟨rfl, rfl⟩)
    go_ret2
    exact ⟨rfl, rfl⟩

set_option maxHeartbeats 400000 in
theorem RefGap_ok (size from_ to : Int) (w : World) (hp : Place size from_) (hq : Place size to) :
    Calls Try.prog 13 #[.int .i64 size, .int .i64 from_, .int .i64 to] w fun e w' => e = .returned (.tuple #[.int .i64 (gapN size from_ to), .int .i64 0]) ∧ w = w' := by
  have hb := gapN_bounds hp hq
  obtain ⟨m, hm⟩ := Int.eq_ofNat_of_zero_le hb.1
  have HG : Hid ((from_ + (m : Int)) % size = to) := Lib.hid (by rw [← hm]; exact gapN_goes hp hq)
  have HF : Hid (∀ k : Nat, k < m → (from_ + k) % size ≠ to) := Lib.hid (fun k hk => gapN_first hp hq (by omega))
  rw [hm]
  have hm4 : m < 4096 := by have := hp.2.1; omega
  clear hm hb
  have hp' := hp
  obtain ⟨h1, h2, h3, h4⟩ := hp'
  have hq' := hq
  obtain ⟨_, _, h5, h6⟩ := hq'
  go_enter Try.func13, Try.ntmps13
  go_wp2_with (go_at_call 15; refine (Right_yes _ _ _ (by assumption)).mono ?_; rintro e w' ⟨rfl, rfl⟩)
  go_loop [8, 9] (fun n a => ∃ k : Nat, k ≤ m ∧ n = .int .i64 k ∧ a = .int .i64 ((from_ + k) % size)) (fun n _ => m - (intOf n).toNat)
  case atStart => exact ⟨0, Nat.zero_le _, rfl, by rw [Int.emod_eq_of_lt (by omega) (by omega)]; simp⟩
  case round =>
    obtain ⟨k, hk, rfl, rfl⟩ := hrel
    obtain ⟨x, HX⟩ : ∃ x, Hid ((from_ + k) % size = x) := ⟨_, Lib.hid rfl⟩
    have hx : Place size x := ⟨h1, h2, by rw [← HX.out]; exact Int.emod_nonneg _ (by omega), by rw [← HX.out]; exact Int.emod_lt_of_pos _ (by omega)⟩
    have HY : Hid (nextP size x = (from_ + (k + 1 : Nat)) % size) := Lib.hid (by rw [← HX.out]; exact nextP_mod k h1)
    rw [HX.out]
    by_cases hlt : k < m
    · have hl : (x != to) = true := by rw [bne_iff_ne, ← HX.out]; exact HF.out k hlt
      go_wp2_with (go_at_call 18; refine (next_any _ _ _ hx).mono ?_; rintro e w' ⟨rfl, rfl⟩)
      go_round
      case rel => exact ⟨k + 1, by omega, by go_num, by rw [HY.out]⟩
      case measure => simp [intOf]; omega
    · have hkm : k = m := by omega
      have hl : (x != to) = false := by rw [bne_eq_false_iff_eq, ← HX.out, hkm]; exact HG.out
      have HK := Lib.hid hkm
      clear hkm
      go_wp2
      go_ret2
      rw [HK.out]
      exact ⟨rfl, rfl⟩

set_option maxHeartbeats 400000 in
theorem RefGap_no (size from_ to : Int) (w : World) (h : ¬ (Place size from_ ∧ Place size to)) :
    Calls Try.prog 13 #[.int .i64 size, .int .i64 from_, .int .i64 to] w fun e w' => e = .returned (.tuple #[.int .i64 0, .int .i64 1]) ∧ w = w' := by
  by_cases hp : Place size from_
  · have hq : ¬ Place size to := fun q => h ⟨hp, q⟩
    clear h
    go_enter Try.func13, Try.ntmps13
    go_wp2_with fail
    refine (Right_yes _ _ _ hp).mono ?_
    rintro e w' ⟨rfl, rfl⟩
    go_wp2_with (go_at_call 15; refine (Right_no _ _ _ hq).mono ?_; rintro e w' ⟨rfl, rfl⟩)
    go_ret2
    exact ⟨rfl, rfl⟩
  · clear h
    go_enter Try.func13, Try.ntmps13
    go_wp2_with (go_at_call 15; refine (Right_no _ _ _ hp).mono ?_; rintro e w' ⟨rfl, rfl⟩)
    go_ret2
    exact ⟨rfl, rfl⟩
end Go.Proofs.Ytndclhccfelghaa
