/- Contracts of the functions of the package ring and of the document's answer for it: At, Gap, isPosition; Right, next, At, Gap. Each changes nothing. -/
import Derived.Test.YtjeabnlmanfplaaGreatDoorRows
import Derived.WalkKit
import Derived.WalkSpells
import Derived.WalkLawsBesides
import Derived.Lib.Hide
import Derived.PlainAid
import Derived.Deep.OwnRows
import Derived.Laws.BitsAllLaws
import Derived.Test.YtjeabnlmanfplaaGreatDoorSpec
namespace Go.Proofs.YtjeabnlmanfplaaGreatDoor
open Go.RowKit

/-- A place of a ring. -/
def Place (size p : Int) : Prop := 1 ≤ size ∧ size ≤ 4096 ∧ 0 ≤ p ∧ p < size

theorem place_not {size p : Int} (h : ¬ Place size p) : size < 1 ∨ 4096 < size ∨ p < 0 ∨ size ≤ p := by
  unfold Place at h; omega

set_option maxHeartbeats 400000 in
theorem isPosition_yes (size p : Int) (w : World) (h : Place size p) :
    Calls Tryz.prog 126 #[.int .i64 size, .int .i64 p] w fun e w' => e = .returned (.bool true) ∧ w = w' := by
  obtain ⟨h1, h2, h3, h4⟩ := h
  go_enter Tryz.func126, Tryz.ntmps126
  go_wp2
  go_ret
  exact ⟨rfl, rfl⟩

set_option maxHeartbeats 400000 in
theorem isPosition_no (size p : Int) (w : World) (h : ¬ Place size p) :
    Calls Tryz.prog 126 #[.int .i64 size, .int .i64 p] w fun e w' => e = .returned (.bool false) ∧ w = w' := by
  have h' := place_not h
  clear h
  by_cases h1 : size < 1
  · go_enter Tryz.func126, Tryz.ntmps126
    go_wp2
    go_ret
    exact ⟨rfl, rfl⟩
  · by_cases h2 : 4096 < size
    · have h3 : decide (size ≤ 4096) = false := by simp; omega
      go_enter Tryz.func126, Tryz.ntmps126
      go_wp2
      go_ret
      exact ⟨rfl, rfl⟩
    · by_cases h3 : p < 0
      · have h4 : decide (0 ≤ p) = false := by simp; omega
        go_enter Tryz.func126, Tryz.ntmps126
        go_wp2
        go_ret
        exact ⟨rfl, rfl⟩
      · have h4 : decide (p < size) = false := by simp; omega
        go_enter Tryz.func126, Tryz.ntmps126
        go_wp2
        go_ret
        exact ⟨rfl, rfl⟩

/-- The place behind. -/
def nextP (size at_ : Int) : Int := if at_ = size - 1 then 0 else at_ + 1

theorem nextP_mod {size from_ : Int} (k : Nat) (h1 : 1 ≤ size) : nextP size ((from_ + k) % size) = (from_ + (k + 1 : Nat)) % size := by
  unfold nextP
  have a := Int.emod_nonneg (from_ + k) (show size ≠ 0 by omega)
  have b := Int.emod_lt_of_pos (from_ + k) (show 0 < size by omega)
  have c := Int.emod_add_mul_ediv (from_ + k) size
  have e : from_ + ((k + 1 : Nat) : Int) = ((from_ + k) % size + 1) + size * ((from_ + k) / size) := by omega
  rw [e, Int.add_mul_emod_self_left]
  split
  · next h => rw [h, show size - 1 + 1 = size from by omega, Int.emod_self]
  · next h => exact (Int.emod_eq_of_lt (a := (from_ + k) % size + 1) (by omega) (by omega)).symm

/-! ### At -/

def AtOk (size from_ n : Int) : Prop := Place size from_ ∧ 0 ≤ n ∧ n ≤ 1099511627776

set_option maxHeartbeats 400000 in
theorem At_ok (size from_ n : Int) (w : World) (h : AtOk size from_ n) :
    Calls Tryz.prog 112 #[.int .i64 size, .int .i64 from_, .int .i64 n] w fun e w' => e = .returned (.tuple #[.int .i64 ((from_ + n) % size), .int .i64 0]) ∧ w = w' := by
  obtain ⟨hp, h5, h6⟩ := h
  have hp' := hp
  obtain ⟨h1, h2, h3, h4⟩ := hp'
  go_enter Tryz.func112, Tryz.ntmps112
  go_wp2_with (go_at_call 126; refine (isPosition_yes _ _ _ hp).mono ?_; rintro e w' ⟨rfl, rfl⟩)
  go_ret2
  exact ⟨rfl, rfl⟩

set_option maxHeartbeats 400000 in
theorem At_no (size from_ n : Int) (w : World) (h : ¬ AtOk size from_ n) :
    Calls Tryz.prog 112 #[.int .i64 size, .int .i64 from_, .int .i64 n] w fun e w' => e = .returned (.tuple #[.int .i64 0, .int .i64 1]) ∧ w = w' := by
  by_cases hp : Place size from_
  · have h7 : n < 0 ∨ 1099511627776 < n := by unfold AtOk at h; have := hp; simp only [hp, true_and] at h; omega
    clear h
    by_cases h5 : n < 0
    · go_enter Tryz.func112, Tryz.ntmps112
      go_wp2_with (go_at_call 126; refine (isPosition_yes _ _ _ hp).mono ?_; rintro e w' ⟨rfl, rfl⟩)
      go_ret2
      exact ⟨rfl, rfl⟩
    · have h6 : decide (n < 0) = false := by simp; omega
      have h8 : 1099511627776 < n := by omega
      go_enter Tryz.func112, Tryz.ntmps112
      go_wp2_with (go_at_call 126; refine (isPosition_yes _ _ _ hp).mono ?_; rintro e w' ⟨rfl, rfl⟩)
      go_ret2
      exact ⟨rfl, rfl⟩
  · clear h
    go_enter Tryz.func112, Tryz.ntmps112
    go_wp2_with (go_at_call 126; refine (isPosition_no _ _ _ hp).mono ?_; rintro e w' ⟨rfl, rfl⟩)
    go_ret2
    exact ⟨rfl, rfl⟩

theorem mod_small {size : Int} (n : Int) (h1 : 1 ≤ size) : ∃ m : Nat, n % size = m ∧ (m : Int) < size ∧ n % size = (m : Int) % size := by
  have a := Int.emod_nonneg n (show size ≠ 0 by omega)
  have b := Int.emod_lt_of_pos n (show 0 < size by omega)
  obtain ⟨m, hm⟩ := Int.eq_ofNat_of_zero_le a
  exact ⟨m, hm, by omega, by rw [← hm, Int.emod_emod]⟩

theorem place_five : Place 5 3 := by unfold Place; omega

/-! ### Gap -/

def gapN (size from_ to : Int) : Int := if to < from_ then to + size - from_ else to - from_

theorem gapN_bounds {size from_ to : Int} (hp : Place size from_) (hq : Place size to) : 0 ≤ gapN size from_ to ∧ gapN size from_ to < size := by
  obtain ⟨h1, h2, h3, h4⟩ := hp
  obtain ⟨_, _, h5, h6⟩ := hq
  unfold gapN
  split <;> omega

theorem gapN_goes {size from_ to : Int} (hp : Place size from_) (hq : Place size to) : (from_ + gapN size from_ to) % size = to := by
  obtain ⟨h1, h2, h3, h4⟩ := hp
  obtain ⟨_, _, h5, h6⟩ := hq
  unfold gapN
  split
  · rw [show from_ + (to + size - from_) = to + size from by omega, Int.add_emod_right]
    exact Int.emod_eq_of_lt h5 h6
  · rw [show from_ + (to - from_) = to from by omega]
    exact Int.emod_eq_of_lt h5 h6

theorem gapN_first {size from_ to : Int} (hp : Place size from_) (hq : Place size to) {k : Nat} (hk : (k : Int) < gapN size from_ to) : (from_ + k) % size ≠ to := by
  have hb := gapN_bounds hp hq
  have hg := gapN_goes hp hq
  obtain ⟨h1, h2, h3, h4⟩ := hp
  obtain ⟨_, _, h5, h6⟩ := hq
  intro h
  have e : (from_ + gapN size from_ to) % size = (from_ + k) % size := by rw [hg, h]
  have e2 := Int.emod_emod_of_dvd 0 (Int.dvd_refl size)
  have e3 : size ∣ (from_ + gapN size from_ to) - (from_ + k) := Int.dvd_of_emod_eq_zero (by rw [← Int.emod_sub_emod, e, Int.emod_sub_emod]; simp) 
  obtain ⟨c, hc⟩ := e3
  have hc2 : gapN size from_ to - k = size * c := by omega
  have hc3 : 0 < size * c := by omega
  have hc4 : size * c < size * 1 := by omega
  have hc5 : c < 1 := Int.lt_of_mul_lt_mul_left hc4 (by omega)
  have hc6 : 0 < c := Int.pos_of_mul_pos_right hc3 (by omega)
  omega

end Go.Proofs.YtjeabnlmanfplaaGreatDoor
