/- The walks of the laws of layer 4 but RingPieces: each returns true, and changes nothing. -/
import Derived.Test.YtndclhccfelghaaRingP
namespace Go.Proofs.Ytndclhccfelghaa
open Go.RowKit

set_option maxHeartbeats 400000 in
theorem RingAt_walk (size from_ n : Int) (w : World) :
    Calls Try.prog 3 #[.int .i64 size, .int .i64 from_, .int .i64 n] w fun e w' => e = .returned (.bool true) ∧ Below w.heap.size w w' := by
  by_cases h : AtOk size from_ n
  · obtain ⟨x, HX⟩ : ∃ x, Hid ((from_ + n) % size = x) := ⟨_, Lib.hid rfl⟩
    go_enter Try.func3, Try.ntmps3
    go_wp2_with (first
      | (go_at_call 9; refine (At_ok _ _ _ _ h).mono ?_; rintro e w' ⟨rfl, rfl⟩; rw [HX.out])
      | (go_at_call 10; refine (RefAt_ok _ _ _ _ h).mono ?_; rintro e w' ⟨rfl, rfl⟩; rw [HX.out])
      | (go_at_call 11; refine (RingAwake_any _).mono ?_; rintro e w' ⟨rfl, rfl⟩))
    go_ret
    exact ⟨rfl, Below.refl _ _⟩
  · go_enter Try.func3, Try.ntmps3
    go_wp2_with (first
      | (go_at_call 9; refine (At_no _ _ _ _ h).mono ?_; rintro e w' ⟨rfl, rfl⟩)
      | (go_at_call 10; refine (RefAt_no _ _ _ _ h).mono ?_; rintro e w' ⟨rfl, rfl⟩)
      | (go_at_call 11; refine (RingAwake_any _).mono ?_; rintro e w' ⟨rfl, rfl⟩))
    go_ret
    exact ⟨rfl, Below.refl _ _⟩

set_option maxHeartbeats 400000 in
theorem RingGap_walk (size from_ to : Int) (w : World) :
    Calls Try.prog 4 #[.int .i64 size, .int .i64 from_, .int .i64 to] w fun e w' => e = .returned (.bool true) ∧ Below w.heap.size w w' := by
  by_cases h : Place size from_ ∧ Place size to
  · obtain ⟨x, HX⟩ : ∃ x, Hid (gapN size from_ to = x) := ⟨_, Lib.hid rfl⟩
    go_enter Try.func4, Try.ntmps4
    go_wp2_with (first
      | (go_at_call 12; refine (Gap_ok _ _ _ _ h.1 h.2).mono ?_; rintro e w' ⟨rfl, rfl⟩; rw [HX.out])
      | (go_at_call 13; refine (RefGap_ok _ _ _ _ h.1 h.2).mono ?_; rintro e w' ⟨rfl, rfl⟩; rw [HX.out])
      | (go_at_call 11; refine (RingAwake_any _).mono ?_; rintro e w' ⟨rfl, rfl⟩))
    go_ret
    exact ⟨rfl, Below.refl _ _⟩
  · go_enter Try.func4, Try.ntmps4
    go_wp2_with (first
      | (go_at_call 12; refine (Gap_no _ _ _ _ h).mono ?_; rintro e w' ⟨rfl, rfl⟩)
      | (go_at_call 13; refine (RefGap_no _ _ _ _ h).mono ?_; rintro e w' ⟨rfl, rfl⟩)
      | (go_at_call 11; refine (RingAwake_any _).mono ?_; rintro e w' ⟨rfl, rfl⟩))
    go_ret
    exact ⟨rfl, Below.refl _ _⟩

set_option maxHeartbeats 400000 in
theorem RingGoes_walk (size from_ to : Int) (w : World) :
    Calls Try.prog 6 #[.int .i64 size, .int .i64 from_, .int .i64 to] w fun e w' => e = .returned (.bool true) ∧ Below w.heap.size w w' := by
  by_cases h : Place size from_ ∧ Place size to
  · obtain ⟨hp, hq⟩ := h
    obtain ⟨hb1, hb2⟩ := gapN_bounds hp hq
    have HG := Lib.hid (gapN_goes hp hq)
    have HB : Hid ((to + size) % size = to) := Lib.hid (by rw [Int.add_emod_right]; exact Int.emod_eq_of_lt hq.2.2.1 hq.2.2.2)
    obtain ⟨x, HX⟩ : ∃ x, Hid (gapN size from_ to = x) := ⟨_, Lib.hid rfl⟩
    rw [HX.out] at hb1 hb2 HG
    have hs : size ≤ 4096 := hp.2.1
    have h2 : AtOk size from_ x := ⟨hp, by omega, by omega⟩
    have h3 : AtOk size to size := ⟨hq, by omega, by omega⟩
    go_enter Try.func6, Try.ntmps6
    go_wp2_with fail
    refine (Gap_ok _ _ _ _ hp hq).mono ?_
    rintro e w' ⟨rfl, rfl⟩
    rw [HX.out]
    go_wp2_with fail
    refine (At_ok _ _ _ _ h2).mono ?_
    rintro e w' ⟨rfl, rfl⟩
    rw [HG.out]
    go_wp2_with fail
    refine (At_ok _ _ _ _ h3).mono ?_
    rintro e w' ⟨rfl, rfl⟩
    rw [HB.out]
    go_wp2_with (go_at_call 11; refine (RingAwake_any _).mono ?_; rintro e w' ⟨rfl, rfl⟩)
    go_ret
    exact ⟨rfl, Below.refl _ _⟩
  · go_enter Try.func6, Try.ntmps6
    go_wp2_with (first
      | (go_at_call 12; refine (Gap_no _ _ _ _ h).mono ?_; rintro e w' ⟨rfl, rfl⟩)
      | (go_at_call 11; refine (RingAwake_any _).mono ?_; rintro e w' ⟨rfl, rfl⟩))
    go_ret
    exact ⟨rfl, Below.refl _ _⟩

theorem at_place {size from_ n : Int} (h : AtOk size from_ n) : Place size ((from_ + n) % size) := by
  obtain ⟨⟨h1, h2, h3, h4⟩, h5, h6⟩ := h
  exact ⟨h1, h2, Int.emod_nonneg _ (by omega), Int.emod_lt_of_pos _ (by omega)⟩

set_option maxHeartbeats 400000 in
theorem RingSteps_walk (size from_ n m : Int) (w : World) :
    Calls Try.prog 7 #[.int .i64 size, .int .i64 from_, .int .i64 n, .int .i64 m] w fun e w' => e = .returned (.bool true) ∧ Below w.heap.size w w' := by
  by_cases hn : 0 ≤ n ∧ 0 ≤ m ∧ n ≤ 549755813888 ∧ m ≤ 549755813888
  · obtain ⟨hn1, hn2, hn3, hn4⟩ := hn
    by_cases h : Place size from_
    · have ha : AtOk size from_ n := ⟨h, by omega, by omega⟩
      have hpx := at_place ha
      have HS : Hid (((from_ + n) % size + m) % size = (from_ + (n + m)) % size) := Lib.hid (by rw [Int.emod_add_emod, Int.add_assoc])
      obtain ⟨x, HX⟩ : ∃ x, Hid ((from_ + n) % size = x) := ⟨_, Lib.hid rfl⟩
      rw [HX.out] at HS hpx
      obtain ⟨y, HY⟩ : ∃ y, Hid ((from_ + (n + m)) % size = y) := ⟨_, Lib.hid rfl⟩
      rw [HY.out] at HS
      have hb : AtOk size x m := ⟨hpx, by omega, by omega⟩
      have hc : AtOk size from_ (n + m) := ⟨h, by omega, by omega⟩
      go_enter Try.func7, Try.ntmps7
      go_wp2_with fail
      refine (At_ok _ _ _ _ ha).mono ?_
      rintro e w' ⟨rfl, rfl⟩
      rw [HX.out]
      go_wp2_with fail
      refine (At_ok _ _ _ _ hb).mono ?_
      rintro e w' ⟨rfl, rfl⟩
      rw [HS.out]
      go_wp2_with fail
      refine (At_ok _ _ _ _ hc).mono ?_
      rintro e w' ⟨rfl, rfl⟩
      rw [HY.out]
      go_wp2_with (go_at_call 11; refine (RingAwake_any _).mono ?_; rintro e w' ⟨rfl, rfl⟩)
      go_ret
      exact ⟨rfl, Below.refl _ _⟩
    · have ha : ¬ AtOk size from_ n := fun q => h q.1
      go_enter Try.func7, Try.ntmps7
      go_wp2_with (first
        | (go_at_call 9; refine (At_no _ _ _ _ ha).mono ?_; rintro e w' ⟨rfl, rfl⟩)
        | (go_at_call 11; refine (RingAwake_any _).mono ?_; rintro e w' ⟨rfl, rfl⟩))
      go_ret
      exact ⟨rfl, Below.refl _ _⟩
  · have hb : (decide (n < 0) || decide (m < 0) || decide (549755813888 < n) || decide (549755813888 < m)) = true := by simp; omega
    have hb2 : n < 0 ∨ m < 0 ∨ 549755813888 < n ∨ 549755813888 < m := by omega
    clear hn
    go_enter Try.func7, Try.ntmps7
    go_wp2_with (go_at_call 11; refine (RingAwake_any _).mono ?_; rintro e w' ⟨rfl, rfl⟩)
    all_goals
      go_ret
      exact ⟨rfl, Below.refl _ _⟩

set_option maxHeartbeats 400000 in
theorem RingRound_walk (size from_ n times : Int) (w : World) :
    Calls Try.prog 8 #[.int .i64 size, .int .i64 from_, .int .i64 n, .int .i64 times] w fun e w' => e = .returned (.bool true) ∧ Below w.heap.size w w' := by
  by_cases hn : 0 ≤ n ∧ n ≤ 1073741824 ∧ 0 ≤ times ∧ times ≤ 1000
  · obtain ⟨hn1, hn2, hn3, hn4⟩ := hn
    by_cases h : Place size from_
    · have ha : AtOk size from_ n := ⟨h, by omega, by omega⟩
      have hpx := at_place ha
      have ht1 : 0 ≤ times * size := Int.mul_nonneg hn3 (by have := h.1; omega)
      have ht2 : times * size ≤ 4096000 := by
        have e1 : times * size ≤ 1000 * size := Int.mul_le_mul_of_nonneg_right hn4 (by have := h.1; omega)
        have := h.2.1
        omega
      have HS : Hid ((from_ + (n + times * size)) % size = (from_ + n) % size) := Lib.hid (by rw [← Int.add_assoc, Int.mul_comm, Int.add_mul_emod_self_left])
      have HZ : Hid (((from_ + n) % size + 0) % size = (from_ + n) % size) := Lib.hid (by rw [Int.add_zero, Int.emod_emod])
      obtain ⟨x, HX⟩ : ∃ x, Hid ((from_ + n) % size = x) := ⟨_, Lib.hid rfl⟩
      rw [HX.out] at HS hpx HZ
      have hb : AtOk size from_ (n + times * size) := ⟨h, by omega, by omega⟩
      have hc : AtOk size x 0 := ⟨hpx, by omega, by omega⟩
      go_enter Try.func8, Try.ntmps8
      go_wp2_with fail
      refine (At_ok _ _ _ _ ha).mono ?_
      rintro e w' ⟨rfl, rfl⟩
      rw [HX.out]
      go_wp2_with fail
      refine (At_ok _ _ _ _ hb).mono ?_
      rintro e w' ⟨rfl, rfl⟩
      rw [HS.out]
      go_wp2_with fail
      refine (At_ok _ _ _ _ hc).mono ?_
      rintro e w' ⟨rfl, rfl⟩
      rw [HZ.out]
      go_wp2_with (go_at_call 11; refine (RingAwake_any _).mono ?_; rintro e w' ⟨rfl, rfl⟩)
      go_ret
      exact ⟨rfl, Below.refl _ _⟩
    · have ha : ¬ AtOk size from_ n := fun q => h q.1
      go_enter Try.func8, Try.ntmps8
      go_wp2_with (first
        | (go_at_call 9; refine (At_no _ _ _ _ ha).mono ?_; rintro e w' ⟨rfl, rfl⟩)
        | (go_at_call 11; refine (RingAwake_any _).mono ?_; rintro e w' ⟨rfl, rfl⟩))
      go_ret
      exact ⟨rfl, Below.refl _ _⟩
  · have hb2 : n < 0 ∨ 1073741824 < n ∨ times < 0 ∨ 1000 < times := by omega
    clear hn
    go_enter Try.func8, Try.ntmps8
    go_wp2_with (go_at_call 11; refine (RingAwake_any _).mono ?_; rintro e w' ⟨rfl, rfl⟩)
    all_goals
      go_ret
      exact ⟨rfl, Below.refl _ _⟩
end Go.Proofs.Ytndclhccfelghaa
