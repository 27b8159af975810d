/- Bitmaps: contracts of isBlock, bit, of the document's power and May. -/
import Derived.Test.YtpefhocjnkbklaaDirM
namespace Go.Proofs.Ytpefhocjnkbklaa
open Go.RowKit

theorem isBlock_any (v b : Int) (w : World) : Calls Try.prog 37 #[.int .i64 v, .int .i64 b] w fun e w' => e = .returned (.bool (mayB (v, b))) ∧ w = w' := by
  by_cases h1 : 1 ≤ v
  · by_cases h2 : v ≤ 255
    · by_cases h3 : 0 ≤ b
      · by_cases h4 : b < 32
        · rw [show mayB (v, b) = true from by simp [mayB]; omega]
          go_enter Try.func37, Try.ntmps37
          go_wp2
          go_ret
          exact ⟨rfl, rfl⟩
        · rw [show mayB (v, b) = false from by simp [mayB]; omega]
          have h4' : decide (b < 32) = false := by simpa using h4
          go_enter Try.func37, Try.ntmps37
          go_wp2
          go_ret
          exact ⟨rfl, rfl⟩
      · rw [show mayB (v, b) = false from by simp [mayB]; omega]
        have h4' : decide (0 ≤ b) = false := by simpa using h3
        go_enter Try.func37, Try.ntmps37
        go_wp2
        go_ret
        exact ⟨rfl, rfl⟩
    · rw [show mayB (v, b) = false from by simp [mayB]; omega]
      have h4' : decide (v ≤ 255) = false := by simpa using h2
      go_enter Try.func37, Try.ntmps37
      go_wp2
      go_ret
      exact ⟨rfl, rfl⟩
  · rw [show mayB (v, b) = false from by simp [mayB]; omega]
    have h4' : decide (1 ≤ v) = false := by simpa using h1
    go_enter Try.func37, Try.ntmps37
    go_wp2
    go_ret
    exact ⟨rfl, rfl⟩

theorem pow_small {n : Nat} (h : n ≤ 32) : (2 : Int) ^ n % 18446744073709551616 = 2 ^ n := by
  have h1 : 2 ^ n ≤ 2 ^ 32 := Nat.pow_le_pow_right (by omega) h
  have h2 : 1 ≤ 2 ^ n := Nat.one_le_two_pow
  have h3 : ((2 ^ n : Nat) : Int) = (2 : Int) ^ n := by simp
  omega
theorem bit_any (b : Int) (w : World) (h1 : 0 ≤ b) (h2 : b ≤ 32) : Calls Try.prog 39 #[.int .i64 b] w fun e w' => e = .returned (.int .u64 ((2 : Int) ^ b.toNat)) ∧ w = w' := by
  have hm : min b.toNat 64 = b.toNat := by omega
  have hp := pow_small (n := b.toNat) (by omega)
  go_enter Try.func39, Try.ntmps39
  go_wp2
  go_ret
  exact ⟨rfl, rfl⟩

theorem May_any (v b : Int) (w : World) : Calls Try.prog 40 #[.agg #[.int .i64 v, .int .i64 b]] w fun e w' => e = .returned (.bool (mayB (v, b))) ∧ Below w.heap.size w w' := by
  by_cases h1 : 0 < v
  · by_cases h2 : v < 256
    · by_cases h3 : 0 ≤ b
      · by_cases h4 : b < 32
        · rw [show mayB (v, b) = true from by simp [mayB]; omega]
          go_enter Try.func40, Try.ntmps40
          go_wp2
          go_ret
          exact ⟨rfl, (Below.refl _ _).alloc (Nat.le_refl _) _⟩
        · rw [show mayB (v, b) = false from by simp [mayB]; omega]
          have h4' : decide (b < 32) = false := by simpa using h4
          go_enter Try.func40, Try.ntmps40
          go_wp2
          go_ret
          exact ⟨rfl, (Below.refl _ _).alloc (Nat.le_refl _) _⟩
      · rw [show mayB (v, b) = false from by simp [mayB]; omega]
        have h4' : decide (0 ≤ b) = false := by simpa using h3
        go_enter Try.func40, Try.ntmps40
        go_wp2
        go_ret
        exact ⟨rfl, (Below.refl _ _).alloc (Nat.le_refl _) _⟩
    · rw [show mayB (v, b) = false from by simp [mayB]; omega]
      have h4' : decide (v < 256) = false := by simpa using h2
      go_enter Try.func40, Try.ntmps40
      go_wp2
      go_ret
      exact ⟨rfl, (Below.refl _ _).alloc (Nat.le_refl _) _⟩
  · rw [show mayB (v, b) = false from by simp [mayB]; omega]
    have h4' : decide (0 < v) = false := by simpa using h1
    go_enter Try.func40, Try.ntmps40
    go_wp2
    go_ret
    exact ⟨rfl, (Below.refl _ _).alloc (Nat.le_refl _) _⟩

end Go.Proofs.Ytpefhocjnkbklaa
