/- Contracts of the small functions of the package vols: isSize, isShape, isTooLong; slices.ContainsFunc of it; find, locate. -/
import Derived.Test.YtpmllckfijfehaaVolM
namespace Go.Proofs.Ytpmllckfijfehaa
open Go.RowKit

theorem isSize_any (n : Int) (w : World) : Calls Try.prog 66 #[.int .i64 n] w fun e w' => e = .returned (.bool (sizeB n)) ∧ w = w' := by
  by_cases h1 : 1 ≤ n
  · by_cases h2 : n ≤ 32
    · rw [show sizeB n = true from by simp [sizeB, h1, h2]]
      go_enter Try.func66, Try.ntmps66
      go_wp2
      go_ret
      exact ⟨rfl, rfl⟩
    · rw [show sizeB n = false from by simp [sizeB, h2]]
      have h3 : decide (n ≤ 32) = false := by simpa using h2
      go_enter Try.func66, Try.ntmps66
      go_wp2
      go_ret
      exact ⟨rfl, rfl⟩
  · rw [show sizeB n = false from by simp [sizeB, h1]]
    have h3 : decide (1 ≤ n) = false := by simpa using h1
    go_enter Try.func66, Try.ntmps66
    go_wp2
    go_ret
    exact ⟨rfl, rfl⟩

theorem isShape_any (id n : Int) (w : World) : Calls Try.prog 60 #[.int .i64 id, .int .i64 n] w fun e w' => e = .returned (.bool (shapeB id n)) ∧ w = w' := by
  by_cases h1 : 1 ≤ id
  · by_cases h2 : id ≤ 255
    · have e : shapeB id n = sizeB n := by simp [shapeB, sizeB, h1, h2]
      rw [e]
      go_enter Try.func60, Try.ntmps60
      go_wp2_with (go_at_call 66; refine (isSize_any _ _).mono ?_; rintro e w' ⟨rfl, rfl⟩)
      go_ret
      exact ⟨rfl, rfl⟩
    · rw [show shapeB id n = false from by simp [shapeB, h2]]
      have h3 : decide (id ≤ 255) = false := by simpa using h2
      go_enter Try.func60, Try.ntmps60
      go_wp2_with fail
      go_ret
      exact ⟨rfl, rfl⟩
  · rw [show shapeB id n = false from by simp [shapeB, h1]]
    have h3 : decide (1 ≤ id) = false := by simpa using h1
    go_enter Try.func60, Try.ntmps60
    go_wp2_with fail
    go_ret
    exact ⟨rfl, rfl⟩

theorem isTooLong_any (s : ByteArray) (w : World) : Calls Try.prog 57 #[.string s] w fun e w' => e = .returned (.bool (!shortB s)) ∧ w = w' := by
  by_cases h : s.size ≤ 8
  · rw [show (!shortB s) = false from by simp [shortB, h]]
    have h2 : decide (8 < (s.size : Int)) = false := by rw [decide_eq_false_iff_not]; omega
    go_enter Try.func57, Try.ntmps57
    go_wp2
    go_ret
    exact ⟨rfl, rfl⟩
  · rw [show (!shortB s) = true from by simp [shortB]; omega]
    have h2 : decide (8 < (s.size : Int)) = true := by rw [decide_eq_true_iff]; omega
    go_enter Try.func57, Try.ntmps57
    go_wp2
    go_ret
    exact ⟨rfl, rfl⟩

/-- The first text that is too long, or -1. -/
def IdxEnd (bs : List ByteArray) (w : World) (e : Ending) (w' : World) : Prop := ∃ k : Int, e = .returned (.int .i64 k) ∧ -1 ≤ k ∧ (0 ≤ k ↔ bs.all shortB = false) ∧ w = w'
theorem idxEnd_some {bs : List ByteArray} {w : World} {k : Nat} {s : ByteArray} (h : s ∈ bs) (hs : shortB s = false) : IdxEnd bs w (.returned (.int .i64 k)) w := by
  refine ⟨k, rfl, by omega, ⟨fun _ => ?_, fun _ => by omega⟩, rfl⟩
  rw [Bool.eq_false_iff]
  intro hall
  have := List.all_eq_true.1 hall s h
  rw [hs] at this
  exact absurd this (by simp)
theorem idxEnd_none {bs : List ByteArray} {w : World} (h : bs.all shortB = true) : IdxEnd bs w (.returned (.int .i64 (-1))) w :=
  ⟨-1, rfl, by omega, ⟨fun h => by omega, fun h' => by rw [h] at h'; exact absurd h' (by simp)⟩, rfl⟩

set_option maxHeartbeats 800000 in
theorem IndexFunc_any {w : World} {a : Option Addr} {c : Nat} {bs : List ByteArray} (h : Lies w w.heap.size a (bs.map Value.string)) (hl : bs.length ≤ 9223372036854775807) :
    Calls Try.prog 67 #[.slice a bs.length c, .func (.func 57) #[] #[]] w (IdxEnd bs w) := by
  have HA := Lib.hid h
  obtain ⟨n, hn⟩ : ∃ n, bs.length = n := ⟨_, rfl⟩
  have HN := Lib.hid hn
  rw [hn] at hl ⊢
  clear h hn
  go_enter Try.func67, Try.ntmps67
  go_wp2_with fail
  go_loop [5, 8] (fun _ i => ∃ k : Nat, k ≤ n ∧ i = .int .i64 k ∧ Hid ((bs.take k).all shortB = true)) (fun _ i => n - (intOf i).toNat)
  case atStart => exact ⟨0, Nat.zero_le _, rfl, Lib.hid (by simp)⟩
  case round =>
    obtain ⟨k, hk, rfl, HK⟩ := hrel
    by_cases hlt : k < n
    · have hkl : k < bs.length := by rw [HN.out]; exact hlt
      obtain ⟨b, off, hA, _, hc⟩ := HA.out.text (Below.refl _ _) hkl
      have hA' := hA
      subst hA
      have HT := Lib.hid (List.take_succ_eq_append_getElem hkl)
      obtain ⟨s, hs⟩ : ∃ s, bs[k] = s := ⟨_, rfl⟩
      have HM : Hid (s ∈ bs) := Lib.hid (by rw [← hs]; exact List.getElem_mem hkl)
      rw [hs] at hc HT
      clear hs hkl
      cases hq : shortB s with
      | true =>
        have HQ := Lib.hid hq
        clear hq
        go_wp2_with (go_at_call 57; refine (isTooLong_any _ _).mono ?_; rw [HQ.out]; rintro e w' ⟨rfl, rfl⟩)
        go_round
        case rel => exact ⟨k + 1, by omega, by go_num, Lib.hid (by rw [HT.out, List.all_append, HK.out]; simp [HQ.out])⟩
        case measure => simp [intOf]; omega
      | false =>
        have HQ := Lib.hid hq
        clear hq
        go_wp2_with (go_at_call 57; refine (isTooLong_any _ _).mono ?_; rw [HQ.out]; rintro e w' ⟨rfl, rfl⟩)
        go_ret
        exact idxEnd_some HM.out HQ.out
    · have HE : Hid (bs.all shortB = true) := Lib.hid (by have := HK.out; rwa [List.take_of_length_le (by rw [HN.out]; omega)] at this)
      go_wp2_with fail
      go_ret
      exact idxEnd_none HE.out

theorem ContainsFunc_any {w : World} {a : Option Addr} {c : Nat} {bs : List ByteArray} (h : Lies w w.heap.size a (bs.map Value.string)) (hl : bs.length ≤ 9223372036854775807) :
    Calls Try.prog 61 #[.slice a bs.length c, .func (.func 57) #[] #[]] w fun e w' => e = .returned (.bool (!bs.all shortB)) ∧ w = w' := by
  have HA := Lib.hid h
  clear h
  go_enter Try.func61, Try.ntmps61
  cases hq : bs.all shortB with
  | true =>
    have HQ := Lib.hid hq
    clear hq
    go_wp2_with (go_at_call 67; refine (IndexFunc_any HA.out hl).mono ?_; rintro e w' ⟨k, rfl, hk, hi, rfl⟩; have h0 : decide (0 ≤ k) = false := (by rw [decide_eq_false_iff_not]; intro h0; rw [hi, HQ.out] at h0; exact absurd h0 (by simp)); clear hi)
    go_ret
    exact ⟨rfl, rfl⟩
  | false =>
    have HQ := Lib.hid hq
    clear hq
    go_wp2_with (go_at_call 67; refine (IndexFunc_any HA.out hl).mono ?_; rintro e w' ⟨k, rfl, hk, hi, rfl⟩; have h0 : decide (0 ≤ k) = true := (by rw [decide_eq_true_iff]; exact hi.2 HQ.out); clear hi)
    go_ret
    exact ⟨rfl, rfl⟩
end Go.Proofs.Ytpmllckfijfehaa
