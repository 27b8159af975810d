/- Contracts of few, and of the document's Right. -/
import Derived.Test.YtfcpgkbbocadpaaWireA
namespace Go.Proofs.Ytfcpgkbbocadpaa
open Go.RowKit

set_option maxHeartbeats 1000000 in
set_option maxRecDepth 100000 in
theorem few16_any {w : World} {A : Option Addr} {c : Nat} {l : List WPk} (h : WpAt w w.heap.size A l) (hl : l.length ≤ 9223372036854775807) :
    Calls Try.prog 6 #[.slice A l.length c] w fun e w' => e = .returned (.bool (fewW l)) ∧ w = w' := by
  have HW := Lib.hid h
  obtain ⟨n, hn⟩ : ∃ n, l.length = n := ⟨_, rfl⟩
  have HN := Lib.hid hn
  obtain ⟨b, hb⟩ : ∃ b, fewW l = b := ⟨_, rfl⟩
  have HF := Lib.hid hb
  have HNo := Lib.hid (fun k hk hq => @fewW_not l k hk hq)
  rw [hn] at hl ⊢
  rw [hb]
  clear h hn hb
  go_enter Try.func6, Try.ntmps6
  go_wp2_with fail
  go_loop [3, 7] (fun t i => ∃ k : Nat, k ≤ n ∧ i = .int .i64 k ∧ t = .int .i64 (totalW (l.take k)) ∧ totalW (l.take k) ≤ 20000 ∧ Hid (∀ j, j < k → ∀ (h : j < l.length), j ≤ 300 ∧ l[j].s.length ≤ 5000 ∧ totalW (l.take (j + 1)) ≤ 20000)) (fun _ i => n - (intOf i).toNat)
  case atStart => exact ⟨0, by omega, rfl, rfl, by simp [totalW], Lib.hid (fun j hj => by omega)⟩
  case round =>
    obtain ⟨k, hk, rfl, rfl, ht, HJ⟩ := hrel
    obtain ⟨t, htt⟩ : ∃ t, totalW (l.take k) = t := ⟨_, rfl⟩
    rw [htt] at ht ⊢
    by_cases hkn : k < n
    · have hkl : k < l.length := by rw [HN.out]; exact hkn
      obtain ⟨bb, off, rfl, hbl, _, x1⟩ := HW.out.at_ (Below.refl _ _) hkl
      have HT := Lib.hid (totalW_take hkl)
      have HN2 := Lib.hid (HNo.out k hkl)
      rw [htt] at HT
      obtain ⟨p, hp⟩ : ∃ p, l[k] = p := ⟨_, rfl⟩
      have HP := Lib.hid hp
      rw [hp] at x1 HT HN2
      obtain ⟨T, hT⟩ : ∃ T, str p.s = T := ⟨_, rfl⟩
      have hsz : T.size = p.s.length := by rw [← hT, str_size]
      rw [hT] at x1
      have HTs := Lib.hid hsz
      have hkn2 : (k : Int) < (n : Int) := by omega
      have hk0 : (0 : Int) ≤ (k : Int) := by omega
      clear hp hT hsz
      by_cases h3 : 300 < k
      · have h3' : (300 : Int) < (k : Int) := by omega
        have HE : Hid (b = false) := Lib.hid (by rw [← HF.out]; exact HN2.out (fun e => by omega))
        clear htt
        go_wp2_with fail
        go_ret
        rw [HE.out]
        exact ⟨rfl, rfl⟩
      have h3' : ¬ (300 : Int) < (k : Int) := by omega
      by_cases h5 : 5000 < T.size
      · have h5' : (5000 : Int) < (T.size : Int) := by omega
        have HE : Hid (b = false) := Lib.hid (by rw [← HF.out]; exact HN2.out (fun e => by have := HTs.out; omega))
        clear htt
        go_wp2_with fail
        go_ret
        rw [HE.out]
        exact ⟨rfl, rfl⟩
      have h5' : ¬ (5000 : Int) < (T.size : Int) := by omega
      have hw : IntKind.i64.wrap ((t : Int) + (T.size : Int)) = ((t + T.size : Nat) : Int) := by rw [IntKind.wrap_i64]; omega
      by_cases h2 : 20000 < t + T.size
      · have h2' : (20000 : Int) < ((t + T.size : Nat) : Int) := by omega
        have HE : Hid (b = false) := Lib.hid (by rw [← HF.out]; exact HN2.out (fun e => by have := HTs.out; have := HT.out; omega))
        clear htt
        go_wp2_with fail
        go_ret
        rw [HE.out]
        exact ⟨rfl, rfl⟩
      have h2' : ¬ (20000 : Int) < ((t + T.size : Nat) : Int) := by omega
      have HT2 : Hid (totalW (l.take (k + 1)) = t + T.size) := Lib.hid (by rw [HT.out, HTs.out])
      have HJ2 : Hid (∀ j, j < k + 1 → ∀ (h : j < l.length), j ≤ 300 ∧ l[j].s.length ≤ 5000 ∧ totalW (l.take (j + 1)) ≤ 20000) := Lib.hid (fun j hj h => by
        by_cases e : j < k
        · exact HJ.out j e h
        · have e2 : j = k := by omega
          subst e2
          have := HTs.out
          rw [HP.out, HT2.out]
          omega)
      clear htt
      go_wp2_with fail
      go_round
      case rel => exact ⟨k + 1, by omega, by go_num, by rw [HT2.out]; first | rfl | (congr 1; omega) | simp, by rw [HT2.out]; omega, HJ2⟩
      case measure => simp [intOf]; omega
    · have HE : Hid (b = true) := Lib.hid (by rw [← HF.out]; exact fewW_yes (fun j h => HJ.out j (by have := HN.out; omega) h))
      have hkn2 : ¬ (k : Int) < (n : Int) := by omega
      clear htt
      go_wp2_with fail
      go_ret
      rw [HE.out]
      exact ⟨rfl, rfl⟩

set_option maxHeartbeats 1000000 in
set_option maxRecDepth 100000 in
theorem DocRight16_any {w : World} {A : Option Addr} {c : Nat} {l : List WPk} (h : WpAt w w.heap.size A l) (hl : l.length ≤ 9223372036854775807) :
    Calls Try.prog 9 #[.slice A l.length c] w fun e w' => e = .returned (.bool (rightW l)) ∧ w = w' := by
  have HW := Lib.hid h
  obtain ⟨n, hn⟩ : ∃ n, l.length = n := ⟨_, rfl⟩
  have HN := Lib.hid hn
  obtain ⟨b, hb⟩ : ∃ b, rightW l = b := ⟨_, rfl⟩
  have HF := Lib.hid hb
  rw [hn] at hl ⊢
  rw [hb]
  clear h hn hb
  by_cases h2 : 256 < n
  · have h2' : (256 : Int) < (n : Int) := by omega
    have HE : Hid (b = false) := Lib.hid (by rw [← HF.out]; exact rightW_long (by rw [HN.out]; exact h2))
    go_enter Try.func9, Try.ntmps9
    go_wp2_with fail
    go_ret
    rw [HE.out]
    exact ⟨rfl, rfl⟩
  have h2' : ¬ (256 : Int) < (n : Int) := by omega
  go_enter Try.func9, Try.ntmps9
  go_wp2_with fail
  go_loop [3] (fun i => ∃ k : Nat, k ≤ n ∧ i = .int .i64 k ∧ Hid ((l.take k).all okW = true)) (fun i => n - (intOf i).toNat)
  case atStart => exact ⟨0, by omega, rfl, Lib.hid (by simp)⟩
  case round =>
    obtain ⟨k, hk, rfl, HJ⟩ := hrel
    by_cases hkn : k < n
    · have hkl : k < l.length := by rw [HN.out]; exact hkn
      obtain ⟨bb, off, rfl, hbl, x0, x1⟩ := HW.out.at_ (Below.refl _ _) hkl
      have HY := Lib.hid (all_take hkl HJ.out)
      have HN2 := Lib.hid (@rightW_not l k hkl)
      obtain ⟨p, hp⟩ : ∃ p, l[k] = p := ⟨_, rfl⟩
      rw [hp] at x0 x1 HY HN2
      obtain ⟨to_, s⟩ := p
      dsimp only at x0 x1
      obtain ⟨T, hT⟩ : ∃ T, str s = T := ⟨_, rfl⟩
      have hsz : T.size = s.length := by rw [← hT, str_size]
      rw [hT] at x1
      have HTs := Lib.hid hsz
      have hkn2 : (k : Int) < (n : Int) := by omega
      have hk0 : (0 : Int) ≤ (k : Int) := by omega
      have hw : IntKind.i64.wrap ((k : Int) + 1) = ((k + 1 : Nat) : Int) := by rw [IntKind.wrap_i64]; omega
      clear hp hT hsz
      by_cases q0 : to_ < 0
      · have HE : Hid (b = false) := Lib.hid (by rw [← HF.out]; exact HN2.out (okW_not.2 (fun e => by dsimp only at e; omega)))
        go_wp2_with fail
        go_ret
        rw [HE.out]
        exact ⟨rfl, rfl⟩
      by_cases q1 : 1 < to_
      · have HE : Hid (b = false) := Lib.hid (by rw [← HF.out]; exact HN2.out (okW_not.2 (fun e => by dsimp only at e; omega)))
        go_wp2_with fail
        go_ret
        rw [HE.out]
        exact ⟨rfl, rfl⟩
      by_cases q2 : 4103 < T.size
      · have q2' : (4103 : Int) < (T.size : Int) := by omega
        have HE : Hid (b = false) := Lib.hid (by rw [← HF.out]; exact HN2.out (okW_not.2 (fun e => by dsimp only at e; have := HTs.out; omega)))
        go_wp2_with fail
        go_ret
        rw [HE.out]
        exact ⟨rfl, rfl⟩
      have q2' : ¬ (4103 : Int) < (T.size : Int) := by omega
      have HJ2 := Lib.hid (HY.out ((okW_iff _).2 ⟨by dsimp only; omega, by dsimp only; omega, by dsimp only; have := HTs.out; omega⟩))
      go_wp2_with fail
      go_round
      case rel => exact ⟨k + 1, by omega, by go_num, HJ2⟩
      case measure => simp [intOf]; omega
    · have HE : Hid (b = true) := Lib.hid (by rw [← HF.out]; exact rightW_yes (by have := HN.out; omega) (by have h := HJ.out; rwa [show k = l.length from by have := HN.out; omega] at h))
      have hkn2 : ¬ (k : Int) < (n : Int) := by omega
      go_wp2_with fail
      go_ret
      rw [HE.out]
      exact ⟨rfl, rfl⟩
end Go.Proofs.Ytfcpgkbbocadpaa
