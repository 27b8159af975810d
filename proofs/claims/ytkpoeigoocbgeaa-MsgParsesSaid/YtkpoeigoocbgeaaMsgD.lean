/- Contracts of the document's Writable and PutWrites. -/
import Derived.Test.YtkpoeigoocbgeaaMsgC
namespace Go.Proofs.Ytkpoeigoocbgeaa
open Go.RowKit

theorem writable_long {ws : List Wr} (h : 128 < ws.length) : writable ws = false := by
  rw [Bool.eq_false_iff]; intro e; have := ((writable_iff ws).1 e).1; omega
theorem writable_fold {ws : List Wr} (h : ws ≠ foldW ws) : writable ws = false := by
  rw [Bool.eq_false_iff]; intro e; exact h ((writable_iff ws).1 e).2.1
theorem writable_each {ws : List Wr} {k : Nat} (hk : k < ws.length) (h : mayW ws[k] = false) : writable ws = false := by
  rw [Bool.eq_false_iff]; intro e; rw [((writable_iff ws).1 e).2.2 _ (List.getElem_mem hk)] at h; cases h
theorem writable_yes {ws : List Wr} (h1 : ws.length ≤ 128) (h2 : ws = foldW ws) (h3 : ∀ j (h : j < ws.length), mayW ws[j] = true) : writable ws = true :=
  (writable_iff ws).2 ⟨h1, h2, fun x hx => by obtain ⟨i, hi, rfl⟩ := List.getElem_of_mem hx; exact h3 i hi⟩
theorem mayW_not {x : Wr} (h : ¬ (1 ≤ x.vol ∧ x.vol ≤ 255 ∧ 0 ≤ x.block ∧ x.block ≤ 31 ∧ x.data.size ≤ 8)) : mayW x = false := by unfold mayW; exact decide_eq_false h

set_option maxHeartbeats 4000000 in
set_option maxRecDepth 100000 in
theorem writable17_any {w : World} {A : Option Addr} {c : Nat} {ws : List Wr} (h : WrsAt w w.heap.size A ws) (hl : ws.length ≤ 9223372036854775807) :
    Calls Try.prog 17 #[.slice A ws.length c] w fun e w' => e = .returned (.bool (writable ws)) ∧ Below w.heap.size w w' := by
  have HW := Lib.hid h
  obtain ⟨b, hb⟩ : ∃ b, writable ws = b := ⟨_, rfl⟩
  have HF := Lib.hid hb
  by_cases h128 : 128 < ws.length
  · have HE : Hid (b = false) := Lib.hid (by rw [← hb]; exact writable_long h128)
    rw [hb]
    obtain ⟨n, hn⟩ : ∃ n, ws.length = n := ⟨_, rfl⟩
    rw [hn] at h128 ⊢
    have h128' : (128 : Int) < (n : Int) := by omega
    clear h hb hn hl
    go_enter Try.func17, Try.ntmps17
    go_wp2_with fail
    go_ret
    rw [HE.out]
    exact ⟨rfl, Below.refl _ _⟩
  have HFo := Lib.hid (RefFold_any (c := c) h (by omega))
  have HEq := Lib.hid (fun W A2 c2 (hb : Below w.heap.size w W) (h2 : WrsAt W W.heap.size A2 (foldW ws)) => RefEqW_any (c1 := c) (c2 := c2) (h.next hb) h2 hl)
  have HFd := Lib.hid (@writable_fold ws)
  obtain ⟨fw, hfw⟩ : ∃ f, foldW ws = f := ⟨_, rfl⟩
  rw [hfw] at HFo HEq HFd
  have HFw := Lib.hid hfw
  rw [hb]
  obtain ⟨n, hn⟩ : ∃ n, ws.length = n := ⟨_, rfl⟩
  have HN := Lib.hid hn
  rw [hn] at h128 HFo HEq ⊢
  have h128' : ¬ (128 : Int) < (n : Int) := by omega
  clear h hb hn hl hfw
  by_cases he : ws = fw
  case neg =>
    have HE : Hid (b = false) := Lib.hid (by rw [← HF.out]; exact HFd.out he)
    rw [eqW_ne he] at HEq
    clear he
    go_enter Try.func17, Try.ntmps17
    go_wp2_with (first
      | (go_at_call 41; (with_reducible refine HFo.out.mono ?_); rintro e w1 ⟨A1, c1, rfl, hw1, _, hb1⟩; have HW1 := Lib.hid hw1; have HB1 := Lib.hid hb1; clear hw1 hb1)
      | (go_at_call 21; (with_reducible refine (HEq.out _ _ _ HB1.out HW1.out).mono ?_); rintro e w2 ⟨rfl, hb2⟩; have HB2 := Lib.hid (below_next HB1.out hb2); clear hb2))
    go_ret
    rw [HE.out]
    exact ⟨rfl, HB2.out⟩
  subst he
  rw [eqW_self] at HEq
  clear HFd
  go_enter Try.func17, Try.ntmps17
  go_wp2_with (first
    | (go_at_call 41; (with_reducible refine HFo.out.mono ?_); rintro e w1 ⟨A1, c1, rfl, hw1, _, hb1⟩; have HW1 := Lib.hid hw1; have HB1 := Lib.hid hb1; clear hw1 hb1)
    | (go_at_call 21; (with_reducible refine (HEq.out _ _ _ HB1.out HW1.out).mono ?_); rintro e w2 ⟨rfl, hb2⟩; have HB2 := Lib.hid (below_next HB1.out hb2); clear hb2))
  have HWf := Lib.hid (HW.out.next HB2.out)
  go_loop [3] (fun i => ∃ k : Nat, k ≤ n ∧ i = .int .i64 k ∧ Hid (∀ j, j < k → ∀ (h : j < ws.length), mayW ws[j] = true)) (fun i => n - (intOf i).toNat)
  case atStart => exact ⟨0, by omega, rfl, Lib.hid (fun j hj => by omega)⟩
  case round =>
    obtain ⟨k, hk, rfl, HJ⟩ := hrel
    by_cases hkn : k < n
    · have hkl : k < ws.length := by rw [HN.out]; exact hkn
      obtain ⟨bb, off, rfl, hbl, hcs⟩ := HWf.out.at_ (Below.refl _ _) hkl
      obtain ⟨x0, x1, x2⟩ := hcs
      have HNo := Lib.hid (fun h => @writable_each ws k hkl h)
      obtain ⟨p, hp⟩ : ∃ p, ws[k] = p := ⟨_, rfl⟩
      have HP := Lib.hid hp
      rw [hp] at x0 x1 x2 HNo
      obtain ⟨v, bl, d⟩ := p
      dsimp only at x0 x1 x2
      have hkn2 : (k : Int) < (n : Int) := by omega
      have hk0 : (0 : Int) ≤ (k : Int) := by omega
      clear hp
      by_cases q0 : v < 1
      · have HE : Hid (b = false) := Lib.hid (by rw [← HF.out]; exact HNo.out (mayW_not (fun e => by dsimp only at e; omega)))
        go_wp2_with fail
        go_ret
        rw [HE.out]
        exact ⟨rfl, HB2.out⟩
      by_cases q1 : 255 < v
      · have HE : Hid (b = false) := Lib.hid (by rw [← HF.out]; exact HNo.out (mayW_not (fun e => by dsimp only at e; omega)))
        go_wp2_with fail
        go_ret
        rw [HE.out]
        exact ⟨rfl, HB2.out⟩
      by_cases q2 : bl < 0
      · have HE : Hid (b = false) := Lib.hid (by rw [← HF.out]; exact HNo.out (mayW_not (fun e => by dsimp only at e; omega)))
        go_wp2_with fail
        go_ret
        rw [HE.out]
        exact ⟨rfl, HB2.out⟩
      by_cases q3 : 31 < bl
      · have HE : Hid (b = false) := Lib.hid (by rw [← HF.out]; exact HNo.out (mayW_not (fun e => by dsimp only at e; omega)))
        go_wp2_with fail
        go_ret
        rw [HE.out]
        exact ⟨rfl, HB2.out⟩
      by_cases q4 : 8 < d.size
      · have q4' : (8 : Int) < (d.size : Int) := by omega
        have HE : Hid (b = false) := Lib.hid (by rw [← HF.out]; exact HNo.out (mayW_not (fun e => by dsimp only at e; omega)))
        go_wp2_with fail
        go_ret
        rw [HE.out]
        exact ⟨rfl, HB2.out⟩
      have q4' : ¬ (8 : Int) < (d.size : Int) := by omega
      have HJ2 : Hid (∀ j, j < k + 1 → ∀ (h : j < ws.length), mayW ws[j] = true) := Lib.hid (fun j hj h => by
        by_cases e : j < k
        · exact HJ.out j e h
        · have e2 : j = k := by omega
          subst e2
          rw [HP.out]
          exact (mayW_iff _).2 ⟨by dsimp only; omega, by dsimp only; omega, by dsimp only; omega, by dsimp only; omega, by dsimp only; omega⟩)
      go_wp2_with fail
      go_round
      case rel => exact ⟨k + 1, by omega, by go_num, HJ2⟩
      case measure => simp [intOf]; omega
    · have HE : Hid (b = true) := Lib.hid (by rw [← HF.out]; exact writable_yes (by have := HN.out; omega) HFw.out.symm (fun j h => HJ.out j (by have := HN.out; omega) h))
      have hkn2 : ¬ (k : Int) < (n : Int) := by omega
      go_wp2_with fail
      go_ret
      rw [HE.out]
      exact ⟨rfl, HB2.out⟩
end Go.Proofs.Ytkpoeigoocbgeaa
