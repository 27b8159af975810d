/- Lineages: contract of the document's Right. -/
import Derived.Test.YtokdicaoonjimaaLineH
namespace Go.Proofs.Ytokdicaoonjimaa
open Go.RowKit

/-- What the loop of the document's Right knows ahead of branch k: the branch ahead of it is (e, a). -/
structure RInv (l : List Br) (k : Nat) (e a : Int) : Prop where
  e0 : 0 ≤ e
  a0 : 0 ≤ a
  first : k = 0 → lineOk l = (headZero l && lineFrom 0 0 l) ∧ e = 0 ∧ a = 0
  later : 0 < k → lineOk l = lineFrom e a (l.drop k) ∧ l[k - 1]? = some (e, a)
theorem RInv.start {l : List Br} (h : l.length ≤ 64) : RInv l 0 0 0 := ⟨by omega, by omega, fun _ => ⟨by unfold lineOk; rw [decide_eq_true h]; rfl, rfl, rfl⟩, fun h => by omega⟩
theorem lineFrom_bad {e a : Int} {x : Br} {r : List Br} (h : ¬ (e < x.1 ∧ x.1 ≤ 1099511627776 ∧ a ≤ x.2 ∧ x.2 ≤ 1099511627776)) : lineFrom e a (x :: r) = false := by
  rw [Bool.eq_false_iff]; intro g; exact h (lineFrom_cons g).1
theorem RInv.bad {l : List Br} {k : Nat} {e a : Int} (h : RInv l k e a) (hk : k < l.length) {x : Br} (hx : l[k] = x) (hb : ¬ (e < x.1 ∧ x.1 ≤ 1099511627776 ∧ a ≤ x.2 ∧ x.2 ≤ 1099511627776)) : lineOk l = false := by
  have hd := drop_at hk
  rw [hx] at hd
  by_cases h0 : k = 0
  · obtain ⟨h1, h2, h3⟩ := h.first h0
    subst h0
    rw [List.drop_zero] at hd
    rw [h1]
    have := lineFrom_bad (r := l.drop 1) hb
    rw [h2, h3] at this
    rw [show l = x :: l.drop 1 from hd, this, Bool.and_false]
  · rw [(h.later (by omega)).1, hd]; exact lineFrom_bad hb
theorem RInv.head {l : List Br} {e a : Int} (h : RInv l 0 e a) (hk : 0 < l.length) {x : Br} (hx : l[0] = x) (hb : ¬ x.2 = 0) : lineOk l = false := by
  cases l with
  | nil => simp at hk
  | cons y r => simp only [List.getElem_cons_zero] at hx; subst hx; exact lineOk_head hb
theorem RInv.step {l : List Br} {k : Nat} {e a : Int} (h : RInv l k e a) (hk : k < l.length) {x : Br} (hx : l[k] = x) (hb : e < x.1 ∧ x.1 ≤ 1099511627776 ∧ a ≤ x.2 ∧ x.2 ≤ 1099511627776) (h0 : k = 0 → x.2 = 0) : RInv l (k + 1) x.1 x.2 := by
  have hd := drop_at hk
  rw [hx] at hd
  refine ⟨by have := h.e0; omega, by have := h.a0; omega, fun h => by omega, fun _ => ⟨?_, by rw [Nat.add_sub_cancel, List.getElem?_eq_getElem hk, hx]⟩⟩
  by_cases hk0 : k = 0
  · obtain ⟨h1, h2, h3⟩ := h.first hk0
    subst hk0
    rw [List.drop_zero] at hd
    rw [h1]
    have e1 : headZero l = true := by rw [hd]; simp only [headZero, beq_iff_eq]; exact h0 rfl
    rw [e1, Bool.true_and]
    have e2 : lineFrom 0 0 l = (brOk 0 0 x && lineFrom x.1 x.2 (l.drop 1)) := by
      have : lineFrom 0 0 (x :: l.drop 1) = (brOk 0 0 x && lineFrom x.1 x.2 (l.drop 1)) := rfl
      rw [← hd] at this; exact this
    rw [h2, h3] at hb
    rw [e2, (brOk_iff 0 0 x).2 hb, Bool.true_and]
  · rw [(h.later (by omega)).1, hd]
    show (brOk e a x && lineFrom x.1 x.2 (l.drop (k + 1))) = _
    rw [(brOk_iff e a x).2 hb, Bool.true_and]
theorem RInv.done {l : List Br} {k : Nat} {e a : Int} (h : RInv l k e a) (hk : l.length ≤ k) (h0 : 0 < k) : lineOk l = true := by
  rw [(h.later h0).1, List.drop_eq_nil_of_le hk]; rfl

set_option maxHeartbeats 8000000 in
set_option maxRecDepth 100000 in
theorem DRight_any {w : World} {A : Option Addr} {c : Nat} {l : List Br} (h : BrsAt w w.heap.size A l) (hl : l.length ≤ 9223372036854775807) :
    Calls Try.prog 14 #[.slice A l.length c] w fun r w' => r = .returned (.bool (lineOk l)) ∧ Below w.heap.size w w' := by
  have mixed : Try.prog.follows .mixedOrders = true := by kernel_rfl
  by_cases hz0 : l.length = 0
  · obtain rfl : l = [] := List.eq_nil_of_length_eq_zero hz0
    rw [lineOk_nil]
    clear h hl hz0
    go_enter Try.func14, Try.ntmps14
    go_wp2_with fail
    go_ret
    exact ⟨rfl, Below.refl _ _⟩
  obtain ⟨n, hn⟩ : ∃ n, l.length = n := ⟨_, rfl⟩
  have HN := Lib.hid hn
  have hn0 : 0 < n := by omega
  rw [hn] at hl ⊢
  have hz : ((n : Int) == 0) = false := by rw [beq_eq_false_iff_ne]; omega
  by_cases h64 : 64 < n
  · have hd : decide ((64 : Int) < (n : Int)) = true := by rw [decide_eq_true_iff]; omega
    have HE : Hid (lineOk l = false) := Lib.hid (lineOk_long (by omega))
    clear h hn hl h64
    go_enter Try.func14, Try.ntmps14
    go_wp2_with fail
    go_ret
    exact ⟨by rw [HE.out]; rfl, Below.refl _ _⟩
  have hd : decide ((64 : Int) < (n : Int)) = false := by rw [decide_eq_false_iff_not]; omega
  have HI0 := Lib.hid (RInv.start (l := l) (by omega))
  have H := Lib.hid h
  clear h hn hz0
  go_enter Try.func14, Try.ntmps14
  go_wp2_with fail
  go_loopg [3] n (fun kx i wr => ∃ (k : Nat) (e a : Int), k ≤ n ∧ n - k ≤ kx ∧ i = .int .i64 k ∧ Hid (RInv l k e a) ∧ Hid (Below w.heap.size w wr))
  case atStart => exact ⟨0, 0, 0, Nat.zero_le _, by omega, rfl, HI0, Lib.hid (Below.refl _ _)⟩
  case round =>
    obtain ⟨k, e, a, hk, hkx, rfl, HI, HB⟩ := hrel
    by_cases hlt2 : k < n
    · have hk1 : k < l.length := by rw [HN.out]; exact hlt2
      obtain ⟨b, off, hA, _, x1, x2⟩ := H.out.at_ HB.out hk1
      cases hA
      obtain ⟨x, hx⟩ : ∃ x, l[k] = x := ⟨_, rfl⟩
      rw [hx] at x1 x2
      have HBad := Lib.hid (HI.out.bad hk1 hx)
      have HStep := Lib.hid (HI.out.step hk1 hx)
      have HHead : Hid (k = 0 → ¬ x.2 = 0 → lineOk l = false) := Lib.hid (fun h0 h1 => by subst h0; exact HI.out.head hk1 hx h1)
      have he0 := HI.out.e0
      have ha0 := HI.out.a0
      obtain ⟨v1, v2⟩ := x
      simp only at x1 x2 HBad HStep HHead
      have hk0 : (0 : Int) ≤ (k : Int) := Int.natCast_nonneg _
      have hk8 : (k : Int) < (n : Int) := by omega
      clear hx
      cases k1 : decide (v1 < 1) with
      | true =>
        have HE : Hid (lineOk l = false) := Lib.hid (HBad.out (by have := of_decide_eq_true k1; omega))
        clear HBad HStep HHead HI
        go_wp2_with fail
        go_ret
        exact ⟨by rw [HE.out]; rfl, HB.out⟩
      | false =>
      cases k2 : decide (1099511627776 < v1) with
      | true =>
        have HE : Hid (lineOk l = false) := Lib.hid (HBad.out (by have := of_decide_eq_true k2; omega))
        clear HBad HStep HHead HI
        go_wp2_with fail
        go_ret
        exact ⟨by rw [HE.out]; rfl, HB.out⟩
      | false =>
      cases k3 : decide (v2 < 0) with
      | true =>
        have HE : Hid (lineOk l = false) := Lib.hid (HBad.out (by have := of_decide_eq_true k3; omega))
        clear HBad HStep HHead HI
        go_wp2_with fail
        go_ret
        exact ⟨by rw [HE.out]; rfl, HB.out⟩
      | false =>
      cases k4 : decide (1099511627776 < v2) with
      | true =>
        have HE : Hid (lineOk l = false) := Lib.hid (HBad.out (by have := of_decide_eq_true k4; omega))
        clear HBad HStep HHead HI
        go_wp2_with fail
        go_ret
        exact ⟨by rw [HE.out]; rfl, HB.out⟩
      | false =>
      have k1p := of_decide_eq_false k1
      have k2p := of_decide_eq_false k2
      have k3p := of_decide_eq_false k3
      have k4p := of_decide_eq_false k4
      by_cases hk00 : k = 0
      · subst hk00
        obtain ⟨rfl, rfl⟩ := (HI.out.first rfl).2
        rw [Nat.zero_mul, Nat.add_zero] at x1 x2
        by_cases hv : v2 = 0
        · have HS : Hid (RInv l (0 + 1) v1 v2) := Lib.hid (HStep.out ⟨by omega, by omega, by omega, by omega⟩ (fun _ => hv))
          subst hv
          clear HBad HStep HHead HI k1p k2p k3p k4p he0 ha0
      
          go_wp2_with fail
          go_quiet (fail)
          go_wp2_with fail
          go_roundg (n - (0 + 1))
          case measure => omega
          case rel => exact ⟨0 + 1, v1, 0, by omega, Nat.le_refl _, by go_num, HS, Lib.hid (HB.out.trans ⟨rfl, rfl, rfl, Nat.le_refl _, fun _ _ => rfl⟩)⟩
        · have HE : Hid (lineOk l = false) := Lib.hid (HHead.out rfl hv)
          have hvb : (v2 != 0) = true := by rw [bne_iff_ne]; exact hv
          clear HBad HStep HHead HI k1p k2p k3p k4p he0 ha0
          go_wp2_with fail
          go_ret
          exact ⟨by rw [HE.out]; rfl, HB.out⟩
      · obtain ⟨j, rfl⟩ : ∃ j, k = j + 1 := ⟨k - 1, by omega⟩
        have hp := (HI.out.later (by omega)).2
        rw [Nat.add_sub_cancel] at hp
        obtain ⟨hj, hpj⟩ := List.getElem?_eq_some_iff.1 hp
        obtain ⟨b2, off2, hA2, _, y1, y2⟩ := H.out.at_ HB.out hj
        cases hA2
        rw [hpj] at y1 y2
        simp only at y1 y2
        clear hp hpj
        have hj0 : (0 : Int) ≤ (j : Int) := Int.natCast_nonneg _
        have hj8 : (j : Int) + 1 < (n : Int) := by omega
        have hgt : decide ((0 : Int) < (j : Int) + 1) = true := by rw [decide_eq_true_iff]; omega
        have hnz : ((j : Int) + 1 == 0) = false := by rw [beq_eq_false_iff_ne]; omega
        cases k5 : decide (v1 ≤ e) with
        | true =>
          have HE : Hid (lineOk l = false) := Lib.hid (HBad.out (by have := of_decide_eq_true k5; omega))
          clear HBad HStep HHead HI k1p k2p k3p k4p he0 ha0
          go_wp2_with fail
          go_quiet (fail)
          go_wp2_with fail
          go_ret
          exact ⟨by rw [HE.out]; rfl, HB.out.trans ⟨rfl, rfl, rfl, Nat.le_refl _, fun _ _ => rfl⟩⟩
        | false =>
        cases k6 : decide (v2 < a) with
        | true =>
          have HE : Hid (lineOk l = false) := Lib.hid (HBad.out (by have := of_decide_eq_true k6; omega))
          clear HBad HStep HHead HI k1p k2p k3p k4p he0 ha0
          go_wp2_with fail
          go_quiet (fail)
          go_wp2_with fail
          go_ret
          exact ⟨by rw [HE.out]; rfl, HB.out.trans ⟨rfl, rfl, rfl, Nat.le_refl _, fun _ _ => rfl⟩⟩
        | false =>
          have HS : Hid (RInv l (j + 1 + 1) v1 v2) := Lib.hid (HStep.out ⟨by have := of_decide_eq_false k5; omega, by omega, by have := of_decide_eq_false k6; omega, by omega⟩ (fun h => by omega))
          clear HBad HStep HHead HI k1p k2p k3p k4p he0 ha0
          go_wp2_with fail
          go_quiet (fail)
          go_wp2_with fail
          go_roundg (n - (j + 1 + 1))
          case measure => omega
          case rel => exact ⟨j + 1 + 1, v1, v2, by omega, Nat.le_refl _, by go_num, HS, Lib.hid (HB.out.trans ⟨rfl, rfl, rfl, Nat.le_refl _, fun _ _ => rfl⟩)⟩
    · have hltz : ¬ (k : Int) < (n : Int) := by omega
      have HE : Hid (lineOk l = true) := Lib.hid (HI.out.done (by rw [HN.out]; omega) (by omega))
      go_wp2_with fail
      go_ret
      exact ⟨by rw [HE.out]; rfl, HB.out⟩
end Go.Proofs.Ytokdicaoonjimaa
