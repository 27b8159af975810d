/- Lineages: contracts of Epoch and diverge. -/
import Derived.Test.YtokdicaoonjimaaLineC
namespace Go.Proofs.Ytokdicaoonjimaa
open Go.RowKit

def epAll (e s : Int) : List Br → Int
  | [] => e
  | x :: r => epAll (if x.2 < s then x.1 else e) s r
theorem epAll_late {e s e' a : Int} {l : List Br} (h : lineFrom e' a l = true) (ha : s ≤ a) : epAll e s l = e := by
  induction l generalizing e e' a with
  | nil => rfl
  | cons x r ih =>
    obtain ⟨h1, h2⟩ := lineFrom_cons h
    rw [epAll, if_neg (by omega)]
    exact ih h2 (by omega)
theorem epAll_from {e s e' a : Int} {l : List Br} (h : lineFrom e' a l = true) : epAll e s l = epochFrom e s l := by
  induction l generalizing e e' a with
  | nil => rfl
  | cons x r ih =>
    obtain ⟨h1, h2⟩ := lineFrom_cons h
    rw [epAll, epochFrom]
    by_cases hx : x.2 < s
    · rw [if_pos hx, if_pos hx]; exact ih h2
    · rw [if_neg hx, if_neg hx]; exact epAll_late h2 (by omega)
theorem epochP_ok {l : List Br} {q s : Int} (h : placedB l q = true) (h1 : 1 ≤ s) (h2 : s ≤ q) : epochP l q s = epAll 0 s l := by
  unfold epochP epochB
  rw [if_pos ⟨h, h1, h2⟩, epAll_from ((lineOk_iff l).1 ((placedB_iff l q).1 h).1).2.2]
theorem epochP_no {l : List Br} {q s : Int} (h : placedB l q = false) : epochP l q s = 0 := by unfold epochP; rw [if_neg (by rw [h]; simp)]
theorem epochP_low {l : List Br} {q s : Int} (h : s < 1) : epochP l q s = 0 := by unfold epochP; rw [if_neg (by omega)]
theorem epochP_high {l : List Br} {q s : Int} (h : q < s) : epochP l q s = 0 := by unfold epochP; rw [if_neg (by omega)]
theorem BrsAt.in_ {w w' : World} {A : Option Addr} {l : List Br} (h : BrsAt w w.heap.size A l) (hb : Below w.heap.size w w') : BrsAt w' w'.heap.size A l := h.next hb

set_option maxHeartbeats 4000000 in
set_option maxRecDepth 100000 in
theorem Epoch_any {w : World} {A : Option Addr} {c : Nat} {l : List Br} {q : Int} (s : Int) (h : BrsAt w w.heap.size A l) (hl : l.length ≤ 9223372036854775807) :
    Calls Try.prog 20 #[.agg #[.slice A l.length c, .int .i64 q], .int .i64 s] w fun r w' => r = .returned (.int .i64 (epochP l q s)) ∧ Below w.heap.size w w' := by
  have HX := Lib.hid (PosBox.of (heap_new w (.cells #[.slice A l.length c, .int .i64 q] 36 (0, 0))))
  have HBV := Lib.hid (below_one w (.cells #[.slice A l.length c, .int .i64 q] 36 (0, 0)))
  have HP := Lib.hid (Placed_any (c := c) (q := q) (h.next HBV.out) hl)
  have HAt := Lib.hid (h.next HBV.out)
  cases hok : placedB l q with
  | false =>
    rw [epochP_no hok]
    rw [hok] at HP
    go_enter Try.func20, Try.ntmps20
    go_wp2_with fail
    refine HP.out.mono ?_
    rintro e w1 ⟨rfl, hb1⟩
    have HB1 := Lib.hid (below_next HBV.out hb1)
    clear hb1
    go_wp2_with fail
    go_ret
    exact ⟨rfl, HB1.out⟩
  | true =>
  rw [hok] at HP
  cases h1 : decide (s < 1) with
  | true =>
    rw [epochP_low (of_decide_eq_true h1)]
    go_enter Try.func20, Try.ntmps20
    go_wp2_with fail
    refine HP.out.mono ?_
    rintro e w1 ⟨rfl, hb1⟩
    have HB1 := Lib.hid (below_next HBV.out hb1)
    clear hb1
    go_wp2_with fail
    go_ret
    exact ⟨rfl, HB1.out⟩
  | false =>
  have HS1 : Hid (1 ≤ s) := Lib.hid (by have := of_decide_eq_false h1; omega)
  cases h2 : decide (q < s) with
  | true =>
    rw [epochP_high (of_decide_eq_true h2)]
    go_enter Try.func20, Try.ntmps20
    go_wp2_with fail
    refine HP.out.mono ?_
    rintro e w1 ⟨rfl, hb1⟩
    have HB1 := Lib.hid (below_next HBV.out hb1)
    have c0 : w1.cell? ⟨w.heap.size, 0, none⟩ = some (.slice A l.length c) := HX.out.c0 ⟨w1, hb1⟩
    have c1 : w1.cell? ⟨w.heap.size, 1, none⟩ = some (.int .i64 q) := HX.out.c1 ⟨w1, hb1⟩
    clear hb1
    go_wp2_with fail
    go_ret
    exact ⟨rfl, HB1.out⟩
  | false =>
    have HE : Hid (epochP l q s = epAll 0 s l) := Lib.hid (epochP_ok hok HS1.out (by have := of_decide_eq_false h2; omega))
    obtain ⟨ep, hep⟩ : ∃ ep, epochP l q s = ep := ⟨_, rfl⟩
    rw [hep] at HE ⊢
    obtain ⟨n, hn⟩ : ∃ n, l.length = n := ⟨_, rfl⟩
    have HN := Lib.hid hn
    rw [hn] at HP HX hl ⊢
    rw [hn] at HBV HAt
    clear h hn hep
    go_enter Try.func20, Try.ntmps20
    go_wp2_with fail
    refine HP.out.mono ?_
    rintro e w1 ⟨rfl, hb1⟩
    have HB1 := Lib.hid (below_next HBV.out hb1)
    have HAt1 := Lib.hid (HAt.out.next hb1)
    have c0 : w1.cell? ⟨w.heap.size, 0, none⟩ = some (.slice A n c) := HX.out.c0 ⟨w1, hb1⟩
    have c1 : w1.cell? ⟨w.heap.size, 1, none⟩ = some (.int .i64 q) := HX.out.c1 ⟨w1, hb1⟩
    clear hb1
    go_wp2_with fail
    go_loopg [5, 24] n (fun kx eo i wr => ∃ (k : Nat) (e : Int), k ≤ n ∧ n - k ≤ kx ∧ i = .int .i64 k ∧ eo = .int .i64 e ∧ Hid (ep = epAll e s (l.drop k)) ∧ Hid (Below w1.heap.size w1 wr))
    case atStart => exact ⟨0, 0, Nat.zero_le _, by omega, rfl, rfl, HE, Lib.hid (Below.refl _ _)⟩
    case round =>
      obtain ⟨k, e, hk, hkx, rfl, rfl, HF, HB⟩ := hrel
      by_cases hlt2 : k < n
      · have hk1 : k < l.length := by rw [HN.out]; exact hlt2
        obtain ⟨b1, o1, hA1, _, y1, y2⟩ := HAt1.out.at_ HB.out hk1
        cases hA1
        have HD : Hid (ep = epAll (if l[k].2 < s then l[k].1 else e) s (l.drop (k + 1))) := Lib.hid (by rw [HF.out, drop_at hk1]; rfl)
        obtain ⟨v1, hv1⟩ : ∃ v, l[k].1 = v := ⟨_, rfl⟩
        obtain ⟨v2, hv2⟩ : ∃ v, l[k].2 = v := ⟨_, rfl⟩
        rw [hv1] at y1 HD
        rw [hv2] at y2 HD
        clear hv1 hv2 hk1 HF
        have hk0 : (0 : Int) ≤ (k : Int) := Int.natCast_nonneg _
        have hk8 : (k : Int) < (n : Int) := by omega
        cases hr : decide (v2 < s) with
        | false =>
          have HD2 : Hid (ep = epAll e s (l.drop (k + 1))) := Lib.hid (by rw [HD.out, if_neg (of_decide_eq_false hr)])
          clear HD
          go_wp2_with fail
          go_roundg (n - (k + 1))
          case measure => omega
          case rel => exact ⟨k + 1, e, by omega, Nat.le_refl _, by go_num, rfl, HD2, Lib.hid (HB.out.alloc HB.out.size _)⟩
        | true =>
          have HD2 : Hid (ep = epAll v1 s (l.drop (k + 1))) := Lib.hid (by rw [HD.out, if_pos (of_decide_eq_true hr)])
          clear HD
          go_wp2_with fail
          go_roundg (n - (k + 1))
          case measure => omega
          case rel => exact ⟨k + 1, v1, by omega, Nat.le_refl _, by go_num, rfl, HD2, Lib.hid (HB.out.alloc HB.out.size _)⟩
      · have hltz : ¬ (k : Int) < (n : Int) := by omega
        have HE2 : Hid (ep = e) := Lib.hid (by rw [HF.out, List.drop_eq_nil_of_le (by rw [HN.out]; omega)]; rfl)
        go_wp2_with fail
        go_ret
        exact ⟨by rw [HE2.out]; rfl, below_next HB1.out HB.out⟩
end Go.Proofs.Ytokdicaoonjimaa
