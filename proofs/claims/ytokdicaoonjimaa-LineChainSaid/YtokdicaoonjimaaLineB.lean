/- Lineages: contract of Right. -/
import Derived.Test.YtokdicaoonjimaaLineA
namespace Go.Proofs.Ytokdicaoonjimaa
open Go.RowKit

theorem lineOk_nil : lineOk [] = false := by simp [lineOk, headZero]
theorem lineOk_long {l : List Br} (h : 64 < l.length) : lineOk l = false := by
  rw [Bool.eq_false_iff]; intro e; have := ((lineOk_iff l).1 e).1; omega
theorem lineOk_head {x : Br} {r : List Br} (h : x.2 ≠ 0) : lineOk (x :: r) = false := by
  rw [Bool.eq_false_iff]; intro e; have := ((lineOk_iff _).1 e).2.1; simp [headZero] at this; exact h this
theorem lineOk_rest {x : Br} {r : List Br} (h : (x :: r).length ≤ 64) (h0 : x.2 = 0) : lineOk (x :: r) = lineFrom 0 0 (x :: r) := by
  rw [Bool.eq_iff_iff, lineOk_iff]; simp only [headZero, h0, beq_self_eq_true, true_and]
  exact ⟨fun e => e.2, fun e => ⟨h, e⟩⟩
theorem drop_at {l : List Br} {k : Nat} (h : k < l.length) : l.drop k = l[k] :: l.drop (k + 1) := List.drop_eq_getElem_cons h
/-- A row of two cells in memory. -/
structure TwoAtB (w : World) (b : Nat) (e a : Int) : Prop where
  row : w.heap[b]? = some (.cells #[.int .i64 e, .int .i64 a] 31 (0, 0))
theorem TwoAtB.c0 {w : World} {b : Nat} {e a : Int} (h : TwoAtB w b e a) : w.cell? ⟨b, 0, none⟩ = some (.int .i64 e) := by rw [Lib.cell_of_heap h.row]; rfl
theorem TwoAtB.c1 {w : World} {b : Nat} {e a : Int} (h : TwoAtB w b e a) : w.cell? ⟨b, 1, none⟩ = some (.int .i64 a) := by rw [Lib.cell_of_heap h.row]; rfl
theorem TwoAtB.fz {w : World} {b : Nat} {e a : Int} (h : TwoAtB w b e a) : ∀ j, w.frozen? ⟨b, j, none⟩ = false := fun j => Lib.frozen_of_heap h.row j
theorem TwoAtB.new (w : World) (e a : Int) : TwoAtB (w.alloc (.cells #[.int .i64 e, .int .i64 a] 31)) w.heap.size e a := ⟨by show (w.heap.push _)[w.heap.size]? = _; simp⟩
theorem TwoAtB.lt {w : World} {b : Nat} {e a : Int} (h : TwoAtB w b e a) : b < w.heap.size := (Array.getElem?_eq_some_iff.1 h.row).1
theorem TwoAtB.below {w w' : World} {b : Nat} {e a : Int} (h : TwoAtB w b e a) (hb : Below w.heap.size w w') : TwoAtB w' b e a := ⟨by rw [hb.block b h.lt]; exact h.row⟩
theorem TwoAtB.set {w : World} {b : Nat} {e a : Int} (h : TwoAtB w b e a) (x y : Int) : TwoAtB ((w.setCell ⟨b, 0, none⟩ (.int .i64 x)).setCell ⟨b, 1, none⟩ (.int .i64 y)) b x y := ⟨row_set (row_set h.row 0 _) 1 _⟩

set_option maxHeartbeats 4000000 in
set_option maxRecDepth 100000 in
theorem Right_any {w : World} {A : Option Addr} {c : Nat} {l : List Br} (h : BrsAt w w.heap.size A l) (hl : l.length ≤ 9223372036854775807) :
    Calls Try.prog 16 #[.slice A l.length c] w fun r w' => r = .returned (.bool (lineOk l)) ∧ Below w.heap.size w w' := by
  cases l with
  | nil =>
    rw [lineOk_nil]
    go_enter Try.func16, Try.ntmps16
    go_wp2_with fail
    go_ret
    exact ⟨rfl, Below.refl _ _⟩
  | cons x r =>
  obtain ⟨m, hm⟩ : ∃ m, m = x :: r := ⟨_, rfl⟩
  obtain ⟨n, hn⟩ : ∃ n, m.length = n := ⟨_, rfl⟩
  have hn0 : 0 < n := by rw [← hn, hm]; simp
  rw [← hm, hn] at hl ⊢
  rw [← hm] at h
  have hz : ((n : Int) == 0) = false := by rw [beq_eq_false_iff_ne]; omega
  by_cases h64 : 64 < n
  · have hd : decide ((64 : Int) < (n : Int)) = true := by rw [decide_eq_true_iff]; omega
    rw [lineOk_long (by omega)]
    clear h hm hn hl h64
    go_enter Try.func16, Try.ntmps16
    go_wp2_with fail
    go_ret
    exact ⟨rfl, Below.refl _ _⟩
  · have hd : decide ((64 : Int) < (n : Int)) = false := by rw [decide_eq_false_iff_not]; omega
    obtain ⟨b, off, hA, hlt, x1, x2⟩ := h.at_ (Below.refl _ _) (i := 0) (by omega)
    subst hA
    have e0 : m[0]'(by omega) = x := by subst hm; rfl
    rw [e0, Nat.zero_mul, Nat.add_zero] at x1 x2
    by_cases hx : x.2 = 0
    · rw [hx] at x2
      have HOK : Hid (lineOk m = lineFrom 0 0 m) := Lib.hid (by rw [hm]; exact lineOk_rest (by rw [← hm]; omega) hx)
      have H := Lib.hid h
      have HN := Lib.hid hn
      clear h hm hn hx e0 x1
      go_enter Try.func16, Try.ntmps16
      go_wp2_with fail
      go_loopg [23] n (fun kx i wr => ∃ (k : Nat) (e a : Int), k ≤ n ∧ n - k ≤ kx ∧ i = .int .i64 k ∧ Hid (lineFrom 0 0 m = lineFrom e a (m.drop k)) ∧ Hid (Below w.heap.size w wr) ∧ Hid (TwoAtB wr w.heap.size e a))
      case atStart => exact ⟨0, 0, 0, Nat.zero_le _, by omega, rfl, Lib.hid rfl, Lib.hid ((Below.refl _ _).alloc (Nat.le_refl _) _), Lib.hid (TwoAtB.new w 0 0)⟩
      case round =>
        obtain ⟨k, e, a, hk, hkx, rfl, HF, HB, HT⟩ := hrel
        by_cases hlt2 : k < n
        · have hk1 : k < m.length := by rw [HN.out]; exact hlt2
          obtain ⟨b1, o1, hA1, _, y1, y2⟩ := H.out.at_ HB.out hk1
          cases hA1
          have HD : Hid (∀ u v, m[k] = (u, v) → lineFrom 0 0 m = (brOk e a (u, v) && lineFrom u v (m.drop (k + 1)))) := Lib.hid (fun u v huv => by rw [HF.out, drop_at hk1, huv]; rfl)
          obtain ⟨v1, hv1⟩ : ∃ v, m[k].1 = v := ⟨_, rfl⟩
          obtain ⟨v2, hv2⟩ : ∃ v, m[k].2 = v := ⟨_, rfl⟩
          have HE := Lib.hid (HD.out v1 v2 (Prod.ext hv1 hv2))
          rw [hv1] at y1
          rw [hv2] at y2
          have t0 : ∀ o, (wr.alloc o).cell? ⟨w.heap.size, 0, none⟩ = some (.int .i64 e) := fun o => (HT.out.below ((Below.refl _ _).alloc (Nat.le_refl _) o)).c0
          have t1 : ∀ o, (wr.alloc o).cell? ⟨w.heap.size, 1, none⟩ = some (.int .i64 a) := fun o => (HT.out.below ((Below.refl _ _).alloc (Nat.le_refl _) o)).c1
          have HT1 : Hid (∀ o, TwoAtB (wr.alloc o) w.heap.size e a) := Lib.hid (fun o => HT.out.below ((Below.refl _ _).alloc (Nat.le_refl _) o))
          have HN1 := Lib.hid (TwoAtB.new wr v1 v2)
          have HB1 : Hid (∀ o, Below w.heap.size w (wr.alloc o)) := Lib.hid (fun o => HB.out.alloc HB.out.size o)
          have HFo := Lib.hid (fun w => follows_any e a v1 v2 w)
          clear hv1 hv2 HD hk1 HF
          have hk0 : (0 : Int) ≤ (k : Int) := Int.natCast_nonneg _
          have hk8 : (k : Int) < (n : Int) := by omega
          cases hr : brOk e a (v1, v2) with
          | false =>
            rw [hr] at HFo HE
            go_wp2_with fail
            refine (HFo.out _).mono ?_
            rintro e2 w2 ⟨rfl, hb2⟩
            replace hb2 := Lib.hid hb2
            go_wp2_with fail
            go_ret
            exact ⟨by rw [HOK.out, HE.out]; rfl, (HB1.out _).trans (hb2.out.mono (HB1.out _).size)⟩
          | true =>
            rw [hr] at HFo HE
            go_wp2_with fail
            refine (HFo.out _).mono ?_
            rintro e2 w2 ⟨rfl, hb2⟩
            have HT2 := Lib.hid ((HT1.out _).below hb2)
            have HN2 := Lib.hid (HN1.out.below hb2)
            have HB2 := Lib.hid ((HB1.out _).trans (hb2.mono (HB1.out _).size))
            have c0 := HN2.out.c0
            have c1 := HN2.out.c1
            have d0 := HT2.out.c0
            have d1 := HT2.out.c1
            have df := HT2.out.fz
            clear hb2 t0 t1
            go_wp2_with fail
            go_roundg (n - (k + 1))
            case measure => omega
            case rel => exact ⟨k + 1, v1, v2, by omega, Nat.le_refl _, by go_num, Lib.hid (by rw [HE.out]; rfl), Lib.hid ((HB2.out.setCell (p := ⟨w.heap.size, 0, none⟩) (Nat.le_refl _) _).setCell (p := ⟨w.heap.size, 1, none⟩) (Nat.le_refl _) _), Lib.hid (HT2.out.set v1 v2)⟩
        · have hltz : ¬ (k : Int) < (n : Int) := by omega
          have HE : Hid (lineFrom 0 0 m = true) := Lib.hid (by rw [HF.out, List.drop_eq_nil_of_le (by rw [HN.out]; omega)]; rfl)
          go_wp2_with fail
          go_ret
          exact ⟨by rw [HOK.out, HE.out]; rfl, HB.out⟩
    · have hne : (x.2 != 0) = true := by rw [bne_iff_ne]; exact hx
      have HE : Hid (lineOk m = false) := Lib.hid (by rw [hm]; exact lineOk_head hx)
      clear h hm hn hl hx e0 x1
      go_enter Try.func16, Try.ntmps16
      go_wp2_with fail
      go_ret
      exact ⟨by rw [HE.out]; rfl, Below.refl _ _⟩
end Go.Proofs.Ytokdicaoonjimaa
