/- Contracts of slices.Equal (texts), isEqual, slices.EqualFunc of it, and Same. -/
import Derived.Test.YtpmllckfijfehaaVolN
namespace Go.Proofs.Ytpmllckfijfehaa
open Go.RowKit

def eqT (a b : List ByteArray) : Bool := decide (a = b)

set_option maxHeartbeats 1600000 in
theorem EqualS_any {w : World} {a1 a2 : Option Addr} {d1 d2 : Nat} {xs ys : List ByteArray} (h1 : Lies w w.heap.size a1 (xs.map Value.string)) (h2 : Lies w w.heap.size a2 (ys.map Value.string)) (hl : xs.length ≤ 9223372036854775807) :
    Calls Try.prog 62 #[.slice a1 xs.length d1, .slice a2 ys.length d2] w fun e w' => e = .returned (.bool (eqT xs ys)) ∧ Below w.heap.size w w' := by
  by_cases hlen : xs.length = ys.length
  · have H1 := Lib.hid h1
    have H2 := Lib.hid h2
    obtain ⟨n, hn⟩ : ∃ n, xs.length = n := ⟨_, rfl⟩
    have HN1 := Lib.hid hn
    have HN2 : Hid (ys.length = n) := Lib.hid (by rw [← hlen]; exact hn)
    rw [← hlen, hn]
    rw [hn] at hl
    clear h1 h2 hn hlen
    go_enter Try.func62, Try.ntmps62
    go_wp2
    go_loopw [13] (fun i wr => ∃ k z : Nat, k ≤ n ∧ i = .int .i64 k ∧ Hid (xs.take k = ys.take k) ∧ wr = w.drewN z) (fun i _ => n - (intOf i).toNat)
    case atStart => exact ⟨0, 0, Nat.zero_le _, rfl, Lib.hid (by simp), rfl⟩
    case round =>
      obtain ⟨k, z, hk, rfl, HK, rfl⟩ := hrel
      by_cases hlt : k < n
      · have hk1 : k < xs.length := by rw [HN1.out]; exact hlt
        have hk2 : k < ys.length := by rw [HN2.out]; exact hlt
        obtain ⟨e1, f1, hA1, _, s1⟩ := H1.out.text (Below.refl _ _) hk1
        obtain ⟨e2, f2, hA2, _, s2⟩ := H2.out.text (Below.refl _ _) hk2
        subst hA1
        subst hA2
        have HStep : Hid (xs[k] = ys[k] → xs.take (k + 1) = ys.take (k + 1)) := Lib.hid (fun h => take_eq_step HK.out hk1 hk2 h)
        have HNe : Hid (xs[k] ≠ ys[k] → eqT xs ys = false) := Lib.hid (fun h => by unfold eqT; rw [decide_eq_false_iff_not]; exact ne_at hk1 hk2 h)
        obtain ⟨s, hs⟩ : ∃ s, xs[k] = s := ⟨_, rfl⟩
        obtain ⟨t, ht⟩ : ∃ t, ys[k] = t := ⟨_, rfl⟩
        rw [hs] at s1 HStep HNe
        rw [ht] at s2 HStep HNe
        clear hs ht hk1 hk2 HK
        have hq0 : (0 : Int) ≤ (k : Int) := Int.natCast_nonneg _
        have hq8 : (k : Int) < (n : Int) := by omega
        by_cases hst : s = t
        · have HS := Lib.hid (HStep.out hst)
          subst hst
          clear HStep HNe
          go_wp2
          go_quiet (fail)
          go_wp2
          go_roundw
          case rel => exact ⟨k + 1, z + nq, by omega, by go_num, HS, rfl⟩
          case measure => simp [intOf]; omega
        · have hne := text_ne hst
          have HF := Lib.hid (HNe.out hst)
          clear HStep HNe hst
          go_wp2
          go_quiet (fail)
          go_wp2
          go_ret
          exact ⟨by rw [HF.out]; rfl, below_q (below_q (Below.refl _ _) _) _⟩
      · have HE : Hid (eqT xs ys = true) := Lib.hid (by
          unfold eqT
          rw [decide_eq_true_iff]
          exact take_eq_all HK.out (by rw [HN1.out]; omega) (by rw [HN2.out]; omega))
        go_wp2
        go_ret
        exact ⟨by rw [HE.out]; rfl, below_q (Below.refl _ _) _⟩
  · have he : eqT xs ys = false := by unfold eqT; rw [decide_eq_false_iff_not]; intro e; exact hlen (by rw [e])
    rw [he]
    have hne : ((xs.length : Int) != (ys.length : Int)) = true := by rw [bne_iff_ne]; omega
    clear h1 h2 he
    go_enter Try.func62, Try.ntmps62
    go_wp2
    go_ret
    exact ⟨rfl, Below.refl _ _⟩

def eqV (a b : Vl) : Bool := decide (a = b)
theorem eqV_of (i : Int) (xs ys : List ByteArray) : eqV (i, xs) (i, ys) = eqT xs ys := by
  unfold eqV eqT
  by_cases h : xs = ys <;> simp [h]

set_option maxHeartbeats 800000 in
theorem isEqual_any {w : World} {a1 a2 : Option Addr} {d1 d2 : Nat} {i1 i2 : Int} {xs ys : List ByteArray} (h1 : Lies w w.heap.size a1 (xs.map Value.string)) (h2 : Lies w w.heap.size a2 (ys.map Value.string)) (hl : xs.length ≤ 9223372036854775807) :
    Calls Try.prog 50 #[.agg #[.int .i64 i1, .slice a1 xs.length d1], .agg #[.int .i64 i2, .slice a2 ys.length d2]] w fun e w' => e = .returned (.bool (eqV (i1, xs) (i2, ys))) ∧ Below w.heap.size w w' := by
  by_cases he : i1 = i2
  · subst he
    rw [eqV_of]
    have H : Hid (∀ o1 o2 d1 d2, Calls Try.prog 62 #[.slice a1 xs.length d1, .slice a2 ys.length d2] ((w.alloc o1).alloc o2) fun e w' => e = .returned (.bool (eqT xs ys)) ∧ Below ((w.alloc o1).alloc o2).heap.size ((w.alloc o1).alloc o2) w') := Lib.hid (fun o1 o2 d1 d2 => by
      have hb : Below w.heap.size w ((w.alloc o1).alloc o2) := ((Below.refl _ _).alloc (Nat.le_refl _) _).alloc (by simp) _
      exact EqualS_any (h1.next hb) (h2.next hb) hl)
    clear h1 h2
    go_enter Try.func50, Try.ntmps50
    go_wp2_with (go_at_call 62; refine (H.out _ _ _ _).mono ?_; rintro e w1 ⟨rfl, hb⟩; replace hb := Lib.hid hb)
    go_ret
    exact ⟨rfl, below_next (((Below.refl _ _).alloc (Nat.le_refl _) _).alloc (by simp) _) hb.out⟩
  · rw [show eqV (i1, xs) (i2, ys) = false from by unfold eqV; rw [decide_eq_false_iff_not]; intro e; cases e; exact he rfl]
    have he' : (i1 == i2) = false := by simp [he]
    clear h1 h2
    go_enter Try.func50, Try.ntmps50
    go_wp2_with fail
    go_ret
    exact ⟨rfl, ((Below.refl _ _).alloc (Nat.le_refl _) _).alloc (by simp) _⟩

set_option maxHeartbeats 1600000 in
theorem EqualFunc_any {w : World} {A1 A2 : Option Addr} {c1 c2 : Nat} {xs ys : List Vl} (h1 : VolsAt w w.heap.size A1 xs) (h2 : VolsAt w w.heap.size A2 ys) (hf1 : VolsFit xs) :
    Calls Try.prog 49 #[.slice A1 xs.length c1, .slice A2 ys.length c2, .func (.func 50) #[] #[]] w fun e w' => e = .returned (.bool (eqB xs ys)) ∧ Below w.heap.size w w' := by
  by_cases hlen : xs.length = ys.length
  · have H1 := Lib.hid h1
    have H2 := Lib.hid h2
    have F1 := Lib.hid hf1
    have hl := hf1.1
    obtain ⟨n, hn⟩ : ∃ n, xs.length = n := ⟨_, rfl⟩
    have HN1 := Lib.hid hn
    have HN2 : Hid (ys.length = n) := Lib.hid (by rw [← hlen]; exact hn)
    rw [← hlen, hn]
    rw [hn] at hl
    clear h1 h2 hf1 hn hlen
    go_enter Try.func49, Try.ntmps49
    go_wp2_with fail
    go_loopw [17] (fun i wr => ∃ k : Nat, k ≤ n ∧ i = .int .i64 k ∧ Hid (xs.take k = ys.take k) ∧ Hid (Below w.heap.size w wr)) (fun i _ => n - (intOf i).toNat)
    case atStart => exact ⟨0, Nat.zero_le _, rfl, Lib.hid (by simp), Lib.hid (Below.refl _ _)⟩
    case round =>
      obtain ⟨k, hk, rfl, HK, HB⟩ := hrel
      by_cases hlt : k < n
      · have hk1 : k < xs.length := by rw [HN1.out]; exact hlt
        have hk2 : k < ys.length := by rw [HN2.out]; exact hlt
        obtain ⟨b1, o1, a1, d1, hA1, hbl1, x1, x2, ly1⟩ := H1.out.at_ HB.out hk1
        obtain ⟨b2, o2, a2, d2, hA2, hbl2, y1, y2, ly2⟩ := H2.out.at_ HB.out hk2
        have hwz : w.heap.size ≤ wr.heap.size := HB.out.size
        have hbw1 : b1 < wr.heap.size := by omega
        have hbw2 : b2 < wr.heap.size := by omega
        subst hA1
        subst hA2
        have hq1 := F1.out.2 _ (List.getElem_mem hk1)
        have HNo : Hid (eqV xs[k] ys[k] = false → eqB xs ys = false) := Lib.hid (fun h => eqB_at hk1 hk2 (of_decide_eq_false h))
        have HYes : Hid (eqV xs[k] ys[k] = true → xs.take (k + 1) = ys.take (k + 1)) := Lib.hid (fun h => take_eq_step HK.out hk1 hk2 (of_decide_eq_true h))
        have HC : Hid (∀ p1 p2, Calls Try.prog 50 #[.agg #[.int .i64 xs[k].1, .slice a1 xs[k].2.length d1], .agg #[.int .i64 ys[k].1, .slice a2 ys[k].2.length d2]] ((wr.alloc p1).alloc p2) fun e w' => e = .returned (.bool (eqV xs[k] ys[k])) ∧ Below w.heap.size w w') := Lib.hid (fun p1 p2 => by
          have hb : Below wr.heap.size wr ((wr.alloc p1).alloc p2) := ((Below.refl _ _).alloc (Nat.le_refl _) _).alloc (by simp) _
          exact (isEqual_any ((ly1.more hwz).next hb) ((ly2.more hwz).next hb) hq1).mono (fun e w' ⟨he, hb2⟩ => ⟨he, HB.out.trans ((below_next hb hb2).mono hwz)⟩))
        obtain ⟨u, hu⟩ : ∃ u, xs[k] = u := ⟨_, rfl⟩
        obtain ⟨v, hv⟩ : ∃ v, ys[k] = v := ⟨_, rfl⟩
        rw [hu] at x1 x2 HNo HYes HC
        rw [hv] at y1 y2 HNo HYes HC
        clear hu hv hk1 hk2 ly1 ly2 HK hq1
        obtain ⟨i1, bs1⟩ := u
        obtain ⟨i2, bs2⟩ := v
        simp only at x1 x2 y1 y2 HC
        cases he : eqV (i1, bs1) (i2, bs2) with
        | true =>
          have HS := Lib.hid (HYes.out he)
          rw [he] at HC
          clear HNo HYes he
          go_wp2_with (go_at_call 50; refine (HC.out _ _).mono ?_; rintro e w1 ⟨rfl, hb⟩; replace hb := Lib.hid hb)
          go_roundw
          case rel => exact ⟨k + 1, by omega, by go_num, HS, hb⟩
          case measure => simp [intOf]; omega
        | false =>
          have HF := Lib.hid (HNo.out he)
          rw [he] at HC
          clear HNo HYes he
          go_wp2_with (go_at_call 50; refine (HC.out _ _).mono ?_; rintro e w1 ⟨rfl, hb⟩; replace hb := Lib.hid hb)
          go_ret
          exact ⟨by rw [HF.out]; rfl, hb.out⟩
      · have HE : Hid (eqB xs ys = true) := Lib.hid (by
          unfold eqB
          rw [decide_eq_true_iff]
          exact take_eq_all HK.out (by rw [HN1.out]; omega) (by rw [HN2.out]; omega))
        go_wp2_with fail
        go_ret
        exact ⟨by rw [HE.out]; rfl, HB.out⟩
  · rw [eqB_len hlen]
    have hne : ((xs.length : Int) != (ys.length : Int)) = true := by rw [bne_iff_ne]; omega
    clear h1 h2 hf1
    go_enter Try.func49, Try.ntmps49
    go_wp2_with fail
    go_ret
    exact ⟨rfl, Below.refl _ _⟩

theorem sameB_eq (a b : List Vl) : sameB a b = (rightB a && rightB b && eqB a b) := rfl

set_option maxHeartbeats 800000 in
theorem Same_any {w : World} {A1 A2 : Option Addr} {c1 c2 : Nat} {xs ys : List Vl} (h1 : VolsAt w w.heap.size A1 xs) (h2 : VolsAt w w.heap.size A2 ys) (hf1 : VolsFit xs) (hf2 : VolsFit ys) :
    Calls Try.prog 31 #[.slice A1 xs.length c1, .slice A2 ys.length c2] w fun e w' => e = .returned (.bool (sameB xs ys)) ∧ Below w.heap.size w w' := by
  have H1 := Lib.hid h1
  have H2 := Lib.hid h2
  have F1 := Lib.hid hf1
  have F2 := Lib.hid hf2
  rw [sameB_eq]
  have C1 : Hid (∀ c, Calls Try.prog 48 #[.slice A1 xs.length c] w fun e w' => e = .returned (.bool (rightB xs)) ∧ Below w.heap.size w w') := Lib.hid (fun c => Right_any h1 hf1)
  have C2 : Hid (∀ w1 c, Below w.heap.size w w1 → Calls Try.prog 48 #[.slice A2 ys.length c] w1 fun e w' => e = .returned (.bool (rightB ys)) ∧ Below w.heap.size w w') := Lib.hid (fun w1 c hb => (Right_any (h2.next hb) hf2).mono (fun e w' ⟨he, hb2⟩ => ⟨he, below_next hb hb2⟩))
  have C3 : Hid (∀ w1 d1 d2, Below w.heap.size w w1 → Calls Try.prog 49 #[.slice A1 xs.length d1, .slice A2 ys.length d2, .func (.func 50) #[] #[]] w1 fun e w' => e = .returned (.bool (eqB xs ys)) ∧ Below w.heap.size w w') := Lib.hid (fun w1 d1 d2 hb => (EqualFunc_any (h1.next hb) (h2.next hb) hf1).mono (fun e w' ⟨he, hb2⟩ => ⟨he, below_next hb hb2⟩))
  clear h1 h2 hf1 hf2
  cases r1 : rightB xs with
  | false =>
    rw [r1] at C1
    clear r1
    simp only [Bool.false_and]
    go_enter Try.func31, Try.ntmps31
    go_wp2_with fail
    refine (C1.out _).mono ?_
    rintro e w1 ⟨rfl, hb⟩
    replace hb := Lib.hid hb
    go_wp2_with fail
    go_ret
    exact ⟨rfl, hb.out⟩
  | true =>
    rw [r1] at C1
    clear r1
    cases r2 : rightB ys with
    | false =>
      rw [r2] at C2
      clear r2
      simp only [Bool.and_false, Bool.false_and]
      go_enter Try.func31, Try.ntmps31
      go_wp2_with fail
      refine (C1.out _).mono ?_
      rintro e w1 ⟨rfl, hb⟩
      replace hb := Lib.hid hb
      go_wp2_with fail
      refine (C2.out _ _ hb.out).mono ?_
      rintro e w2 ⟨rfl, hb2⟩
      replace hb2 := Lib.hid hb2
      go_wp2_with fail
      go_ret
      exact ⟨rfl, hb2.out⟩
    | true =>
      rw [r2] at C2
      clear r2
      simp only [Bool.true_and]
      go_enter Try.func31, Try.ntmps31
      go_wp2_with fail
      refine (C1.out _).mono ?_
      rintro e w1 ⟨rfl, hb⟩
      replace hb := Lib.hid hb
      go_wp2_with fail
      refine (C2.out _ _ hb.out).mono ?_
      rintro e w2 ⟨rfl, hb2⟩
      replace hb2 := Lib.hid hb2
      go_wp2_with fail
      refine (C3.out _ _ _ hb2.out).mono ?_
      rintro e w3 ⟨rfl, hb3⟩
      replace hb3 := Lib.hid hb3
      go_wp2_with fail
      go_ret
      exact ⟨rfl, hb3.out⟩
end Go.Proofs.Ytpmllckfijfehaa
