/- Contract of the document's Equal. -/
import Derived.Test.YtaenlcokgplgkaaVolL
namespace Go.Proofs.Ytaenlcokgplgkaa
open Go.RowKit

theorem bytes_list (s : ByteArray) : s.toList = s.data.toList := by
  exact Lib.toList_data s
theorem text_ne {s t : ByteArray} (h : s ≠ t) : (s.toList == t.toList) = false := by
  rw [beq_eq_false_iff_ne, bytes_list, bytes_list]
  intro e
  exact h (by rw [← str_of s, ← str_of t, e])
theorem text_eq (s : ByteArray) : (s.toList == s.toList) = true := by simp

def eqB (a b : List Vl) : Bool := decide (a = b)
theorem eqB_len {a b : List Vl} (h : a.length ≠ b.length) : eqB a b = false := by
  unfold eqB; rw [decide_eq_false_iff_not]; intro e; exact h (by rw [e])
theorem eqB_at {a b : List Vl} {k : Nat} (h1 : k < a.length) (h2 : k < b.length) (h : a[k] ≠ b[k]) : eqB a b = false := by
  unfold eqB; rw [decide_eq_false_iff_not]; intro e; subst e; exact h rfl
theorem take_eq_step {α : Type} {a b : List α} {k : Nat} (h : a.take k = b.take k) (h1 : k < a.length) (h2 : k < b.length) (he : a[k] = b[k]) : a.take (k + 1) = b.take (k + 1) := by
  rw [List.take_succ_eq_append_getElem h1, List.take_succ_eq_append_getElem h2, h, he]
theorem take_eq_all {α : Type} {a b : List α} {k : Nat} (h : a.take k = b.take k) (h1 : a.length ≤ k) (h2 : b.length ≤ k) : a = b := by
  rwa [List.take_of_length_le h1, List.take_of_length_le h2] at h
theorem ne_at {α : Type} {a b : List α} {k : Nat} (h1 : k < a.length) (h2 : k < b.length) (h : a[k] ≠ b[k]) : a ≠ b := by
  intro e; subst e; exact h rfl

set_option maxHeartbeats 4000000 in
set_option maxRecDepth 100000 in
theorem RefEqual_any {w : World} {A1 A2 : Option Addr} {c1 c2 : Nat} {xs ys : List Vl} (h1 : VolsAt w w.heap.size A1 xs) (h2 : VolsAt w w.heap.size A2 ys) (hf1 : VolsFit xs) (hf2 : VolsFit ys) :
    Calls Try.prog 19 #[.slice A1 xs.length c1, .slice A2 ys.length c2] w fun e w' => e = .returned (.bool (eqB xs ys)) ∧ Below w.heap.size w w' := by
  by_cases hlen : xs.length = ys.length
  · have H1 := Lib.hid h1
    have H2 := Lib.hid h2
    have F1 := Lib.hid hf1
    have F2 := Lib.hid hf2
    have hl := hf1.1
    obtain ⟨n, hn⟩ : ∃ n, xs.length = n := ⟨_, rfl⟩
    have HN1 := Lib.hid hn
    have HN2 : Hid (ys.length = n) := Lib.hid (by rw [← hlen]; exact hn)
    rw [← hlen, hn]
    rw [hn] at hl
    clear h1 h2 hf1 hf2 hn hlen
    go_enter Try.func19, Try.ntmps19
    go_wp2
    go_loopw [5] (fun i wr => ∃ k : Nat, k ≤ n ∧ i = .int .i64 k ∧ Hid (xs.take k = ys.take k) ∧ Hid (Below w.heap.size w wr)) (fun i _ => n - (intOf i).toNat)
    case atStart => exact ⟨0, Nat.zero_le _, rfl, Lib.hid (by simp), Lib.hid (Below.refl _ _)⟩
    case round =>
      obtain ⟨k, hk, rfl, HK, HB⟩ := hrel
      by_cases hlt : k < n
      · have hk1 : k < xs.length := by rw [HN1.out]; exact hlt
        have hk2 : k < ys.length := by rw [HN2.out]; exact hlt
        obtain ⟨b1, o1, a1, d1, hA1, _, x1, x2, ly1⟩ := H1.out.at_ HB.out hk1
        obtain ⟨b2, o2, a2, d2, hA2, _, y1, y2, ly2⟩ := H2.out.at_ HB.out hk2
        subst hA1
        subst hA2
        have L1 := Lib.hid ly1
        have L2 := Lib.hid ly2
        have HNo : Hid (xs[k] ≠ ys[k] → eqB xs ys = false) := Lib.hid (fun h => eqB_at hk1 hk2 h)
        have HYes : Hid (xs[k] = ys[k] → xs.take (k + 1) = ys.take (k + 1)) := Lib.hid (fun h => take_eq_step HK.out hk1 hk2 h)
        have hq1 := F1.out.2 _ (List.getElem_mem hk1)
        obtain ⟨u, hu⟩ : ∃ u, xs[k] = u := ⟨_, rfl⟩
        obtain ⟨v, hv⟩ : ∃ v, ys[k] = v := ⟨_, rfl⟩
        rw [hu] at x1 x2 L1 HNo HYes hq1
        rw [hv] at y1 y2 L2 HNo HYes
        clear hu hv hk1 hk2 ly1 ly2 HK
        obtain ⟨i1, bs1⟩ := u
        obtain ⟨i2, bs2⟩ := v
        simp only at x1 x2 L1 y1 y2 L2 hq1
        have hk0 : (0 : Int) ≤ (k : Int) := Int.natCast_nonneg _
        have hk8 : (k : Int) < (n : Int) := by omega
        by_cases he : i1 = i2
        · have he' : (i1 != i2) = false := by simp [he]
          by_cases hm : bs1.length = bs2.length
          · have HM1 : Hid (bs1.length = bs2.length) := Lib.hid hm
            obtain ⟨m, hm1⟩ : ∃ m, bs1.length = m := ⟨_, rfl⟩
            have HMx := Lib.hid hm1
            rw [hm1] at x2 hq1
            rw [← hm, hm1] at y2
            have hmm : ((m : Int) != (m : Int)) = false := by simp
            have HNo2 : Hid (bs1 ≠ bs2 → eqB xs ys = false) := Lib.hid (fun h => HNo.out (fun e => h (by cases e; rfl)))
            have HYes2 : Hid (bs1 = bs2 → xs.take (k + 1) = ys.take (k + 1)) := Lib.hid (fun h => HYes.out (by rw [he, h]))
            clear hm hm1 HNo HYes he
            go_wp2
            go_quiet (fail)
            have x2' : (wr.drewN nq).cell? ⟨b1, o1 + k * 2 + 1, none⟩ = some (.slice a1 m d1) := x2
            have y2' : (wr.drewN nq).cell? ⟨b2, o2 + k * 2 + 1, none⟩ = some (.slice a2 m d2) := y2
            have HB' : Hid (Below w.heap.size w (wr.drewN nq)) := Lib.hid (below_q HB.out nq)
            have L1' : Hid (Lies (wr.drewN nq) w.heap.size a1 (bs1.map Value.string)) := Lib.hid L1.out
            have L2' : Hid (Lies (wr.drewN nq) w.heap.size a2 (bs2.map Value.string)) := Lib.hid L2.out
            clear x1 x2 y1 y2 L1 L2 he' hmm
            generalize wr.drewN nq = W at *
            go_wp2
            go_loopw [6] (fun j W2 => ∃ q z : Nat, q ≤ m ∧ j = .int .i64 q ∧ Hid (bs1.take q = bs2.take q) ∧ W2 = W.drewN z) (fun j _ => m - (intOf j).toNat)
            case atStart => exact ⟨0, 0, Nat.zero_le _, rfl, Lib.hid (by simp), rfl⟩
            case round =>
              obtain ⟨q, z, hq, rfl, HQ, rfl⟩ := hrel
              by_cases hqm : q < m
              · have hl1 : q < bs1.length := by rw [HMx.out]; exact hqm
                have hl2 : q < bs2.length := by rw [← HM1.out]; exact hl1
                obtain ⟨e1, f1, hA1, _, s1⟩ := L1'.out.text (Below.refl _ _) hl1
                obtain ⟨e2, f2, hA2, _, s2⟩ := L2'.out.text (Below.refl _ _) hl2
                subst hA1
                subst hA2
                have HStep : Hid (bs1[q] = bs2[q] → bs1.take (q + 1) = bs2.take (q + 1)) := Lib.hid (fun h => take_eq_step HQ.out hl1 hl2 h)
                have HNe : Hid (bs1[q] ≠ bs2[q] → eqB xs ys = false) := Lib.hid (fun h => HNo2.out (ne_at hl1 hl2 h))
                obtain ⟨s, hs⟩ : ∃ s, bs1[q] = s := ⟨_, rfl⟩
                obtain ⟨t, ht⟩ : ∃ t, bs2[q] = t := ⟨_, rfl⟩
                rw [hs] at s1 HStep HNe
                rw [ht] at s2 HStep HNe
                clear hs ht hl1 hl2 HQ
                have hq0 : (0 : Int) ≤ (q : Int) := Int.natCast_nonneg _
                have hq8 : (q : Int) < (m : Int) := by omega
                by_cases hst : s = t
                · have HS := Lib.hid (HStep.out hst)
                  subst hst
                  clear HStep HNe
                  go_wp2
                  go_quiet (fail)
                  go_wp2
                  go_roundw
                  case rel => exact ⟨q + 1, z + nq, by omega, by go_num, HS, rfl⟩
                  case measure => simp [intOf]; omega
                · have hne := text_ne hst
                  have HF := Lib.hid (HNe.out hst)
                  clear HStep HNe hst
                  go_wp2
                  go_quiet (fail)
                  go_wp2
                  go_ret
                  exact ⟨by rw [HF.out]; rfl, below_q (below_q HB'.out _) _⟩
              · have HS := Lib.hid (HYes2.out (take_eq_all HQ.out (by rw [HMx.out]; omega) (by rw [← HM1.out, HMx.out]; omega)))
                go_wp2
                go_roundw
                case rel => exact ⟨k + 1, by omega, by go_num, HS, Lib.hid (below_q HB'.out _)⟩
                case measure => simp [intOf]; omega
          · have hm' : ((bs1.length : Int) != (bs2.length : Int)) = true := by rw [bne_iff_ne]; omega
            have HF : Hid (eqB xs ys = false) := Lib.hid (HNo.out (fun e => hm (by cases e; rfl)))
            clear HNo HYes he L1 L2 hm
            go_wp2
            go_quiet (fail)
            go_wp2
            go_ret
            exact ⟨by rw [HF.out]; rfl, below_q HB.out _⟩
        · have he' : (i1 != i2) = true := by simp [he]
          have HF : Hid (eqB xs ys = false) := Lib.hid (HNo.out (fun e => he (by cases e; rfl)))
          clear HNo HYes he L1 L2
          go_wp2
          go_quiet (fail)
          go_wp2
          go_ret
          exact ⟨by rw [HF.out]; rfl, below_q HB.out _⟩
      · have HE : Hid (eqB xs ys = true) := Lib.hid (by
          unfold eqB
          rw [decide_eq_true_iff]
          exact take_eq_all HK.out (by rw [HN1.out]; omega) (by rw [HN2.out]; omega))
        go_wp2
        go_ret
        exact ⟨by rw [HE.out]; rfl, HB.out⟩
  · rw [eqB_len hlen]
    have hne : ((xs.length : Int) != (ys.length : Int)) = true := by rw [bne_iff_ne]; omega
    clear h1 h2 hf1 hf2
    go_enter Try.func19, Try.ntmps19
    go_wp2
    go_ret
    exact ⟨rfl, Below.refl _ _⟩
end Go.Proofs.Ytaenlcokgplgkaa
