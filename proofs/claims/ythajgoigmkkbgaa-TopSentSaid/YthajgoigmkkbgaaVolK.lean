/- The laws' fixed answer (awake); the document's Small, Right and Get. Contract of the document's Right. Contract of the document's Equal. Contracts of slices.Equal (texts), isEqual, slices.EqualFunc of it, and Same. Contract of slices.Delete of one volume. Contracts of Drop and Resize of the package vols. Contracts of Check and Apply of the package vols. -/
import Derived.Test.YthajgoigmkkbgaaVolA
import Derived.Test.YthajgoigmkkbgaaVolP
import Derived.StillTailTactics
namespace Go.Proofs.Ythajgoigmkkbgaa
open Go.RowKit

theorem add_seven : addV [] 7 2 = [(7, blankB 2)] ∧ addE [] 7 2 = 0 := ⟨by decide, by decide⟩
theorem right_seven : rightB [(7, blankB 2)] = true := by decide

/-! ### The document's answer: Small, Right, Get -/

def smallB (vs : List Vl) (m : Nat) : Bool := decide (vs.length ≤ 10) && (decide (m ≤ 200) && vs.all (fun v => decide (v.2.length ≤ 100)))
theorem smallB_iff (vs : List Vl) (m : Nat) : smallB vs m = true ↔ vs.length ≤ 10 ∧ m ≤ 200 ∧ ∀ v ∈ vs, v.2.length ≤ 100 := by simp [smallB]

theorem gotN_hit {vs : List Vl} {vol block : Int} {k : Nat} (h : gotE vs vol block = gotE (vs.drop k) vol block ∧ gotS vs vol block = gotS (vs.drop k) vol block) (hk : k < vs.length) (h1 : vs[k].1 = vol) :
    gotE vs vol block = (if inB vs[k].2 block = true then 0 else 10) ∧ gotS vs vol block = (if inB vs[k].2 block = true then vs[k].2.getD block.toNat ByteArray.empty else ByteArray.empty) := by
  obtain ⟨e1, e2⟩ := h
  rw [drop_at hk] at e1 e2
  rw [gotE, if_pos h1] at e1
  rw [gotS, if_pos h1] at e2
  exact ⟨e1, e2⟩
theorem gotN_step {vs : List Vl} {vol block : Int} {k : Nat} (h : gotE vs vol block = gotE (vs.drop k) vol block ∧ gotS vs vol block = gotS (vs.drop k) vol block) (hk : k < vs.length) (h1 : ¬ vs[k].1 = vol) :
    gotE vs vol block = gotE (vs.drop (k + 1)) vol block ∧ gotS vs vol block = gotS (vs.drop (k + 1)) vol block := by
  obtain ⟨e1, e2⟩ := h
  rw [drop_at hk] at e1 e2
  rw [gotE, if_neg h1] at e1
  rw [gotS, if_neg h1] at e2
  exact ⟨e1, e2⟩

end Go.Proofs.Ythajgoigmkkbgaa

namespace Go.Proofs.Ythajgoigmkkbgaa
open Go.RowKit

/-- What Right asks of one volume, piece by piece. -/
def badB (vs : List Vl) (k : Nat) (v : Vl) : Prop := ¬ (lastOf vs k < v.1) ∨ ¬ (shapeB v.1 v.2.length = true)
theorem good_bad {vs : List Vl} {k : Nat} (h : goodN vs k) (hk : k < vs.length) (hb : badB vs k vs[k]) : goodFrom 0 vs = false := by
  rw [goodN_step h hk]
  unfold volOk
  rcases hb with hb | hb
  · simp [hb]
  · simp [hb]
theorem good_long {vs : List Vl} {k : Nat} (h : goodN vs k) (hk : k < vs.length) (hb : vs[k].2.all shortB = false) : goodFrom 0 vs = false := by
  rw [goodN_step h hk]
  unfold volOk
  simp [hb]
theorem good_next {vs : List Vl} {k : Nat} (h : goodN vs k) (hk : k < vs.length) (h1 : lastOf vs k < vs[k].1) (h2 : shapeB vs[k].1 vs[k].2.length = true) (h3 : vs[k].2.all shortB = true) : goodN vs (k + 1) := by
  have := goodN_step h hk
  unfold volOk at this
  rw [h2, h3, decide_eq_true h1] at this
  show _ = _
  simpa using this

end Go.Proofs.Ythajgoigmkkbgaa

namespace Go.Proofs.Ythajgoigmkkbgaa
open Go.RowKit

theorem bytes_list (s : ByteArray) : s.toList = s.data.toList := by
  exact Lib.toList_data s
theorem text_ne {s t : ByteArray} (h : s ≠ t) : (s.toList == t.toList) = false := by
  rw [beq_eq_false_iff_ne, bytes_list, bytes_list]
  intro e
  exact h (by rw [← str_of s, ← str_of t, e])
theorem text_eq (s : ByteArray) : (s.toList == s.toList) = true := by simp

def eqB (a b : List Vl) : Bool := decide (a = b)
theorem eqB_len {a b : List Vl} (h : a.length ≠ b.length) : eqB a b = false := by
  unfold eqB; rw [decide_eq_false_iff_not]; intro e; exact h (by rw [e])
theorem eqB_at {a b : List Vl} {k : Nat} (h1 : k < a.length) (h2 : k < b.length) (h : a[k] ≠ b[k]) : eqB a b = false := by
  unfold eqB; rw [decide_eq_false_iff_not]; intro e; subst e; exact h rfl
theorem take_eq_step {α : Type} {a b : List α} {k : Nat} (h : a.take k = b.take k) (h1 : k < a.length) (h2 : k < b.length) (he : a[k] = b[k]) : a.take (k + 1) = b.take (k + 1) := by
  rw [List.take_succ_eq_append_getElem h1, List.take_succ_eq_append_getElem h2, h, he]
theorem take_eq_all {α : Type} {a b : List α} {k : Nat} (h : a.take k = b.take k) (h1 : a.length ≤ k) (h2 : b.length ≤ k) : a = b := by
  rwa [List.take_of_length_le h1, List.take_of_length_le h2] at h
theorem ne_at {α : Type} {a b : List α} {k : Nat} (h1 : k < a.length) (h2 : k < b.length) (h : a[k] ≠ b[k]) : a ≠ b := by
  intro e; subst e; exact h rfl

end Go.Proofs.Ythajgoigmkkbgaa

namespace Go.Proofs.Ythajgoigmkkbgaa
open Go.RowKit

def eqT (a b : List ByteArray) : Bool := decide (a = b)

set_option maxHeartbeats 1600000 in
theorem EqualS_any {w : World} {a1 a2 : Option Addr} {d1 d2 : Nat} {xs ys : List ByteArray} (h1 : Lies w w.heap.size a1 (xs.map Value.string)) (h2 : Lies w w.heap.size a2 (ys.map Value.string)) (hl : xs.length ≤ 9223372036854775807) :
    Calls Try.prog 67 #[.slice a1 xs.length d1, .slice a2 ys.length d2] w fun e w' => e = .returned (.bool (eqT xs ys)) ∧ Below w.heap.size w w' := by
  by_cases hlen : xs.length = ys.length
  · have H1 := Lib.hid h1
    have H2 := Lib.hid h2
    obtain ⟨n, hn⟩ : ∃ n, xs.length = n := ⟨_, rfl⟩
    have HN1 := Lib.hid hn
    have HN2 : Hid (ys.length = n) := Lib.hid (by rw [← hlen]; exact hn)
    rw [← hlen, hn]
    rw [hn] at hl
    clear h1 h2 hn hlen
    go_enter Try.func67, Try.ntmps67
    go_wp2
    go_loopw [13] (fun i wr => ∃ k z : Nat, k ≤ n ∧ i = .int .i64 k ∧ Hid (xs.take k = ys.take k) ∧ wr = w.drewN z) (fun i _ => n - (intOf i).toNat)
    case atStart => exact ⟨0, 0, Nat.zero_le _, rfl, Lib.hid (by simp), rfl⟩
    case round =>
      obtain ⟨k, z, hk, rfl, HK, rfl⟩ := hrel
      by_cases hlt : k < n
      · have hk1 : k < xs.length := by rw [HN1.out]; exact hlt
        have hk2 : k < ys.length := by rw [HN2.out]; exact hlt
        obtain ⟨e1, f1, hA1, _, s1⟩ := H1.out.text (Below.refl _ _) hk1
        obtain ⟨e2, f2, hA2, _, s2⟩ := H2.out.text (Below.refl _ _) hk2
        subst hA1
        subst hA2
        have HStep : Hid (xs[k] = ys[k] → xs.take (k + 1) = ys.take (k + 1)) := Lib.hid (fun h => take_eq_step HK.out hk1 hk2 h)
        have HNe : Hid (xs[k] ≠ ys[k] → eqT xs ys = false) := Lib.hid (fun h => by unfold eqT; rw [decide_eq_false_iff_not]; exact ne_at hk1 hk2 h)
        obtain ⟨s, hs⟩ : ∃ s, xs[k] = s := ⟨_, rfl⟩
        obtain ⟨t, ht⟩ : ∃ t, ys[k] = t := ⟨_, rfl⟩
        rw [hs] at s1 HStep HNe
        rw [ht] at s2 HStep HNe
        clear hs ht hk1 hk2 HK
        have hq0 : (0 : Int) ≤ (k : Int) := Int.natCast_nonneg _
        have hq8 : (k : Int) < (n : Int) := by omega
        by_cases hst : s = t
        · have HS := Lib.hid (HStep.out hst)
          subst hst
          clear HStep HNe
          go_wp2
          go_quiet (fail)
          go_wp2
          go_roundw
          case rel => exact ⟨k + 1, z + nq, by omega, by go_num, HS, rfl⟩
          case measure => simp [intOf]; omega
        · have hne := text_ne hst
          have HF := Lib.hid (HNe.out hst)
          clear HStep HNe hst
          go_wp2
          go_quiet (fail)
          go_wp2
          go_ret
          exact ⟨by rw [HF.out]; rfl, below_q (below_q (Below.refl _ _) _) _⟩
      · have HE : Hid (eqT xs ys = true) := Lib.hid (by
          unfold eqT
          rw [decide_eq_true_iff]
          exact take_eq_all HK.out (by rw [HN1.out]; omega) (by rw [HN2.out]; omega))
        go_wp2
        go_ret
        exact ⟨by rw [HE.out]; rfl, below_q (Below.refl _ _) _⟩
  · have he : eqT xs ys = false := by unfold eqT; rw [decide_eq_false_iff_not]; intro e; exact hlen (by rw [e])
    rw [he]
    have hne : ((xs.length : Int) != (ys.length : Int)) = true := by rw [bne_iff_ne]; omega
    clear h1 h2 he
    go_enter Try.func67, Try.ntmps67
    go_wp2
    go_ret
    exact ⟨rfl, Below.refl _ _⟩

def eqV (a b : Vl) : Bool := decide (a = b)
theorem eqV_of (i : Int) (xs ys : List ByteArray) : eqV (i, xs) (i, ys) = eqT xs ys := by
  unfold eqV eqT
  by_cases h : xs = ys <;> simp [h]

set_option maxHeartbeats 800000 in
theorem isEqual_any {w : World} {a1 a2 : Option Addr} {d1 d2 : Nat} {i1 i2 : Int} {xs ys : List ByteArray} (h1 : Lies w w.heap.size a1 (xs.map Value.string)) (h2 : Lies w w.heap.size a2 (ys.map Value.string)) (hl : xs.length ≤ 9223372036854775807) :
    Calls Try.prog 51 #[.agg #[.int .i64 i1, .slice a1 xs.length d1], .agg #[.int .i64 i2, .slice a2 ys.length d2]] w fun e w' => e = .returned (.bool (eqV (i1, xs) (i2, ys))) ∧ Below w.heap.size w w' := by
  by_cases he : i1 = i2
  · subst he
    rw [eqV_of]
    have H : Hid (∀ o1 o2 d1 d2, Calls Try.prog 67 #[.slice a1 xs.length d1, .slice a2 ys.length d2] ((w.alloc o1).alloc o2) fun e w' => e = .returned (.bool (eqT xs ys)) ∧ Below ((w.alloc o1).alloc o2).heap.size ((w.alloc o1).alloc o2) w') := Lib.hid (fun o1 o2 d1 d2 => by
      have hb : Below w.heap.size w ((w.alloc o1).alloc o2) := ((Below.refl _ _).alloc (Nat.le_refl _) _).alloc (by simp) _
      exact EqualS_any (h1.next hb) (h2.next hb) hl)
    clear h1 h2
    go_enter Try.func51, Try.ntmps51
    go_wp2_with (go_at_call 67; refine (H.out _ _ _ _).mono ?_; rintro e w1 ⟨rfl, hb⟩; replace hb := Lib.hid hb)
    go_ret
    exact ⟨rfl, below_next (((Below.refl _ _).alloc (Nat.le_refl _) _).alloc (by simp) _) hb.out⟩
  · rw [show eqV (i1, xs) (i2, ys) = false from by unfold eqV; rw [decide_eq_false_iff_not]; intro e; cases e; exact he rfl]
    have he' : (i1 == i2) = false := by simp [he]
    clear h1 h2
    go_enter Try.func51, Try.ntmps51
    go_wp2_with fail
    go_ret
    exact ⟨rfl, ((Below.refl _ _).alloc (Nat.le_refl _) _).alloc (by simp) _⟩

set_option maxHeartbeats 1600000 in
theorem EqualFunc_any {w : World} {A1 A2 : Option Addr} {c1 c2 : Nat} {xs ys : List Vl} (h1 : VolsAt w w.heap.size A1 xs) (h2 : VolsAt w w.heap.size A2 ys) (hf1 : VolsFit xs) :
    Calls Try.prog 50 #[.slice A1 xs.length c1, .slice A2 ys.length c2, .func (.func 51) #[] #[]] w fun e w' => e = .returned (.bool (eqB xs ys)) ∧ Below w.heap.size w w' := by
  by_cases hlen : xs.length = ys.length
  · have H1 := Lib.hid h1
    have H2 := Lib.hid h2
    have F1 := Lib.hid hf1
    have hl := hf1.1
    obtain ⟨n, hn⟩ : ∃ n, xs.length = n := ⟨_, rfl⟩
    have HN1 := Lib.hid hn
    have HN2 : Hid (ys.length = n) := Lib.hid (by rw [← hlen]; exact hn)
    rw [← hlen, hn]
    rw [hn] at hl
    clear h1 h2 hf1 hn hlen
    go_enter Try.func50, Try.ntmps50
    go_wp2_with fail
    go_loopw [17] (fun i wr => ∃ k : Nat, k ≤ n ∧ i = .int .i64 k ∧ Hid (xs.take k = ys.take k) ∧ Hid (Below w.heap.size w wr)) (fun i _ => n - (intOf i).toNat)
    case atStart => exact ⟨0, Nat.zero_le _, rfl, Lib.hid (by simp), Lib.hid (Below.refl _ _)⟩
    case round =>
      obtain ⟨k, hk, rfl, HK, HB⟩ := hrel
      by_cases hlt : k < n
      · have hk1 : k < xs.length := by rw [HN1.out]; exact hlt
        have hk2 : k < ys.length := by rw [HN2.out]; exact hlt
        obtain ⟨b1, o1, a1, d1, hA1, hbl1, x1, x2, ly1⟩ := H1.out.at_ HB.out hk1
        obtain ⟨b2, o2, a2, d2, hA2, hbl2, y1, y2, ly2⟩ := H2.out.at_ HB.out hk2
        have hwz : w.heap.size ≤ wr.heap.size := HB.out.size
        have hbw1 : b1 < wr.heap.size := by omega
        have hbw2 : b2 < wr.heap.size := by omega
        subst hA1
        subst hA2
        have hq1 := F1.out.2 _ (List.getElem_mem hk1)
        have HNo : Hid (eqV xs[k] ys[k] = false → eqB xs ys = false) := Lib.hid (fun h => eqB_at hk1 hk2 (of_decide_eq_false h))
        have HYes : Hid (eqV xs[k] ys[k] = true → xs.take (k + 1) = ys.take (k + 1)) := Lib.hid (fun h => take_eq_step HK.out hk1 hk2 (of_decide_eq_true h))
        have HC : Hid (∀ p1 p2, Calls Try.prog 51 #[.agg #[.int .i64 xs[k].1, .slice a1 xs[k].2.length d1], .agg #[.int .i64 ys[k].1, .slice a2 ys[k].2.length d2]] ((wr.alloc p1).alloc p2) fun e w' => e = .returned (.bool (eqV xs[k] ys[k])) ∧ Below w.heap.size w w') := Lib.hid (fun p1 p2 => by
          have hb : Below wr.heap.size wr ((wr.alloc p1).alloc p2) := ((Below.refl _ _).alloc (Nat.le_refl _) _).alloc (by simp) _
          exact (isEqual_any ((ly1.more hwz).next hb) ((ly2.more hwz).next hb) hq1).mono (fun e w' ⟨he, hb2⟩ => ⟨he, HB.out.trans ((below_next hb hb2).mono hwz)⟩))
        obtain ⟨u, hu⟩ : ∃ u, xs[k] = u := ⟨_, rfl⟩
        obtain ⟨v, hv⟩ : ∃ v, ys[k] = v := ⟨_, rfl⟩
        rw [hu] at x1 x2 HNo HYes HC
        rw [hv] at y1 y2 HNo HYes HC
        clear hu hv hk1 hk2 ly1 ly2 HK hq1
        obtain ⟨i1, bs1⟩ := u
        obtain ⟨i2, bs2⟩ := v
        simp only at x1 x2 y1 y2 HC
        cases he : eqV (i1, bs1) (i2, bs2) with
        | true =>
          have HS := Lib.hid (HYes.out he)
          rw [he] at HC
          clear HNo HYes he
          go_wp2_with (go_at_call 51; refine (HC.out _ _).mono ?_; rintro e w1 ⟨rfl, hb⟩; replace hb := Lib.hid hb)
          go_roundw
          case rel => exact ⟨k + 1, by omega, by go_num, HS, hb⟩
          case measure => simp [intOf]; omega
        | false =>
          have HF := Lib.hid (HNo.out he)
          rw [he] at HC
          clear HNo HYes he
          go_wp2_with (go_at_call 51; refine (HC.out _ _).mono ?_; rintro e w1 ⟨rfl, hb⟩; replace hb := Lib.hid hb)
          go_ret
          exact ⟨by rw [HF.out]; rfl, hb.out⟩
      · have HE : Hid (eqB xs ys = true) := Lib.hid (by
          unfold eqB
          rw [decide_eq_true_iff]
          exact take_eq_all HK.out (by rw [HN1.out]; omega) (by rw [HN2.out]; omega))
        go_wp2_with fail
        go_ret
        exact ⟨by rw [HE.out]; rfl, HB.out⟩
  · rw [eqB_len hlen]
    have hne : ((xs.length : Int) != (ys.length : Int)) = true := by rw [bne_iff_ne]; omega
    clear h1 h2 hf1
    go_enter Try.func50, Try.ntmps50
    go_wp2_with fail
    go_ret
    exact ⟨rfl, Below.refl _ _⟩

theorem sameB_eq (a b : List Vl) : sameB a b = (rightB a && rightB b && eqB a b) := rfl

set_option maxHeartbeats 800000 in
theorem Same_any {w : World} {A1 A2 : Option Addr} {c1 c2 : Nat} {xs ys : List Vl} (h1 : VolsAt w w.heap.size A1 xs) (h2 : VolsAt w w.heap.size A2 ys) (hf1 : VolsFit xs) (hf2 : VolsFit ys) :
    Calls Try.prog 23 #[.slice A1 xs.length c1, .slice A2 ys.length c2] w fun e w' => e = .returned (.bool (sameB xs ys)) ∧ Below w.heap.size w w' := by
  have H1 := Lib.hid h1
  have H2 := Lib.hid h2
  have F1 := Lib.hid hf1
  have F2 := Lib.hid hf2
  rw [sameB_eq]
  have C1 : Hid (∀ c, Calls Try.prog 44 #[.slice A1 xs.length c] w fun e w' => e = .returned (.bool (rightB xs)) ∧ Below w.heap.size w w') := Lib.hid (fun c => Right_any h1 hf1)
  have C2 : Hid (∀ w1 c, Below w.heap.size w w1 → Calls Try.prog 44 #[.slice A2 ys.length c] w1 fun e w' => e = .returned (.bool (rightB ys)) ∧ Below w.heap.size w w') := Lib.hid (fun w1 c hb => (Right_any (h2.next hb) hf2).mono (fun e w' ⟨he, hb2⟩ => ⟨he, below_next hb hb2⟩))
  have C3 : Hid (∀ w1 d1 d2, Below w.heap.size w w1 → Calls Try.prog 50 #[.slice A1 xs.length d1, .slice A2 ys.length d2, .func (.func 51) #[] #[]] w1 fun e w' => e = .returned (.bool (eqB xs ys)) ∧ Below w.heap.size w w') := Lib.hid (fun w1 d1 d2 hb => (EqualFunc_any (h1.next hb) (h2.next hb) hf1).mono (fun e w' ⟨he, hb2⟩ => ⟨he, below_next hb hb2⟩))
  clear h1 h2 hf1 hf2
  cases r1 : rightB xs with
  | false =>
    rw [r1] at C1
    clear r1
    simp only [Bool.false_and]
    go_enter Try.func23, Try.ntmps23
    go_wp2_with fail
    refine (C1.out _).mono ?_
    rintro e w1 ⟨rfl, hb⟩
    replace hb := Lib.hid hb
    go_wp2_with fail
    go_ret
    exact ⟨rfl, hb.out⟩
  | true =>
    rw [r1] at C1
    clear r1
    cases r2 : rightB ys with
    | false =>
      rw [r2] at C2
      clear r2
      simp only [Bool.and_false, Bool.false_and]
      go_enter Try.func23, Try.ntmps23
      go_wp2_with fail
      refine (C1.out _).mono ?_
      rintro e w1 ⟨rfl, hb⟩
      replace hb := Lib.hid hb
      go_wp2_with fail
      refine (C2.out _ _ hb.out).mono ?_
      rintro e w2 ⟨rfl, hb2⟩
      replace hb2 := Lib.hid hb2
      go_wp2_with fail
      go_ret
      exact ⟨rfl, hb2.out⟩
    | true =>
      rw [r2] at C2
      clear r2
      simp only [Bool.true_and]
      go_enter Try.func23, Try.ntmps23
      go_wp2_with fail
      refine (C1.out _).mono ?_
      rintro e w1 ⟨rfl, hb⟩
      replace hb := Lib.hid hb
      go_wp2_with fail
      refine (C2.out _ _ hb.out).mono ?_
      rintro e w2 ⟨rfl, hb2⟩
      replace hb2 := Lib.hid hb2
      go_wp2_with fail
      refine (C3.out _ _ _ hb2.out).mono ?_
      rintro e w3 ⟨rfl, hb3⟩
      replace hb3 := Lib.hid hb3
      go_wp2_with fail
      go_ret
      exact ⟨rfl, hb3.out⟩
end Go.Proofs.Ythajgoigmkkbgaa

namespace Go.Proofs.Ythajgoigmkkbgaa
open Go.RowKit

def DelEnd (xs : List Value) (i n : Nat) (v : Value) (w : World) (e : Ending) (w' : World) : Prop :=
  ∃ A cap, e = .returned (.slice A (n - 1) cap) ∧ Lies w' w'.heap.size A (xs.take (i * 2) ++ xs.drop ((i + 1) * 2)) ∧ w.grownBy w' v.ownBlock

theorem Try.infoVol2 : (Try.prog.info? 83).map (fun i => (i.zero, i.size)) = some (some (.agg #[.int .i64 0, .slice none 0 0]), 2) := by kernel_rfl

theorem run_clear_k {P : Program} (w : World) (t e ty : TypeId) (z : Value) (ht : P.underlying t = some (.slice e)) (hv : ∀ w, (zeroValue e).run P w = .ok z w) (zs : List Value) (b o n c : Nat) (hn : 0 < n) (hz : (Builtin.zeroCells z.cells n).toList = zs) (h1 : ∀ v ∈ zs, v.oneCell' = true)
    (hc : ∀ j, j < zs.length → (w.cell? ⟨b, o + j, none⟩).isSome = true) (hf : ∀ j, j < zs.length → w.frozen? ⟨b, o + j, none⟩ = false) :
    (Builtin.clear_ #[t] ty #[.slice (some ⟨b, o, none⟩) n c]).run P w = .ok (.tuple #[]) (w.setCells b o zs) := by
  have hst := run_storeCells_cells (P := P) b o zs 0 w (by simpa using hc) (by simpa using hf) h1
  simp only [Nat.add_zero] at hst
  obtain ⟨m, rfl⟩ : ∃ m, n = m + 1 := ⟨n - 1, by omega⟩
  simp [Builtin.clear_, run_underlying ht, hv, hz, hst]

end Go.Proofs.Ythajgoigmkkbgaa

namespace Go.Proofs.Ythajgoigmkkbgaa
open Go.RowKit

theorem drop_end {w w3 w5 : World} {base at_ cap : Nat} {v : Value} {vs : List Vl} {us : List Value} {A : Option Addr} (hO : OwnV w3 base v vs us)
    (hl : Lies w5 w5.heap.size A ((volCells vs us).take (at_ * 2) ++ (volCells vs us).drop ((at_ + 1) * 2)))
    (hg : w3.grownBy w5 v.ownBlock) (hat : at_ < vs.length) (hbw : Below w.heap.size w w3) (hbase : w.heap.size ≤ base) :
    VolsEnd (vs.take at_ ++ vs.drop (at_ + 1)) 0 w (.returned (.tuple #[.slice A (vs.length - 1) cap, .int .i64 0])) w5 := by
  have hlen : (vs.take at_ ++ vs.drop (at_ + 1)).length = vs.length - 1 := by simp; omega
  refine ⟨A, cap, by rw [hlen], ?_, ?_⟩
  · have htk : (us.take at_).length = (vs.take at_).length := by rw [List.length_take, List.length_take, hO.len]
    refine VolsAt.of_zip (us := us.take at_ ++ us.drop (at_ + 1)) (by simp [hO.len]) ?_ (fun p hp => ?_)
    · rw [volCells_append htk, ← volCells_take hO.len, ← volCells_drop hO.len]
      exact hl
    · have hkeep : ∀ p ∈ vs.zip us, IsTexts w5 w5.heap.size p.2 p.1.2 := fun p hp => by
        obtain ⟨i, h1, h2, rfl⟩ := mem_zip_at hp
        refine own_texts ((hO.each i h1 h2).kept hg ?_)
        cases hq : us[i].ownBlock with
        | none => exact Or.inl rfl
        | some k => exact Or.inr (fun e => hO.gap i h2 k hq e.symm)
      rw [List.zip_append (by rw [List.length_take, List.length_take, hO.len])] at hp
      rcases List.mem_append.1 hp with hp | hp
      · exact hkeep p (mem_zip_take hp)
      · exact hkeep p (mem_zip_drop hp)
  · exact hbw.grown hg hbw.size (fun k hk => by have := (hO.row.lt k hk).1; omega)

theorem dropE_arg {vs : List Vl} {id : Int} (h : rightB vs = false) : dropE vs id = 1 ∧ dropV vs id = [] := by
  have e : dropE vs id = 1 := by unfold dropE; rw [if_neg (by simp [h])]
  exact ⟨e, by unfold dropV; rw [e]; rfl⟩
theorem dropE_none {vs : List Vl} {id : Int} (h : rightB vs = true) (h2 : hasAt vs id = false) : dropE vs id = 8 ∧ dropV vs id = [] := by
  have e : dropE vs id = 8 := by unfold dropE; rw [if_pos h, if_neg (by simp [h2])]
  exact ⟨e, by unfold dropV; rw [e]; rfl⟩
theorem dropE_ok {vs : List Vl} {id : Int} (h : rightB vs = true) (h2 : hasAt vs id = true) : dropE vs id = 0 ∧ dropV vs id = vs.take (findAt vs id) ++ vs.drop (findAt vs id + 1) := by
  have e : dropE vs id = 0 := by unfold dropE; rw [if_pos h, if_pos h2]
  exact ⟨e, by unfold dropV; rw [if_pos e]⟩

theorem resE_arg {vs : List Vl} {id n : Int} (h : ¬ (rightB vs = true ∧ sizeB n = true)) : resE vs id n = 1 ∧ resV vs id n = [] := by
  have e : resE vs id n = 1 := by unfold resE; rw [if_neg h]
  exact ⟨e, by unfold resV; rw [e]; rfl⟩
theorem resE_none {vs : List Vl} {id n : Int} (h : rightB vs = true ∧ sizeB n = true) (h2 : hasAt vs id = false) : resE vs id n = 8 ∧ resV vs id n = [] := by
  have e : resE vs id n = 8 := by unfold resE; rw [if_pos h, if_neg (by simp [h2])]
  exact ⟨e, by unfold resV; rw [e]; rfl⟩
theorem resE_ok {vs : List Vl} {id n : Int} (h : rightB vs = true ∧ sizeB n = true) (h2 : hasAt vs id = true) : resE vs id n = 0 ∧ resV vs id n = vs.set (findAt vs id) (id, resized (vs.getD (findAt vs id) (0, [])).2 n.toNat) := by
  have e : resE vs id n = 0 := by unfold resE; rw [if_pos h, if_pos h2]
  exact ⟨e, by unfold resV; rw [if_pos e]⟩

/-- The world behind 'out[at] = blank(id, n)'. -/
def resW (w4 : World) (g k g0 m : Nat) (id : Int) : World := (w4.setCell ⟨g, k * 2, none⟩ (.int .i64 id)).setCell ⟨g, k * 2 + 1, none⟩ (.slice (some ⟨g0, 0, none⟩) m m)
/-- What is copied. -/
def resC (bs : List ByteArray) (m : Nat) : List Value := (bs.take m).map Value.string
theorem resC_length (bs : List ByteArray) (m : Nat) : (resC bs m).length = min m bs.length := by simp [resC]
theorem resC_one (bs : List ByteArray) (m : Nat) : ∀ u ∈ resC bs m, u.oneCell' = true := by
  intro u hu
  obtain ⟨s, _, rfl⟩ := List.mem_map.1 hu
  rfl

theorem resized_length (bs : List ByteArray) (m : Nat) : (resized bs m).length = m := by
  unfold resized
  rw [List.length_append, List.length_take, blankB_length]
  omega

section
variable {w w2 w3 w4 : World} {g cap k g0 m : Nat} {id : Int} {vs : List Vl} {us : List Value} {A : Option Addr}

theorem resW_row (hO : OwnV w3 w2.heap.size (.slice (some ⟨g, 0, none⟩) vs.length cap) vs us) (hb4 : Below w3.heap.size w3 w4) (X : List ByteArray) :
    (resW w4 g k g0 m id).ownsRow w2.heap.size 83 2 (.slice (some ⟨g, 0, none⟩) vs.length cap) vs.length (volCells (vs.set k (id, X)) (us.set k (.slice (some ⟨g0, 0, none⟩) m m))) ∧ w4.grownBy (resW w4 g k g0 m id) (some g) := by
  have h4 := own_kept hO.row hb4
  have h5 := h4.stored (k * 2) (.int .i64 id)
  rw [volCells_id hO.len k (id, X)] at h5
  have h6 := h5.1.stored (k * 2 + 1) (.slice (some ⟨g0, 0, none⟩) m m)
  rw [volCells_set (by simp [hO.len])] at h6
  exact ⟨h6.1, h5.2.trans h6.2⟩

/-- The run of the copy. -/
theorem res_copy (ho4 : w4.ownsRow w3.heap.size 9 1 (.slice (some ⟨g0, 0, none⟩) m m) m ((blankB m).map Value.string)) (hg0 : g0 ≠ g) {a : Option Addr} {bs : List ByteArray} (hbs : 1 ≤ bs.length)
    (hl : Lies (resW w4 g k g0 m id) w.heap.size a (bs.map Value.string)) :
    ∃ ad, a = some ad ∧ ∀ ty c', (Builtin.copy_ #[81, 81] ty #[.slice (some ⟨g0, 0, none⟩) m m, .slice (some ad) bs.length c']).run Try.prog (resW w4 g k g0 m id).drew = .ok (goInt (Nat.min bs.length m)) ((resW w4 g k g0 m id).drew.setCells g0 0 (resC bs m)) := by
  obtain ⟨b2, off2, rfl, _, hc⟩ := hl.at_ (by intro e; simp at e; subst e; simp at hbs)
  have hblk : (resW w4 g k g0 m id).heap[g0]? = w4.heap[g0]? := by
    unfold resW
    rw [Below.heap_setCell _ _ _ _ hg0, Below.heap_setCell _ _ _ _ hg0]
  refine ⟨_, rfl, fun ty c' => ?_⟩
  refine run_copy_k (resW w4 g k g0 m id).drew 1 _ _ ty 9 g0 0 m m ⟨b2, off2, none⟩ bs.length c' (resC bs m) Try.underlying81 (by kernel_rfl) ?_ ?_ ?_ ?_ (resC_one _ _)
  · rw [resC_length, Nat.mul_one, Nat.min_comm]
  · intro j u hu
    rw [WideShapes.add_plain]
    obtain ⟨hj1, hj2⟩ := List.getElem?_eq_some_iff.1 hu
    rw [resC_length] at hj1
    show (resW w4 g k g0 m id).cell? _ = _
    rw [hc j (by simp; omega)]
    rw [← hj2]
    simp [resC]
  · intro j hj
    rw [resC_length] at hj
    show ((resW w4 g k g0 m id).cell? _).isSome = true
    rw [World.cell?_of_block hblk, Nat.zero_add, ho4.cellAt j (by omega)]
    simp [blankB]
    omega
  · intro j hj
    show (resW w4 g k g0 m id).frozen? _ = false
    rw [World.frozen?_of_block hblk, ho4.frozenAt]

theorem res_end (hO : OwnV w3 w2.heap.size (.slice (some ⟨g, 0, none⟩) vs.length cap) vs us) (hb4 : Below w3.heap.size w3 w4)
    (ho4 : w4.ownsRow w3.heap.size 9 1 (.slice (some ⟨g0, 0, none⟩) m m) m ((blankB m).map Value.string)) (hk : k < vs.length) (hbw : Below w.heap.size w w3) (hbase : w.heap.size ≤ w2.heap.size) :
    VolsEnd (vs.set k (id, resized vs[k].2 m)) 0 w (.returned (.tuple #[.slice (some ⟨g, 0, none⟩) vs.length cap, .int .i64 0])) ((resW w4 g k g0 m id).drew.setCells g0 0 (resC vs[k].2 m)) := by
  obtain ⟨hrow, hgr⟩ := resW_row (k := k) (g0 := g0) (m := m) (id := id) hO hb4 (resized vs[k].2 m)
  have hgw := (hO.row.lt g rfl)
  have hg0w := (ho4.lt g0 rfl)
  have hne : g ≠ g0 := by omega
  have hgr2 : (resW w4 g k g0 m id).grownBy ((resW w4 g k g0 m id).drew.setCells g0 0 (resC vs[k].2 m)) (some g0) := grown_setCells (grown_drew (grown_refl _ _)) _ _
  have hrow2 := hrow.kept hgr2 (Or.inr (by simp only [Value.ownBlock, ne_eq, Option.some.injEq]; exact hne))
  have hblk : (resW w4 g k g0 m id).heap[g0]? = w4.heap[g0]? := by
    unfold resW
    rw [Below.heap_setCell _ _ _ _ (Ne.symm hne), Below.heap_setCell _ _ _ _ (Ne.symm hne)]
  have hz : ((resW w4 g k g0 m id).drew.setCells g0 0 (resC vs[k].2 m)).heap.size = w4.heap.size := by
    rw [size_setCells]; show (resW w4 g k g0 m id).heap.size = _; unfold resW; simp
  have hlen : (vs.set k (id, resized vs[k].2 m)).length = vs.length := by simp
  refine ⟨_, cap, by rw [hlen], ?_, ?_⟩
  · obtain ⟨A', c', hv, _, hl⟩ := own_lies hrow2
    simp only [Value.slice.injEq] at hv
    obtain ⟨rfl, _, _⟩ := hv
    refine VolsAt.of_rows (us := us.set k (.slice (some ⟨g0, 0, none⟩) m m)) (by simp [hO.len]) hl (fun i h1 h2 => ?_)
    have h1' : i < vs.length := by simpa using h1
    have h2' : i < us.length := by simpa using h2
    by_cases e : k = i
    · subst e
      rw [List.getElem_set_self, List.getElem_set_self]
      refine ⟨some ⟨g0, 0, none⟩, m, by rw [resized_length], .inr ⟨g0, 0, rfl, by rw [hz]; omega, fun j hj => ?_⟩⟩
      have hj' : j < m := by rw [List.length_map, resized_length] at hj; exact hj
      have hs : ∀ t, t < (resC vs[k].2 m).length → ((resW w4 g k g0 m id).drew.cell? ⟨g0, 0 + t, none⟩).isSome = true := fun t ht => by
        rw [resC_length] at ht
        show ((resW w4 g k g0 m id).cell? _).isSome = true
        rw [World.cell?_of_block hblk, Nat.zero_add, ho4.cellAt t (by omega)]
        simp [blankB]
        omega
      by_cases c1 : j < vs[k].2.length
      · have hj2 : j < (resC vs[k].2 m).length := by rw [resC_length]; omega
        rw [World.cell?_setCells_in g0 (resC vs[k].2 m) 0 _ hs j hj2]
        simp only [resC, resized, List.getElem_map]
        rw [List.getElem_append_left (by rw [List.length_take]; omega)]
      · rw [World.cell?_setCells_out g0 (resC vs[k].2 m) 0 _ _ (fun _ _ => Or.inr (by show 0 + (resC vs[k].2 m).length ≤ 0 + j; rw [resC_length]; omega))]
        show (resW w4 g k g0 m id).cell? _ = _
        rw [World.cell?_of_block hblk, Nat.zero_add, ho4.cellAt j (by omega)]
        simp only [resized, List.getElem_map]
        rw [List.getElem_append_right (by rw [List.length_take]; omega)]
        simp [blankB, hj']
    · rw [List.getElem_set_ne e, List.getElem_set_ne e]
      have h3 := (own_kept (hO.each i h1' h2') hb4).kept hgr (by
        cases hq : us[i].ownBlock with
        | none => exact Or.inl rfl
        | some b => exact Or.inr (fun e => by cases e; exact hO.gap i h2' g hq rfl))
      have h4 := h3.kept hgr2 (by
        cases hq : us[i].ownBlock with
        | none => exact Or.inl rfl
        | some b => exact Or.inr (fun e => by cases e; have := ((hO.each i h1' h2').lt g0 hq).2; omega))
      exact own_texts h4
  · have h1 : Below w.heap.size w w4 := hbw.trans (hb4.mono hbw.size)
    have h2 : Below w.heap.size w (resW w4 g k g0 m id) := h1.grown hgr h1.size (fun q hq => by cases hq; omega)
    exact h2.grown hgr2 h2.size (fun q hq => by cases hq; have := hbw.size; omega)
end

end Go.Proofs.Ythajgoigmkkbgaa

namespace Go.Proofs.Ythajgoigmkkbgaa
open Go.RowKit

set_option maxHeartbeats 1600000 in
theorem Check_any {w : World} {A A2 : Option Addr} {c c2 : Nat} {vs : List Vl} {ws : List Wr} (h : VolsAt w w.heap.size A vs) (hf : VolsFit vs) (h2 : WrsAt w w.heap.size A2 ws) (hl2 : ws.length ≤ 9223372036854775807) :
    Calls Try.prog 47 #[.slice A vs.length c, .slice A2 ws.length c2] w fun e w' => e = .returned (.int .i64 (checkE vs ws)) ∧ Below w.heap.size w w' := by
  have HV := Lib.hid h
  have HF := Lib.hid hf
  have HW := Lib.hid h2
  have hl := hf.1
  cases hr : rightB vs with
  | false =>
    rw [show checkE vs ws = 1 from by unfold checkE; rw [hr]; rfl]
    have HR := Lib.hid hr
    clear h hf hr h2
    go_enter Try.func47, Try.ntmps47
    go_wp2_with (go_at_call 44; refine (Right_any HV.out HF.out).mono ?_; rw [HR.out]; rintro e w1 ⟨rfl, hb⟩; replace hb := Lib.hid hb)
    go_ret
    exact ⟨rfl, hb.out⟩
  | true =>
    rw [checkE_right hr]
    have HR := Lib.hid hr
    have HG : Hid (∀ vol block, gotE vs vol block = locE vs vol block) := Lib.hid (fun vol block => gotE_loc (rightB_good hr) vol block)
    obtain ⟨m, hm⟩ : ∃ m, ws.length = m := ⟨_, rfl⟩
    have HM := Lib.hid hm
    rw [hm] at hl2 ⊢
    clear h hf hr h2 hm
    go_enter Try.func47, Try.ntmps47
    go_wp2_with (go_at_call 44; refine (Right_any HV.out HF.out).mono ?_; rw [HR.out]; rintro e w1 ⟨rfl, hb⟩; replace hb := Lib.hid hb)
    go_loopw [14] (fun i wr => ∃ k : Nat, k ≤ m ∧ i = .int .i64 k ∧ Hid (chk vs ws = chk vs (ws.drop k)) ∧ Hid (Below w.heap.size w wr)) (fun i _ => m - (intOf i).toNat)
    case atStart => exact ⟨0, Nat.zero_le _, rfl, Lib.hid rfl, hb⟩
    case round =>
      clear hb
      obtain ⟨k, hk, rfl, HK, HB⟩ := hrel
      by_cases hlt : k < m
      · have hkl : k < ws.length := by rw [HM.out]; exact hlt
        obtain ⟨b, off, hA, hbl, x1, x2, x3⟩ := HW.out.at_ HB.out hkl
        have hwz : w.heap.size ≤ wr.heap.size := HB.out.size
        have hbw : b < wr.heap.size := by omega
        subst hA
        have HStep : Hid (chk vs ws = if locE vs ws[k].vol ws[k].block = 0 then (if shortB ws[k].data = true then chk vs (ws.drop (k + 1)) else 5) else locE vs ws[k].vol ws[k].block) := Lib.hid (by
          rw [HK.out, drop_at hkl, chk, HG.out])
        obtain ⟨x, hx⟩ : ∃ x, ws[k] = x := ⟨_, rfl⟩
        rw [hx] at x1 x2 x3 HStep
        clear hx hkl HK
        obtain ⟨vol, block, data⟩ := x
        simp only at x1 x2 x3 HStep
        have HSz := Lib.hid (HB.out.alloc hwz (.cells #[.int .i64 vol, .int .i64 block, .string data] 74))
        have HLC : Hid (∀ c, Calls Try.prog 64 #[.slice A vs.length c, .int .i64 vol, .int .i64 block] (wr.alloc (.cells #[.int .i64 vol, .int .i64 block, .string data] 74)) fun e w' => e = .returned (.tuple #[.int .i64 (locI vs vol block), .int .i64 (locE vs vol block)]) ∧ Below (wr.alloc (.cells #[.int .i64 vol, .int .i64 block, .string data] 74)).heap.size (wr.alloc (.cells #[.int .i64 vol, .int .i64 block, .string data] 74)) w') := Lib.hid (fun c => locate_any (HV.out.next HSz.out) hl vol block)
        have hx3 : Hid (∀ w2, Below (wr.alloc (.cells #[.int .i64 vol, .int .i64 block, .string data] 74)).heap.size (wr.alloc (.cells #[.int .i64 vol, .int .i64 block, .string data] 74)) w2 → w2.cell? ⟨wr.heap.size, 2, none⟩ = some (.string data)) := Lib.hid (fun w2 hb => by
          rw [hb.cell (p := ⟨wr.heap.size, 2, none⟩) (by simp), Lib.cell_of_heap (heap_alloc_new _ _)]; rfl)
        by_cases h0 : locE vs vol block = 0
        · rw [h0] at HLC HStep
          clear h0
          cases hs : shortB data with
          | true =>
            have HS := Lib.hid hs
            rw [hs] at HStep
            clear hs
            go_wp2_with (first
              | (go_at_call 64; refine (HLC.out _).mono ?_; rintro e w2 ⟨rfl, hb2⟩; have hx4 := hx3.out w2 hb2; have HB2 := Lib.hid (below_next HSz.out hb2); clear hb2)
              | (go_at_call 61; refine (isTooLong_any _ _).mono ?_; rw [HS.out]; rintro e w' ⟨rfl, rfl⟩))
            go_roundw
            case rel => exact ⟨k + 1, by omega, by go_num, Lib.hid (by rw [HStep.out]; rfl), HB2⟩
            case measure => simp [intOf]; omega
          | false =>
            have HS := Lib.hid hs
            rw [hs] at HStep
            clear hs
            go_wp2_with (first
              | (go_at_call 64; refine (HLC.out _).mono ?_; rintro e w2 ⟨rfl, hb2⟩; have hx4 := hx3.out w2 hb2; have HB2 := Lib.hid (below_next HSz.out hb2); clear hb2)
              | (go_at_call 61; refine (isTooLong_any _ _).mono ?_; rw [HS.out]; rintro e w' ⟨rfl, rfl⟩))
            go_ret
            exact ⟨by rw [HStep.out]; rfl, HB2.out⟩
        · have h0' : (locE vs vol block != 0) = true := by rw [bne_iff_ne]; exact h0
          rw [if_neg h0] at HStep
          clear h0
          obtain ⟨e8, he8⟩ : ∃ e8, locE vs vol block = e8 := ⟨_, rfl⟩
          rw [he8] at HLC h0' HStep
          clear he8
          go_wp2_with (go_at_call 64; refine (HLC.out _).mono ?_; rintro e w2 ⟨rfl, hb2⟩; have HB2 := Lib.hid (below_next HSz.out hb2); clear hb2)
          go_ret
          exact ⟨by rw [HStep.out]; rfl, HB2.out⟩
      · have HE : Hid (chk vs ws = 0) := Lib.hid (by rw [HK.out, List.drop_of_length_le (by rw [HM.out]; omega)]; rfl)
        go_wp2_with fail
        go_ret
        exact ⟨by rw [HE.out]; rfl, HB.out⟩

/-! ### Apply -/

/-- What the loop of Apply keeps. -/
structure ApplySt (w wr : World) (base : Nat) (v : Value) (vs : List Vl) : Prop where
  own : ∃ us, OwnV wr base v vs us
  bel : Below w.heap.size w wr
  low : w.heap.size ≤ base

theorem put1_at {vs : List Vl} {x : Wr} {k : Nat} (hk : findAt vs x.vol = k) (hlt : k < vs.length) : put1 vs x = vs.set k (vs[k].1, vs[k].2.set x.block.toNat x.data) := by
  unfold put1
  rw [hk]
  apply List.ext_getElem
  · simp
  · intro i h1 h2
    rw [List.getElem_modify, List.getElem_set]
    split
    · rename_i e; subst e; rfl
    · rfl

/-- One block of one volume is stored. -/
theorem OwnV.store {w : World} {base : Nat} {v : Value} {vs : List Vl} {us : List Value} (h : OwnV w base v vs us) {k j gu cu : Nat} (hk : k < vs.length) (hku : k < us.length) (hu : us[k] = .slice (some ⟨gu, 0, none⟩) vs[k].2.length cu) (s : ByteArray) :
    OwnV (w.setCell ⟨gu, j, none⟩ (.string s)) base v (vs.set k (vs[k].1, vs[k].2.set j s)) us := by
  have hown := h.each k hk hku
  rw [hu] at hown
  have hst := hown.stored j (.string s)
  have hgr := hst.2
  have hvg : v.ownBlock ≠ some gu := h.gap k hku gu (by rw [hu]; rfl)
  refine ⟨by simp [h.len], ?_, fun i h1 h2 => ?_, h.gap, h.apart⟩
  · have h1 := h.row.kept hgr (Or.inr hvg)
    have h2 := volCells_id h.len k (vs[k].1, vs[k].2.set j s)
    have h3 : (volCells vs us).set (k * 2) (.int .i64 vs[k].1) = volCells vs us := by
      apply List.ext_getElem?
      intro i
      by_cases e : k * 2 = i
      · subst e
        rw [volCells_fst h.len hk, List.getElem?_set_self (by rw [volCells_length h.len]; omega)]
      · rw [List.getElem?_set_ne e]
    simp only at h2
    rw [h3] at h2
    rw [← h2, List.length_set]
    exact h1
  · have h1' : i < vs.length := by simpa using h1
    by_cases e : k = i
    · subst e
      rw [List.getElem_set_self]
      simp only
      rw [hu, List.length_set, List.map_set]
      exact hst.1
    · rw [List.getElem_set_ne e]
      refine (h.each i h1' h2).kept hgr ?_
      cases hq : us[i].ownBlock with
      | none => exact Or.inl rfl
      | some b => exact Or.inr (fun e2 => by cases e2; exact h.apart k i hku h2 gu e (by rw [hu]; rfl) hq)

theorem ApplySt.step {w wr w2 : World} {base : Nat} {v : Value} {vs : List Vl} {us : List Value} (h : OwnV wr base v vs us) (hb : Below wr.heap.size wr w2) (hbel : Below w.heap.size w wr) (hlow : w.heap.size ≤ base) {k j gu cu : Nat} (hk : k < vs.length) (hku : k < us.length) (hu : us[k] = .slice (some ⟨gu, 0, none⟩) vs[k].2.length cu) (s : ByteArray) :
    ApplySt w (w2.setCell ⟨gu, j, none⟩ (.string s)) base v (vs.set k (vs[k].1, vs[k].2.set j s)) := by
  have h2 : OwnV w2 base v vs us := ⟨h.len, own_kept h.row hb, fun i h1 h2 => own_kept (h.each i h1 h2) hb, h.gap, h.apart⟩
  refine ⟨⟨us, h2.store hk hku hu s⟩, ?_, hlow⟩
  have hg := (h.each k hk hku).lt gu (by rw [hu]; rfl)
  exact (hbel.trans (hb.mono hbel.size)).setCell (by show w.heap.size ≤ gu; omega) _

set_option maxHeartbeats 4000000 in
set_option maxRecDepth 100000 in
theorem Apply_any {w : World} {A A2 : Option Addr} {c c2 : Nat} {vs : List Vl} {ws : List Wr} (h : VolsAt w w.heap.size A vs) (hf : VolsFit vs) (h2 : WrsAt w w.heap.size A2 ws) (hl2 : ws.length ≤ 9223372036854775807) :
    Calls Try.prog 22 #[.slice A vs.length c, .slice A2 ws.length c2] w (VolsEnd (applyV vs ws) (checkE vs ws) w) := by
  have HV := Lib.hid h
  have HF := Lib.hid hf
  have HW := Lib.hid h2
  have hl := hf.1
  have HCk : Hid (∀ c c2, Calls Try.prog 47 #[.slice A vs.length c, .slice A2 ws.length c2] w fun e w' => e = .returned (.int .i64 (checkE vs ws)) ∧ Below w.heap.size w w') := Lib.hid (fun c c2 => Check_any h hf h2 hl2)
  by_cases h0 : checkE vs ws = 0
  · obtain ⟨hr, hck, _⟩ := right_apply h0
    rw [applyV_ok h0, h0]
    rw [h0] at HCk
    obtain ⟨hs4, hs32⟩ := right_small hr
    have HCl : Hid (∀ w2 c, Below w.heap.size w w2 → Calls Try.prog 48 #[.slice A vs.length c] w2 (CloneEnd vs w2)) := Lib.hid (fun w2 c hb => clone_any (h.next hb) (by omega) (fun v hv => by have := hs32 v hv; omega))
    have HG := Lib.hid (rightB_good hr)
    have HCK := Lib.hid hck
    obtain ⟨m, hm⟩ : ∃ m, ws.length = m := ⟨_, rfl⟩
    have HM := Lib.hid hm
    rw [hm] at hl2 HCk ⊢
    clear h hf h2 h0 hr hck hs32 hm
    go_enter Try.func22, Try.ntmps22
    go_wp2_with (first
      | (go_at_call 47; refine (HCk.out _ _).mono ?_; rintro e w1 ⟨rfl, hb⟩; replace hb := Lib.hid hb)
      | (go_at_call 48; refine (HCl.out _ _ hb.out).mono ?_; rintro e w3 ⟨v, us, rfl, hO, hb3⟩; have HS0 := Lib.hid (ApplySt.mk (w := w) ⟨us, hO⟩ (below_next hb.out hb3) hb.out.size); obtain ⟨A1, c1, hv, hxx⟩ := own_lies hO.row; clear hO hb3 hxx us; subst hv))
    clear HCk HCl
    obtain ⟨base, hbase⟩ : ∃ base, w1.heap.size = base := ⟨_, rfl⟩
    rw [hbase] at HS0
    clear hbase hb
    obtain ⟨n, hn⟩ : ∃ n, vs.length = n := ⟨_, rfl⟩
    have HN := Lib.hid hn
    rw [hn] at hl hs4 HS0 ⊢
    clear hn
    go_loopw [22] (fun i wr => ∃ k : Nat, k ≤ m ∧ i = .int .i64 k ∧ Hid (ApplySt w wr base (.slice A1 n c1) ((ws.take k).foldl put1 vs))) (fun i _ => m - (intOf i).toNat)
    case atStart => exact ⟨0, Nat.zero_le _, rfl, HS0⟩
    case round =>
      clear HS0
      obtain ⟨k, hk, rfl, HS⟩ := hrel
      by_cases hlt : k < m
      · have hkl : k < ws.length := by rw [HM.out]; exact hlt
        obtain ⟨b, off, hA, hbl, x1, x2, x3⟩ := HW.out.at_ HS.out.bel hkl
        have hwz : w.heap.size ≤ wr.heap.size := HS.out.bel.size
        have hbw : b < wr.heap.size := by omega
        subst hA
        have hgot := chk_take HCK.out hkl
        have hfold : (ws.take (k + 1)).foldl put1 vs = put1 ((ws.take k).foldl put1 vs) ws[k] := by
          rw [List.take_succ_eq_append_getElem hkl, List.foldl_append]; rfl
        have HFold := Lib.hid hfold
        have hsh := shapes_foldl (ws.take k) vs
        have hloc : locE vs ws[k].vol ws[k].block = 0 := by rw [← gotE_loc HG.out]; exact hgot.1
        obtain ⟨x, hx⟩ : ∃ x, ws[k] = x := ⟨_, rfl⟩
        rw [hx] at x1 x2 x3 HFold hloc
        clear hx hkl hfold hgot
        obtain ⟨vol, block, data⟩ := x
        simp only at x1 x2 x3 hloc
        obtain ⟨cur, hcur⟩ : ∃ cur, (ws.take k).foldl put1 vs = cur := ⟨_, rfl⟩
        rw [hcur] at HS HFold hsh
        clear hcur
        have hlen : cur.length = n := by rw [shapes_length hsh, HN.out]
        obtain ⟨hhas, hfl, hb0, hb1⟩ := locE_zero hloc
        have hfs := findAt_shapes hsh vol
        have hhc : hasAt cur vol = true := by rw [hfs.2]; exact hhas
        obtain ⟨q, hq⟩ : ∃ q, findAt cur vol = q := ⟨_, rfl⟩
        have hqv : findAt vs vol = q := by rw [← hfs.1]; exact hq
        have hqc : q < cur.length := by rw [← hq]; exact hasAt_lt hhc
        have hbl2 : block < cur[q].2.length := by
          have e : (shapes cur)[q]? = (shapes vs)[q]? := by rw [hsh]
          have hqvl : q < vs.length := by rw [← shapes_length hsh]; exact hqc
          simp only [shapes, List.getElem?_map, List.getElem?_eq_getElem hqc, List.getElem?_eq_getElem hqvl, Option.map_some, Option.some.injEq, Prod.mk.injEq] at e
          rw [e.2]
          subst hqv
          exact hb1
        obtain ⟨j, rfl⟩ := Int.eq_ofNat_of_zero_le hb0
        have hS := HS.out
        obtain ⟨us, hO⟩ := hS.own
        rw [← hlen] at hO
        have hqu : q < us.length := by rw [hO.len]; exact hqc
        obtain ⟨gu, cu, hgu, _, hgw⟩ := (hO.each q hqc hqu).form (by omega)
        obtain ⟨g, cg, hv, _, hgw2⟩ := hO.row.form (by omega)
        simp only [Value.slice.injEq] at hv
        obtain ⟨rfl, _, rfl⟩ := hv
        have HSt : Hid (∀ w2, Below wr.heap.size wr w2 → ApplySt w (w2.setCell ⟨gu, j, none⟩ (.string data)) base (.slice (some ⟨g, 0, none⟩) n c1) ((ws.take (k + 1)).foldl put1 vs)) := Lib.hid (fun w2 hb => by
          have := ApplySt.step hO hb hS.bel hS.low hqc hqu hgu (j := j) data
          rw [hlen] at this
          rw [HFold.out, put1_at hq hqc, Int.toNat_natCast]
          exact this)
        have HCell : Hid (∀ w2, Below wr.heap.size wr w2 → w2.cell? ⟨g, q * 2 + 1, none⟩ = some (.slice (some ⟨gu, 0, none⟩) cur[q].2.length cu) ∧ (∃ old, w2.cell? ⟨gu, j, none⟩ = some old) ∧ w2.frozen? ⟨gu, j, none⟩ = false) := Lib.hid (fun w2 hb => by
          have r1 := own_kept hO.row hb
          have r2 := own_kept (hO.each q hqc hqu) hb
          rw [hgu] at r2
          refine ⟨?_, ?_, r2.frozenAt _⟩
          · rw [r1.cellAt _ (by omega), volCells_snd hO.len hqc, List.getElem?_eq_getElem hqu, hgu]
          · rw [r2.cellAt _ (by omega), List.getElem?_map, List.getElem?_eq_getElem (by omega)]
            exact ⟨_, rfl⟩)
        obtain ⟨A9, c9, hv9, hvol9⟩ := hO.vols
        rw [hlen] at hv9
        simp only [Value.slice.injEq] at hv9
        obtain ⟨rfl, _, rfl⟩ := hv9
        have HFind : Hid (∀ w2, Below wr.heap.size wr w2 → Calls Try.prog 49 #[.slice (some ⟨g, 0, none⟩) n c1, .int .i64 vol] w2 fun e w' => e = .returned (.tuple #[.int .i64 q, .bool true]) ∧ Below w2.heap.size w2 w') := Lib.hid (fun w2 hb => by
          have := find_any (c := c1) (hvol9.next hb) (by rw [hlen]; exact hl) vol
          rw [hlen, hq, hhc] at this
          exact this)
        obtain ⟨p, hp⟩ : ∃ p, cur[q].2.length = p := ⟨_, rfl⟩
        rw [hp] at HCell hbl2
        have hqn : q < n := by rw [← hlen]; exact hqc
        have hjp : j < p := by omega
        clear hp hb1 hb0 hloc hsh hlen hhas hfl hfs hhc hq hqv hO hS hqu hgu hvol9 hqc HFold HS us cur
        have HB1 : Hid (Below wr.heap.size wr (wr.alloc (.cells #[.int .i64 vol, .int .i64 j, .string data] 74))) := Lib.hid ((Below.refl _ _).alloc (Nat.le_refl _) _)
        have HX : Hid (∀ w2, Below (wr.alloc (.cells #[.int .i64 vol, .int .i64 j, .string data] 74)).heap.size (wr.alloc (.cells #[.int .i64 vol, .int .i64 j, .string data] 74)) w2 → w2.cell? ⟨wr.heap.size, 1, none⟩ = some (.int .i64 j) ∧ w2.cell? ⟨wr.heap.size, 2, none⟩ = some (.string data)) := Lib.hid (fun w2 hb => by
          rw [hb.cell (p := ⟨wr.heap.size, 1, none⟩) (by simp), hb.cell (p := ⟨wr.heap.size, 2, none⟩) (by simp), Lib.cell_of_heap (heap_alloc_new _ _), Lib.cell_of_heap (heap_alloc_new _ _)]; exact ⟨rfl, rfl⟩)
        go_wp2_with (go_at_call 49; refine (HFind.out _ HB1.out).mono ?_; rintro e w2 ⟨rfl, hb2⟩; obtain ⟨y1, y2⟩ := HX.out w2 hb2; have HB2 := Lib.hid (below_next HB1.out hb2); clear hb2; obtain ⟨z1, ⟨old, z2⟩, z3⟩ := HCell.out w2 HB2.out)
        have HS2 := Lib.hid (HSt.out w2.drew (⟨HB2.out.os, HB2.out.tape, HB2.out.output, HB2.out.size, HB2.out.block⟩))
        clear HFind HX HCell HSt HB1 HB2 x1 x2 x3
        have hq0 : (0 : Int) ≤ (q : Int) := Int.natCast_nonneg _
        have hq8 : (q : Int) < (n : Int) := by omega
        have hj0 : (0 : Int) ≤ (j : Int) := Int.natCast_nonneg _
        have hj8 : (j : Int) < (p : Int) := by omega
        go_still_tail 10, (by kernel_rfl)
        change wpList _ _ _ _ _ w2.drew
        have z2' : w2.drew.cell? ⟨gu, j, none⟩ = some old := z2
        have z3' : w2.drew.frozen? ⟨gu, j, none⟩ = false := z3
        clear y1 y2 z1 z2 z3
        generalize w2.drew = W2 at *
        go_wp2_with fail
        go_roundw
        case rel => exact ⟨k + 1, by omega, by go_num, HS2⟩
        case measure => simp [intOf]; omega
      · have HE : Hid (VolsEnd (ws.foldl put1 vs) 0 w (.returned (.tuple #[.slice A1 n c1, .int .i64 0])) wr) := Lib.hid (by
          have hS := HS.out
          rw [List.take_of_length_le (by rw [HM.out]; omega)] at hS
          obtain ⟨us, hO⟩ := hS.own
          have hlen : (ws.foldl put1 vs).length = n := by rw [shapes_length (shapes_foldl ws vs), HN.out]
          obtain ⟨A9, c9, hv9, hvol9⟩ := hO.vols
          rw [hlen] at hv9
          simp only [Value.slice.injEq] at hv9
          obtain ⟨rfl, _, rfl⟩ := hv9
          exact ⟨_, _, by rw [hlen], hvol9, hS.bel⟩)
        go_wp2_with fail
        go_ret2
        exact HE.out
  · rw [applyV_no h0]
    have h0' : (checkE vs ws != 0) = true := by rw [bne_iff_ne]; exact h0
    clear h hf h2 h0
    obtain ⟨e8, he8⟩ : ∃ e8, checkE vs ws = e8 := ⟨_, rfl⟩
    rw [he8] at HCk h0' ⊢
    clear he8
    go_enter Try.func22, Try.ntmps22
    go_wp2_with (go_at_call 47; refine (HCk.out _ _).mono ?_; rintro e w1 ⟨rfl, hb⟩; replace hb := Lib.hid hb)
    go_ret2
    exact VolsEnd.none_ _ hb.out
end Go.Proofs.Ythajgoigmkkbgaa
