/- The walk of VolsSame. -/
import Derived.Test.YtphmemopabgaeaaVolQ
namespace Go.Proofs.Ytphmemopabgaeaa
open Go.RowKit

theorem same_right (a b : List Vl) : sameB a b = (rightB a && eqB a b) := by
  unfold sameB eqB
  by_cases h : a = b
  · subst h; simp
  · simp [h]
theorem same_self (a : List Vl) : sameB a a = rightB a := by simp [sameB]

theorem bool_beq_self (b : Bool) : (b == b) = true := by cases b <;> rfl

set_option maxHeartbeats 3200000 in
set_option maxRecDepth 100000 in
theorem VolsSame_walk {w : World} {A1 A2 : Option Addr} {c1 c2 : Nat} {xs ys : List Vl} (h1 : VolsAt w w.heap.size A1 xs) (hf1 : VolsFit xs) (h2 : VolsAt w w.heap.size A2 ys) (hf2 : VolsFit ys) :
    Calls Try.prog 7 #[.slice A1 xs.length c1, .slice A2 ys.length c2] w fun e w' => e = .returned (.bool true) ∧ Below w.heap.size w w' := by
  have H1 := Lib.hid h1
  have H2 := Lib.hid h2
  have F1 := Lib.hid hf1
  have F2 := Lib.hid hf2
  clear h1 h2 hf1 hf2
  cases hs1 : smallB xs 0 with
  | false =>
    have HS := Lib.hid hs1
    clear hs1
    go_enter Try.func7, Try.ntmps7
    go_wp2_with fail
    refine (Small_any H1.out F1.out _ _ _).mono ?_
    rw [HS.out]
    rintro e w' ⟨rfl, rfl⟩
    go_wp2_with fail
    refine (awake_any _).mono ?_
    rintro e w1 ⟨rfl, hb⟩
    replace hb := Lib.hid hb
    go_wp2_with fail
    go_ret
    exact ⟨rfl, hb.out⟩
  | true =>
    have HS1 := Lib.hid hs1
    clear hs1
    cases hs2 : smallB ys 0 with
    | false =>
      have HS := Lib.hid hs2
      clear hs2
      go_enter Try.func7, Try.ntmps7
      go_wp2_with fail
      refine (Small_any H1.out F1.out _ _ _).mono ?_
      rw [HS1.out]
      rintro e w' ⟨rfl, rfl⟩
      go_wp2_with fail
      refine (Small_any H2.out F2.out _ _ _).mono ?_
      rw [HS.out]
      rintro e w' ⟨rfl, rfl⟩
      go_wp2_with fail
      refine (awake_any _).mono ?_
      rintro e w1 ⟨rfl, hb⟩
      replace hb := Lib.hid hb
      go_wp2_with fail
      go_ret
      exact ⟨rfl, hb.out⟩
    | true =>
      have HS2 := Lib.hid hs2
      clear hs2
      have HSame := Lib.hid (same_right xs ys)
      have HSelf := Lib.hid (same_self xs)
      cases hr : rightB xs with
      | false =>
        have HR := Lib.hid hr
        rw [hr] at HSame HSelf
        clear hr
        go_enter Try.func7, Try.ntmps7
        go_wp2_with fail
        refine (Small_any H1.out F1.out _ _ _).mono ?_
        rw [HS1.out]
        rintro e w' ⟨rfl, rfl⟩
        go_wp2_with fail
        refine (Small_any H2.out F2.out _ _ _).mono ?_
        rw [HS2.out]
        rintro e w' ⟨rfl, rfl⟩
        go_wp2_with fail
        refine (RefRight_any H1.out F1.out).mono ?_
        rw [HR.out]
        rintro e w1 ⟨rfl, hb1⟩
        replace hb1 := Lib.hid hb1
        go_wp2_with fail
        refine (Same_any (H1.out.next hb1.out) (H2.out.next hb1.out) F1.out F2.out).mono ?_
        rw [HSame.out, Bool.false_and]
        rintro e w2 ⟨rfl, hb2⟩
        have HB2 := Lib.hid (below_next hb1.out hb2)
        clear hb2
        go_wp2_with fail
        refine (Same_any (H1.out.next HB2.out) (H1.out.next HB2.out) F1.out F1.out).mono ?_
        rw [HSelf.out]
        rintro e w3 ⟨rfl, hb3⟩
        have HB3 := Lib.hid (below_next HB2.out hb3)
        clear hb3
        go_wp2_with fail
        refine (awake_any _).mono ?_
        rintro e w4 ⟨rfl, hb4⟩
        have HB4 := Lib.hid (below_next HB3.out hb4)
        clear hb4
        go_wp2_with fail
        go_ret
        exact ⟨rfl, HB4.out⟩
      | true =>
        have HR := Lib.hid hr
        rw [hr] at HSame HSelf
        clear hr
        obtain ⟨q, hq⟩ : ∃ q, eqB xs ys = q := ⟨_, rfl⟩
        rw [hq, Bool.true_and] at HSame
        have HQ := Lib.hid hq
        clear hq
        have hqq := bool_beq_self q
        go_enter Try.func7, Try.ntmps7
        go_wp2_with fail
        refine (Small_any H1.out F1.out _ _ _).mono ?_
        rw [HS1.out]
        rintro e w' ⟨rfl, rfl⟩
        go_wp2_with fail
        refine (Small_any H2.out F2.out _ _ _).mono ?_
        rw [HS2.out]
        rintro e w' ⟨rfl, rfl⟩
        go_wp2_with fail
        refine (RefRight_any H1.out F1.out).mono ?_
        rw [HR.out]
        rintro e w1 ⟨rfl, hb1⟩
        replace hb1 := Lib.hid hb1
        go_wp2_with fail
        refine (Same_any (H1.out.next hb1.out) (H2.out.next hb1.out) F1.out F2.out).mono ?_
        rw [HSame.out]
        rintro e w2 ⟨rfl, hb2⟩
        have HB2 := Lib.hid (below_next hb1.out hb2)
        clear hb2
        go_wp2_with fail
        refine (RefEqual_any (H1.out.next HB2.out) (H2.out.next HB2.out) F1.out F2.out).mono ?_
        rw [HQ.out]
        rintro e w3 ⟨rfl, hb3⟩
        have HB3 := Lib.hid (below_next HB2.out hb3)
        clear hb3
        go_wp2_with fail
        refine (Same_any (H1.out.next HB3.out) (H1.out.next HB3.out) F1.out F1.out).mono ?_
        rw [HSelf.out]
        rintro e w4 ⟨rfl, hb4⟩
        have HB4 := Lib.hid (below_next HB3.out hb4)
        clear hb4
        go_wp2_with fail
        refine (awake_any _).mono ?_
        rintro e w5 ⟨rfl, hb5⟩
        have HB5 := Lib.hid (below_next HB4.out hb5)
        clear hb5
        go_wp2_with fail
        go_ret
        exact ⟨rfl, HB5.out⟩
end Go.Proofs.Ytphmemopabgaeaa
