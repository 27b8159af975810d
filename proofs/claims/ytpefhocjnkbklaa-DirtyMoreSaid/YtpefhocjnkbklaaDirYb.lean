/- Bitmaps: the walks of DirtyMore and DirtyJoins. -/
import Derived.Test.YtpefhocjnkbklaaDirX
namespace Go.Proofs.Ytpefhocjnkbklaa
open Go.RowKit

theorem joinE_not {a b : List Bt} (h : (bitsOk a && bitsOk b) = false) : joinE a b = 1 ∧ joinR a b = [] := by unfold joinE joinR; rw [h]; exact ⟨rfl, rfl⟩

set_option maxHeartbeats 4000000 in
set_option maxRecDepth 100000 in
theorem DirtyJoins_walk {w : World} {A1 A2 : Option Addr} {c1 c2 : Nat} {a b : List Bt} (h1 : BtsAt w w.heap.size A1 a) (hf1 : BtsFit a) (h2 : BtsAt w w.heap.size A2 b) (hf2 : BtsFit b) :
    Calls Try.prog 4 #[.slice A1 a.length c1, .slice A2 b.length c2] w fun e w' => e = .returned (.bool true) ∧ Below w.heap.size w w' := by
  have H1 := Lib.hid h1
  have H2 := Lib.hid h2
  have F1 := Lib.hid hf1
  have F2 := Lib.hid hf2
  have hl1 := hf1.1
  have hl2 := hf2.1
  clear h1 h2 hf1 hf2
  by_cases g1 : 300 < a.length
  · have hd : decide ((300 : Int) < (a.length : Int)) = true := by rw [decide_eq_true_iff]; omega
    go_enter Try.func4, Try.ntmps4
    go_wp2_with fail
    refine (awake10_any _).mono ?_
    rintro e w4 ⟨rfl, hb4⟩
    replace hb4 := Lib.hid hb4
    go_wp2_with fail
    go_ret
    exact ⟨rfl, hb4.out⟩
  · have hd : decide ((300 : Int) < (a.length : Int)) = false := by rw [decide_eq_false_iff_not]; omega
    by_cases g2 : 300 < b.length
    · have hd2 : decide ((300 : Int) < (b.length : Int)) = true := by rw [decide_eq_true_iff]; omega
      go_enter Try.func4, Try.ntmps4
      go_wp2_with fail
      refine (awake10_any _).mono ?_
      rintro e w4 ⟨rfl, hb4⟩
      replace hb4 := Lib.hid hb4
      go_wp2_with fail
      go_ret
      exact ⟨rfl, hb4.out⟩
    · have hd2 : decide ((300 : Int) < (b.length : Int)) = false := by rw [decide_eq_false_iff_not]; omega
      have HJ1 := Lib.hid fun c1 c2 => Join_any (c1 := c1) (c2 := c2) H1.out H2.out F1.out F2.out
      have HJ2 := Lib.hid fun c1 c2 w1 (h : Below w.heap.size w w1) => Join_any (c1 := c1) (c2 := c2) (H2.out.next h) (H1.out.next h) F2.out F1.out
      have HJ3 := Lib.hid fun c1 c2 w1 (h : Below w.heap.size w w1) => DocJoin_any (c1 := c1) (c2 := c2) (H1.out.next h) (H2.out.next h) F1.out F2.out
      cases hr : bitsOk a && bitsOk b with
      | false =>
        have hr2 : (bitsOk b && bitsOk a) = false := by rw [Bool.and_comm]; exact hr
        rw [hr] at HJ3
        rw [(joinE_not hr).1, (joinE_not hr).2] at HJ1
        rw [(joinE_not hr2).1, (joinE_not hr2).2] at HJ2
        rw [(joinE_not hr).2] at HJ3
        clear hr hr2
        go_enter Try.func4, Try.ntmps4
        go_wp2_with fail
        refine (HJ1.out _ _).mono ?_
        rintro e w1 ⟨B1, d1, rfl, _, hb1⟩
        replace hb1 := Lib.hid hb1
        go_wp2_with fail
        refine (HJ2.out _ _ _ hb1.out).mono ?_
        rintro e w2 ⟨B2, d2, rfl, _, hb2⟩
        have HB2 := Lib.hid (below_next hb1.out hb2)
        clear hb2 hb1
        go_wp2_with fail
        refine (HJ3.out _ _ _ HB2.out).mono ?_
        rintro e w3 ⟨B3, d3, rfl, _, hb3⟩
        have HB3 := Lib.hid (below_next HB2.out hb3)
        clear hb3
        go_wp2_with fail
        refine (awake10_any _).mono ?_
        rintro e w4 ⟨rfl, hb4⟩
        have HB4 := Lib.hid (below_next HB3.out hb4)
        clear hb4
        go_wp2_with fail
        go_ret
        exact ⟨rfl, HB4.out⟩
      | true =>
        have hab := (Bool.and_eq_true _ _).mp hr
        have e2 : joinM b a = joinM a b := joinM_comm hab.2 hab.1
        have hjl : (joinM a b).length ≤ 9223372036854775807 := (joinM_fit hab.1 hab.2).1
        rw [hr] at HJ3
        rw [(joinE_ok hab.1 hab.2).1, (joinE_ok hab.1 hab.2).2] at HJ1
        rw [(joinE_ok hab.2 hab.1).1, (joinE_ok hab.2 hab.1).2, e2] at HJ2
        rw [(joinE_ok hab.1 hab.2).2] at HJ3
        generalize joinM a b = J at *
        clear hr hab e2
        have HJl := Lib.hid hjl
        clear hjl
        go_enter Try.func4, Try.ntmps4
        go_wp2_with fail
        refine (HJ1.out _ _).mono ?_
        rintro e w1 ⟨B1, d1, rfl, hA1, hb1⟩
        have HA1 := Lib.hid hA1
        replace hb1 := Lib.hid hb1
        clear hA1
        go_wp2_with fail
        refine (HJ2.out _ _ _ hb1.out).mono ?_
        rintro e w2 ⟨B2, d2, rfl, hA2, hb2⟩
        have HA1' := Lib.hid (HA1.out.next hb2)
        have HA2 := Lib.hid hA2
        have HB2 := Lib.hid (below_next hb1.out hb2)
        clear hb2 hb1 hA2 HA1
        go_wp2_with fail
        refine (HJ3.out _ _ _ HB2.out).mono ?_
        rintro e w3 ⟨B3, d3, rfl, hA3, hb3⟩
        have HA1'' := Lib.hid (HA1'.out.next hb3)
        have HA2' := Lib.hid (HA2.out.next hb3)
        have HA3 := Lib.hid hA3
        have HB3 := Lib.hid (below_next HB2.out hb3)
        clear hb3 hA3 HA1' HA2
        go_wp2_with fail
        refine (DocEqual_any HA1''.out HA3.out HJl.out).mono ?_
        rw [eqBt_self]
        rintro e w5 ⟨rfl, hb5⟩
        have HB5 := Lib.hid (below_next HB3.out hb5)
        have HE5 := Lib.hid fun c1 c2 => DocEqual_any (c1 := c1) (c2 := c2) (HA2'.out.next hb5) (HA3.out.next hb5) HJl.out
        rw [eqBt_self] at HE5
        clear hb5
        go_wp2_with fail
        refine (HE5.out _ _).mono ?_
        rintro e w6 ⟨rfl, hb6⟩
        have HB6 := Lib.hid (below_next HB5.out hb6)
        clear hb6
        go_wp2_with fail
        refine (awake10_any _).mono ?_
        rintro e w4 ⟨rfl, hb4⟩
        have HB4 := Lib.hid (below_next HB6.out hb4)
        clear hb4
        go_wp2_with fail
        go_ret
        exact ⟨rfl, HB4.out⟩

set_option maxHeartbeats 4000000 in
set_option maxRecDepth 100000 in
theorem DirtyMore_walk {w : World} {A1 A2 : Option Addr} {c1 c2 : Nat} {a b : List Bt} (h1 : BtsAt w w.heap.size A1 a) (hf1 : BtsFit a) (h2 : BtsAt w w.heap.size A2 b) (hf2 : BtsFit b) (v k : Int) :
    Calls Try.prog 9 #[.slice A1 a.length c1, .slice A2 b.length c2, .int .i64 v, .int .i64 k] w fun e w' => e = .returned (.bool true) ∧ Below w.heap.size w w' := by
  have H1 := Lib.hid h1
  have H2 := Lib.hid h2
  have F1 := Lib.hid hf1
  have F2 := Lib.hid hf2
  have hl1 := hf1.1
  have hl2 := hf2.1
  clear h1 h2 hf1 hf2
  by_cases g1 : 300 < a.length
  · have hd : decide ((300 : Int) < (a.length : Int)) = true := by rw [decide_eq_true_iff]; omega
    go_enter Try.func9, Try.ntmps9
    go_wp2_with fail
    refine (awake10_any _).mono ?_
    rintro e w4 ⟨rfl, hb4⟩
    replace hb4 := Lib.hid hb4
    go_wp2_with fail
    go_ret
    exact ⟨rfl, hb4.out⟩
  · have hd : decide ((300 : Int) < (a.length : Int)) = false := by rw [decide_eq_false_iff_not]; omega
    by_cases g2 : 300 < b.length
    · have hd2 : decide ((300 : Int) < (b.length : Int)) = true := by rw [decide_eq_true_iff]; omega
      go_enter Try.func9, Try.ntmps9
      go_wp2_with fail
      refine (awake10_any _).mono ?_
      rintro e w4 ⟨rfl, hb4⟩
      replace hb4 := Lib.hid hb4
      go_wp2_with fail
      go_ret
      exact ⟨rfl, hb4.out⟩
    · have hd2 : decide ((300 : Int) < (b.length : Int)) = false := by rw [decide_eq_false_iff_not]; omega
      have HJ1 := Lib.hid fun c1 c2 => Join_any (c1 := c1) (c2 := c2) H1.out H2.out F1.out F2.out
      cases hr : bitsOk a && bitsOk b with
      | false =>
        rw [(joinE_not hr).1, (joinE_not hr).2] at HJ1
        clear hr
        go_enter Try.func9, Try.ntmps9
        go_wp2_with fail
        refine (HJ1.out _ _).mono ?_
        rintro e w1 ⟨B1, d1, rfl, _, hb1⟩
        replace hb1 := Lib.hid hb1
        go_wp2_with fail
        refine (awake10_any _).mono ?_
        rintro e w4 ⟨rfl, hb4⟩
        have HB4 := Lib.hid (below_next hb1.out hb4)
        clear hb4
        go_wp2_with fail
        go_ret
        exact ⟨rfl, HB4.out⟩
      | true =>
        have hab := (Bool.and_eq_true _ _).mp hr
        have HJf := Lib.hid (joinM_fit hab.1 hab.2)
        have HJo := Lib.hid (joinM_ok hab.1 hab.2)
        have hhas := has_join hab.1 hab.2 v k
        have hcnt := count_join hab.1 hab.2 (fun x hx => (F1.out.2 x hx).1) (fun x hx => (F2.out.2 x hx).1)
        rw [(joinE_ok hab.1 hab.2).1, (joinE_ok hab.1 hab.2).2] at HJ1
        generalize joinM a b = J at *
        obtain ⟨p, hp⟩ : ∃ p, hasB a v k = p := ⟨_, rfl⟩
        obtain ⟨q, hq⟩ : ∃ q, hasB b v k = q := ⟨_, rfl⟩
        rw [hp, hq] at hhas
        have HH0 : Hid (∀ w1 B d, BtsAt w1 w1.heap.size B J → Calls Try.prog 13 #[.slice B J.length d, .int .i64 v, .int .i64 k] w1 fun e w' => e = .returned (.bool (p || q)) ∧ Below w1.heap.size w1 w') := Lib.hid fun w1 B d h => by rw [← hhas]; exact DirHas_any h HJf.out v k
        have HH1 : Hid (∀ w1 c, Below w.heap.size w w1 → Calls Try.prog 13 #[.slice A1 a.length c, .int .i64 v, .int .i64 k] w1 fun e w' => e = .returned (.bool p) ∧ Below w1.heap.size w1 w') := Lib.hid fun w1 c h => by rw [← hp]; exact DirHas_any (H1.out.next h) F1.out v k
        have HH2 : Hid (∀ w1 c, Below w.heap.size w w1 → Calls Try.prog 13 #[.slice A2 b.length c, .int .i64 v, .int .i64 k] w1 fun e w' => e = .returned (.bool q) ∧ Below w1.heap.size w1 w') := Lib.hid fun w1 c h => by rw [← hq]; exact DirHas_any (H2.out.next h) F2.out v k
        have hn1 := countM_le a
        have hn2 := countM_le b
        have hn0 := countM_le J
        obtain ⟨n0, hn0e⟩ : ∃ n, countM J = n := ⟨_, rfl⟩
        obtain ⟨n1, hn1e⟩ : ∃ n, countM a = n := ⟨_, rfl⟩
        obtain ⟨n2, hn2e⟩ : ∃ n, countM b = n := ⟨_, rfl⟩
        rw [hn0e, hn1e, hn2e] at hcnt
        rw [hn0e] at hn0
        rw [hn1e] at hn1
        rw [hn2e] at hn2
        have HC0 : Hid (∀ w1 B d, BtsAt w1 w1.heap.size B J → Calls Try.prog 31 #[.slice B J.length d] w1 fun e w' => e = .returned (.int .i64 n0) ∧ Below w1.heap.size w1 w') := Lib.hid fun w1 B d h => by rw [← hn0e]; exact Count_any h HJf.out
        have HC1 : Hid (∀ w1 c, Below w.heap.size w w1 → Calls Try.prog 31 #[.slice A1 a.length c] w1 fun e w' => e = .returned (.int .i64 n1) ∧ Below w1.heap.size w1 w') := Lib.hid fun w1 c h => by rw [← hn1e]; exact Count_any (H1.out.next h) F1.out
        have HC2 : Hid (∀ w1 c, Below w.heap.size w w1 → Calls Try.prog 31 #[.slice A2 b.length c] w1 fun e w' => e = .returned (.int .i64 n2) ∧ Below w1.heap.size w1 w') := Lib.hid fun w1 c h => by rw [← hn2e]; exact Count_any (H2.out.next h) F2.out
        have HRt : Hid (∀ w1 B d, BtsAt w1 w1.heap.size B J → Calls Try.prog 12 #[.slice B J.length d] w1 fun e w' => e = .returned (.bool true) ∧ Below w1.heap.size w1 w') := Lib.hid fun w1 B d h => by
          refine (DirRight_any h HJf.out.1).mono ?_; rw [HJo.out]; exact fun _ _ h => h
        have hw : IntKind.i64.wrap ((n1 : Int) + (n2 : Int)) = (n1 : Int) + (n2 : Int) := by rw [IntKind.wrap_i64]; omega
        have hle : decide ((n0 : Int) ≤ (n1 : Int) + (n2 : Int)) = true := by rw [decide_eq_true_iff]; omega
        have hpq : ((p || q) == (p || q)) = true := by simp
        clear hr hab hhas hp hq hn0e hn1e hn2e
        go_enter Try.func9, Try.ntmps9
        go_wp2_with fail
        refine (HJ1.out _ _).mono ?_
        rintro e w1 ⟨B1, d1, rfl, hA1, hb1⟩
        have HA1 := Lib.hid hA1
        replace hb1 := Lib.hid hb1
        clear hA1
        go_wp2_with fail
        refine (HH0.out _ _ _ HA1.out).mono ?_
        rintro e w2 ⟨rfl, hb2⟩
        have HA2 := Lib.hid (HA1.out.next hb2)
        have HB2 := Lib.hid (below_next hb1.out hb2)
        clear hb2 hb1 HA1
        go_wp2_with fail
        refine (HH1.out _ _ HB2.out).mono ?_
        rintro e w3 ⟨rfl, hb3⟩
        have HA3 := Lib.hid (HA2.out.next hb3)
        have HB3 := Lib.hid (below_next HB2.out hb3)
        clear hb3 HA2
        have HFin : Hid (∀ wz, Below w3.heap.size w3 wz → BtsAt wz wz.heap.size B1 J ∧ Below w.heap.size w wz) := Lib.hid fun wz h => ⟨HA3.out.next h, below_next HB3.out h⟩
        cases p with
        | true =>
          go_wp2_with fail
          refine (HC0.out _ _ _ HA3.out).mono ?_
          rintro e w5 ⟨rfl, hb5⟩
          have HB5 := Lib.hid hb5
          clear hb5
          go_wp2_with fail
          refine (HC1.out _ _ (HFin.out _ HB5.out).2).mono ?_
          rintro e w6 ⟨rfl, hb6⟩
          have HB6 := Lib.hid (below_next HB5.out hb6)
          clear hb6
          go_wp2_with fail
          refine (HC2.out _ _ (HFin.out _ HB6.out).2).mono ?_
          rintro e w7 ⟨rfl, hb7⟩
          have HB7 := Lib.hid (below_next HB6.out hb7)
          clear hb7
          go_wp2_with fail
          refine (HRt.out _ _ _ (HFin.out _ HB7.out).1).mono ?_
          rintro e w8 ⟨rfl, hb8⟩
          have HB8 := Lib.hid (below_next HB7.out hb8)
          clear hb8
          go_wp2_with fail
          refine (awake10_any _).mono ?_
          rintro e w4 ⟨rfl, hb4⟩
          have HB4 := Lib.hid (below_next HB8.out hb4)
          clear hb4
          go_wp2_with fail
          go_ret
          exact ⟨rfl, (HFin.out _ HB4.out).2⟩
        | false =>
          go_wp2_with fail
          refine (HH2.out _ _ HB3.out).mono ?_
          rintro e wq ⟨rfl, hbq⟩
          have HBq := Lib.hid hbq
          clear hbq
          have hq2 : (q == q) = true := by simp
          go_wp2_with fail
          refine (HC0.out _ _ _ (HFin.out _ HBq.out).1).mono ?_
          rintro e w5 ⟨rfl, hb5⟩
          have HB5 := Lib.hid (below_next HBq.out hb5)
          clear hb5
          go_wp2_with fail
          refine (HC1.out _ _ (HFin.out _ HB5.out).2).mono ?_
          rintro e w6 ⟨rfl, hb6⟩
          have HB6 := Lib.hid (below_next HB5.out hb6)
          clear hb6
          go_wp2_with fail
          refine (HC2.out _ _ (HFin.out _ HB6.out).2).mono ?_
          rintro e w7 ⟨rfl, hb7⟩
          have HB7 := Lib.hid (below_next HB6.out hb7)
          clear hb7
          go_wp2_with fail
          refine (HRt.out _ _ _ (HFin.out _ HB7.out).1).mono ?_
          rintro e w8 ⟨rfl, hb8⟩
          have HB8 := Lib.hid (below_next HB7.out hb8)
          clear hb8
          go_wp2_with fail
          refine (awake10_any _).mono ?_
          rintro e w4 ⟨rfl, hb4⟩
          have HB4 := Lib.hid (below_next HB8.out hb4)
          clear hb4
          go_wp2_with fail
          go_ret
          exact ⟨rfl, (HFin.out _ HB4.out).2⟩
end Go.Proofs.Ytpefhocjnkbklaa
