/- The walk of QueueNews. -/
import Derived.Test.YtpmllckfijfehaaQueMb
namespace Go.Proofs.Ytpmllckfijfehaa
open Go.Shelf Go.RowKit Go.Lib Go.Sort

theorem qnew_no {n : Int} (h : ¬ (0 ≤ n ∧ n ≤ 1099511627776)) : newQ n = quNone ∧ newE n = 1 := ⟨by unfold newQ; rw [if_neg (by rw [okN_iff]; exact h)], by unfold newE; rw [if_neg (by rw [okN_iff]; exact h)]⟩
theorem qnew_yes {n : Int} (h : 0 ≤ n ∧ n ≤ 1099511627776) : newQ n = quNew n ∧ newE n = 0 := ⟨by unfold newQ; rw [if_pos ((okN_iff n).2 h)], by unfold newE; rw [if_pos ((okN_iff n).2 h)]⟩

set_option maxHeartbeats 8000000 in
set_option maxRecDepth 100000 in
theorem QueueNews_walk (seq : Int) (w : World) : Calls Try.prog 5 #[.int .i64 seq] w fun e w' => e = .returned (.bool true) ∧ Below w.heap.size w w' := by
  have HB := Lib.hid (Below.refl w.heap.size w)
  cases g1 : decide (seq < 0) with
  | true =>
    have hN := qnew_no (n := seq) (by have := of_decide_eq_true g1; omega)
    go_enter Try.func5, Try.ntmps5
    go_wp2_with fail
    refine (QNew_any seq w).mono ?_
    rw [hN.1, hN.2]
    rintro e w1 ⟨q1, hq1, rfl, hA1, hb⟩
    obtain ⟨A, c, A2, c2, rfl⟩ := quv_bare hq1
    simp only [QuV.val, List.length_nil] at *
    have HQa := Lib.hid hA1
    replace HB := Lib.hid (below_next HB.out hb)
    clear hq1 hA1 hb
    go_wp2_with fail
    obtain ⟨w2, hw2⟩ : ∃ V, V = w1.alloc (.cells #[.slice A 0 c, .slice A2 0 c2, .int .i64 0, .int .i64 0] 25 (0, 0)) := ⟨_, rfl⟩
    have hb : Below w1.heap.size w1 w2 := by rw [hw2]; exact below_one _ _
    have HFa : Hid (Four w2 w1.heap.size (.slice A 0 c) (.slice A2 0 c2) (.int .i64 0) (.int .i64 0) 25) := Lib.hid (by rw [hw2]; exact Four.new _ _ _ _ _ _)
    rw [← hw2]
    replace HQa := Lib.hid (HQa.out.next hb)
    replace HB := Lib.hid (below_next HB.out hb)
    clear hb hw2
    generalize w1.heap.size = Pa at HFa ⊢
    have ac0 := HFa.out.c0
    have ac1 := HFa.out.c1
    have ac2 := HFa.out.c2
    have ac3 := HFa.out.c3
    refine (QEq_same (qa := ⟨A, c, [], A2, c2, [], 0, 0⟩) (qb := quvNone) HQa.out (quvNone_at _ _) rfl (by simp) (by simp) (by simp)).mono ?_
    rintro e w3 ⟨rfl, hb⟩
    clear ac0 ac1 ac2 ac3
    replace HFa := Lib.hid (HFa.out.kept hb)
    replace HQa := Lib.hid (HQa.out.next hb)
    replace HB := Lib.hid (below_next HB.out hb)
    clear hb
    have ac0 := HFa.out.c0
    have ac1 := HFa.out.c1
    have ac2 := HFa.out.c2
    have ac3 := HFa.out.c3
    go_wp2_with fail
    refine (awake12_any _).mono ?_
    rintro e w4 ⟨rfl, hb⟩
    clear ac0 ac1 ac2 ac3
    replace HFa := Lib.hid (HFa.out.kept hb)
    replace HQa := Lib.hid (HQa.out.next hb)
    replace HB := Lib.hid (below_next HB.out hb)
    clear hb
    go_wp2_with fail
    go_ret
    exact ⟨rfl, HB.out⟩
  | false =>
  cases g2 : decide ((1099511627776 : Int) < seq) with
  | true =>
    have hN := qnew_no (n := seq) (by have := of_decide_eq_true g2; omega)
    go_enter Try.func5, Try.ntmps5
    go_wp2_with fail
    refine (QNew_any seq w).mono ?_
    rw [hN.1, hN.2]
    rintro e w1 ⟨q1, hq1, rfl, hA1, hb⟩
    obtain ⟨A, c, A2, c2, rfl⟩ := quv_bare hq1
    simp only [QuV.val, List.length_nil] at *
    have HQa := Lib.hid hA1
    replace HB := Lib.hid (below_next HB.out hb)
    clear hq1 hA1 hb
    go_wp2_with fail
    obtain ⟨w2, hw2⟩ : ∃ V, V = w1.alloc (.cells #[.slice A 0 c, .slice A2 0 c2, .int .i64 0, .int .i64 0] 25 (0, 0)) := ⟨_, rfl⟩
    have hb : Below w1.heap.size w1 w2 := by rw [hw2]; exact below_one _ _
    have HFa : Hid (Four w2 w1.heap.size (.slice A 0 c) (.slice A2 0 c2) (.int .i64 0) (.int .i64 0) 25) := Lib.hid (by rw [hw2]; exact Four.new _ _ _ _ _ _)
    rw [← hw2]
    replace HQa := Lib.hid (HQa.out.next hb)
    replace HB := Lib.hid (below_next HB.out hb)
    clear hb hw2
    generalize w1.heap.size = Pa at HFa ⊢
    have ac0 := HFa.out.c0
    have ac1 := HFa.out.c1
    have ac2 := HFa.out.c2
    have ac3 := HFa.out.c3
    refine (QEq_same (qa := ⟨A, c, [], A2, c2, [], 0, 0⟩) (qb := quvNone) HQa.out (quvNone_at _ _) rfl (by simp) (by simp) (by simp)).mono ?_
    rintro e w3 ⟨rfl, hb⟩
    clear ac0 ac1 ac2 ac3
    replace HFa := Lib.hid (HFa.out.kept hb)
    replace HQa := Lib.hid (HQa.out.next hb)
    replace HB := Lib.hid (below_next HB.out hb)
    clear hb
    have ac0 := HFa.out.c0
    have ac1 := HFa.out.c1
    have ac2 := HFa.out.c2
    have ac3 := HFa.out.c3
    go_wp2_with fail
    refine (awake12_any _).mono ?_
    rintro e w4 ⟨rfl, hb⟩
    clear ac0 ac1 ac2 ac3
    replace HFa := Lib.hid (HFa.out.kept hb)
    replace HQa := Lib.hid (HQa.out.next hb)
    replace HB := Lib.hid (below_next HB.out hb)
    clear hb
    go_wp2_with fail
    go_ret
    exact ⟨rfl, HB.out⟩
  | false =>
  have hs : 0 ≤ seq ∧ seq ≤ 1099511627776 := by have := of_decide_eq_false g1; have := of_decide_eq_false g2; omega
  have hN := qnew_yes hs
  have hR : quRight (quNew seq) = true := (quRight_iff _).2 (new_ok ((okN_iff _).2 hs))
  have HR := Lib.hid hR
  have hLd : qLoadN (quNew seq) = 0 ∧ qLoadB (quNew seq) = 0 := ⟨by unfold qLoadN; rw [if_pos hR]; show seq - seq = 0; omega, by unfold qLoadB; rw [if_pos hR]; rfl⟩
  have HLd := Lib.hid hLd
  have HTl : Hid (qTail (quNew seq) = seq) := Lib.hid (by unfold qTail; rw [if_pos hR]; rfl)
  have hss : (seq == seq) = true := by simp
  clear hs hR hLd
  go_enter Try.func5, Try.ntmps5
  go_wp2_with fail
  refine (QNew_any seq w).mono ?_
  rw [hN.1, hN.2]
  rintro e w1 ⟨q1, hq1, rfl, hA1, hb⟩
  obtain ⟨A, c, A2, c2, rfl⟩ := quv_bare hq1
  simp only [QuV.val, List.length_nil] at *
  have HQa := Lib.hid hA1
  replace HB := Lib.hid (below_next HB.out hb)
  clear hq1 hA1 hb
  have HQU : Hid (QuV.qu ⟨A, c, [], A2, c2, [], seq, seq⟩ = quNew seq) := Lib.hid rfl
  go_wp2_with fail
  obtain ⟨w2, hw2⟩ : ∃ V, V = w1.alloc (.cells #[.slice A 0 c, .slice A2 0 c2, .int .i64 seq, .int .i64 seq] 25 (0, 0)) := ⟨_, rfl⟩
  have hb : Below w1.heap.size w1 w2 := by rw [hw2]; exact below_one _ _
  have HFa : Hid (Four w2 w1.heap.size (.slice A 0 c) (.slice A2 0 c2) (.int .i64 seq) (.int .i64 seq) 25) := Lib.hid (by rw [hw2]; exact Four.new _ _ _ _ _ _)
  rw [← hw2]
  replace HQa := Lib.hid (HQa.out.next hb)
  replace HB := Lib.hid (below_next HB.out hb)
  clear hb hw2
  generalize w1.heap.size = Pa at HFa ⊢
  have ac0 := HFa.out.c0
  have ac1 := HFa.out.c1
  have ac2 := HFa.out.c2
  have ac3 := HFa.out.c3
  have HL := Lib.hid (QLoad_any (q := ⟨A, c, [], A2, c2, [], seq, seq⟩) HQa.out ⟨by simp, by simp, by simp⟩ (by simp [joinS, plainS]) (by rw [HQU.out]; exact Nat.zero_le _))
  rw [HQU.out, HLd.out.1, HLd.out.2] at HL
  refine (HL.out).mono ?_
  rintro e w3 ⟨rfl, hb⟩
  clear ac0 ac1 ac2 ac3
  replace HFa := Lib.hid (HFa.out.kept hb)
  replace HQa := Lib.hid (HQa.out.next hb)
  replace HB := Lib.hid (below_next HB.out hb)
  clear hb
  clear HL
  have ac0 := HFa.out.c0
  have ac1 := HFa.out.c1
  have ac2 := HFa.out.c2
  have ac3 := HFa.out.c3
  go_wp2_with fail
  refine (QEq_same (qa := ⟨A, c, [], A2, c2, [], seq, seq⟩) (qb := ⟨none, 0, [], none, 0, [], seq, seq⟩) HQa.out ⟨SetsAt.nil _ _ _, .inl rfl, fun _ => rfl, fun _ => rfl⟩ rfl (by simp) (by simp) (by simp)).mono ?_
  rintro e w4 ⟨rfl, hb⟩
  clear ac0 ac1 ac2 ac3
  replace HFa := Lib.hid (HFa.out.kept hb)
  replace HQa := Lib.hid (HQa.out.next hb)
  replace HB := Lib.hid (below_next HB.out hb)
  clear hb
  have ac0 := HFa.out.c0
  have ac1 := HFa.out.c1
  have ac2 := HFa.out.c2
  have ac3 := HFa.out.c3
  have HL := Lib.hid (QRight_any (q := ⟨A, c, [], A2, c2, [], seq, seq⟩) HQa.out (by simp) (by simp) (by simp))
  rw [HQU.out, HR.out] at HL
  go_wp2_with fail
  refine (HL.out).mono ?_
  rintro e w5 ⟨rfl, hb⟩
  clear ac0 ac1 ac2 ac3
  replace HFa := Lib.hid (HFa.out.kept hb)
  replace HQa := Lib.hid (HQa.out.next hb)
  replace HB := Lib.hid (below_next HB.out hb)
  clear hb
  clear HL
  have ac0 := HFa.out.c0
  have ac1 := HFa.out.c1
  have ac2 := HFa.out.c2
  have ac3 := HFa.out.c3
  have HL := Lib.hid (QTail_any (q := ⟨A, c, [], A2, c2, [], seq, seq⟩) HQa.out ⟨by simp, by simp, by simp⟩)
  rw [HQU.out, HTl.out] at HL
  go_wp2_with fail
  refine (HL.out).mono ?_
  rintro e w6 ⟨rfl, hb⟩
  clear ac0 ac1 ac2 ac3
  replace HFa := Lib.hid (HFa.out.kept hb)
  replace HQa := Lib.hid (HQa.out.next hb)
  replace HB := Lib.hid (below_next HB.out hb)
  clear hb
  clear HL
  have ac0 := HFa.out.c0
  have ac1 := HFa.out.c1
  have ac2 := HFa.out.c2
  have ac3 := HFa.out.c3
  go_wp2_with fail
  refine (awake12_any _).mono ?_
  rintro e w7 ⟨rfl, hb⟩
  clear ac0 ac1 ac2 ac3
  replace HFa := Lib.hid (HFa.out.kept hb)
  replace HQa := Lib.hid (HQa.out.next hb)
  replace HB := Lib.hid (below_next HB.out hb)
  clear hb
  go_wp2_with fail
  go_ret
  exact ⟨rfl, HB.out⟩
end Go.Proofs.Ytpmllckfijfehaa
