/- Contract of the function Right of the package msg. -/
import Derived.Test.YtkpoeigoocbgeaaMpG
import Derived.Test.YtkpoeigoocbgeaaLatSeq
namespace Go.Proofs.Ytkpoeigoocbgeaa
open Go.RowKit

theorem mgOkB_nums (m : Mg) : mgOkB m = (decide (1 ≤ m.kind) && (decide (m.kind ≤ 9) && ([m.epoch, m.seq, m.n, m.of_, m.from_, m.to_].all fitB && (decide (m.from_ ≤ m.to_) && (lined m.line && ((noneB m.anc m.ancS || placedB m.anc m.ancS) && (bitsOk m.bits && (blankOk m.sizes && writable m.ws)))))))) := by
  unfold mgOkB
  rw [show decide (0 < m.kind) = decide (1 ≤ m.kind) from by rw [decide_eq_decide]; omega, show decide (m.kind < 10) = decide (m.kind ≤ 9) from by rw [decide_eq_decide]; omega]
  simp only [List.all_cons, List.all_nil, Bool.and_true, Bool.and_assoc]
/-- The test of a message falls with any of its parts. -/
structure MpWhy (R : Bool) (k1 k2 nu le li an bi sz ws : Bool) : Prop where
  is_ : R = (k1 && (k2 && (nu && (le && (li && (an && (bi && (sz && ws))))))))

set_option maxHeartbeats 8000000 in
set_option maxRecDepth 100000 in
theorem PRight_any {w : World} (m : Mg) (x : MgM) (h : MgAt w m x) (hf : MgFit m) :
    Calls Try.prog 25 #[m.val x] w fun e w' => e = .returned (.bool (mgOkB m)) ∧ Below w.heap.size w w' := by
  obtain ⟨V, hV⟩ : ∃ V, V = w.alloc (.cells (m.cells x) 52) := ⟨_, rfl⟩
  have hb0 : Below w.heap.size w V := by rw [hV]; exact below_one _ _
  have HX := Lib.hid (show BoxMg V w.heap.size m x from BoxMg.of (by rw [hV]; exact heap_new _ _))
  have HB0 := Lib.hid hb0
  have hm := h.next hb0
  have HM := Lib.hid hm
  have HV := Lib.hid hV
  have HR : Hid (MpWhy (mgOkB m) (decide (1 ≤ m.kind)) (decide (m.kind ≤ 9)) ([m.epoch, m.seq, m.n, m.of_, m.from_, m.to_].all fitB) (decide (m.from_ ≤ m.to_)) (lined m.line) (noneB m.anc m.ancS || placedB m.anc m.ancS) (bitsOk m.bits) (blankOk m.sizes) (writable m.ws)) := Lib.hid ⟨mgOkB_nums m⟩
  have HNu : Hid (Calls Try.prog 51 #[.slice (some ⟨V.heap.size, 0, none⟩) 6 6] (V.alloc (.cells #[.int .i64 m.epoch, .int .i64 m.seq, .int .i64 m.n, .int .i64 m.of_, .int .i64 m.from_, .int .i64 m.to_] 3)) fun e w' => e = .returned (.bool ([m.epoch, m.seq, m.n, m.of_, m.from_, m.to_].all fitB)) ∧ Below V.heap.size V w') := Lib.hid (by
    have := areNums_any (c := 6) (lies_new17 V [m.epoch, m.seq, m.n, m.of_, m.from_, m.to_] 3) (by simp)
    refine this.mono ?_
    rintro e w' ⟨rfl, hb⟩
    exact ⟨rfl, below_next (below_one V _) hb⟩)
  have HLi := Lib.hid (fun W (hb : Below V.heap.size V W) => isLine_any (c := x.lC) (hm.line.next hb) hf.line)
  have HAn := Lib.hid (fun W (hb : Below V.heap.size V W) => isAnchor_any (c := x.aC) (q := m.ancS) (hm.anc.next hb) hf.anc)
  have HBi := Lib.hid (fun W (hb : Below V.heap.size V W) => DirRight_any (c := x.bC) (hm.bits.next hb) hf.bits.1)
  have HSz := Lib.hid (fun W (hb : Below V.heap.size V W) => areSizes_any (c := x.sC) (hm.sizes.next hb) hf.sizes)
  have HWs := Lib.hid (fun W (hb : Below V.heap.size V W) => areWrites_any (c := x.wC) (hm.ws.next hb) hf.ws)
  have HBox := Lib.hid (fun W (hb : Below V.heap.size V W) => HX.out.next hb)
  obtain ⟨c0, c1, c2, c3, c4, c5, c6, c7, c8, c9, c10, c11, c12, c13⟩ := HX.out
  unfold Mg.val Mg.cells
  unfold Mg.cells at HV
  clear h hf hb0 hV hm HM HX
  obtain ⟨kind, epoch, line, seq, n, of_, full, anc, ancS, bits, sizes, from_, to_, ws⟩ := m
  obtain ⟨lA, lC, aA, aC, bA, bC, sA, sC, wA, wC⟩ := x
  dsimp only at *
  obtain ⟨R, hR⟩ : ∃ R, mgOkB ⟨kind, epoch, line, seq, n, of_, full, anc, ancS, bits, sizes, from_, to_, ws⟩ = R := ⟨_, rfl⟩
  rw [hR] at HR ⊢
  clear hR
  obtain ⟨qn, hqn⟩ : ∃ q, [epoch, seq, n, of_, from_, to_].all fitB = q := ⟨_, rfl⟩
  obtain ⟨ql, hql⟩ : ∃ q, lined line = q := ⟨_, rfl⟩
  obtain ⟨qa, hqa⟩ : ∃ q, (noneB anc ancS || placedB anc ancS) = q := ⟨_, rfl⟩
  obtain ⟨qb, hqb⟩ : ∃ q, bitsOk bits = q := ⟨_, rfl⟩
  obtain ⟨qs, hqs⟩ : ∃ q, blankOk sizes = q := ⟨_, rfl⟩
  obtain ⟨qw, hqw⟩ : ∃ q, writable ws = q := ⟨_, rfl⟩
  rw [hqn] at HNu HR
  rw [hql] at HLi HR
  rw [hqa] at HAn HR
  rw [hqb] at HBi HR
  rw [hqs] at HSz HR
  rw [hqw] at HWs HR
  clear hqn hql hqa hqb hqs hqw
  by_cases h1 : 1 ≤ kind
  case neg =>
    have HE : Hid (R = false) := Lib.hid (by have := HR.out.is_; rw [decide_eq_false h1] at this; simpa using this)
    clear HR
    go_enter Try.func25, Try.ntmps25
    go_upto_region 1 with fail
    rw [← HV.out]
    go_wp2_with fail
    go_ret
    exact ⟨congrArg (fun b => Ending.returned (.bool b)) (HE.out.symm), HB0.out⟩
  rw [decide_eq_true h1] at HR
  by_cases h2 : kind ≤ 9
  case neg =>
    have HE : Hid (R = false) := Lib.hid (by have := HR.out.is_; rw [decide_eq_false h2] at this; simpa using this)
    clear HR
    go_enter Try.func25, Try.ntmps25
    go_upto_region 1 with fail
    rw [← HV.out]
    go_wp2_with fail
    go_ret
    exact ⟨congrArg (fun b => Ending.returned (.bool b)) (HE.out.symm), HB0.out⟩
  rw [decide_eq_true h2] at HR
  cases qn with
  | false =>
    have HE : Hid (R = false) := Lib.hid (by have := HR.out.is_; skip; simpa using this)
    clear HR
    go_enter Try.func25, Try.ntmps25
    go_upto_region 1 with fail
    rw [← HV.out]
    go_wp2_with fail
    refine HNu.out.mono ?_
    rintro e u1 ⟨rfl, hb⟩
    have HBu1 := Lib.hid hb
    have HXu := Lib.hid (HBox.out _ hb)
    clear c0 c1 c2 c3 c4 c5 c6 c7 c8 c9 c10 c11 c12 c13 hb
    rename_i hK
    refine hK _ _ ?_
    clear hK
    have a11 := fun z : LatW u1 => (HXu.out.next z.bel).c11
    have a12 := fun z : LatW u1 => (HXu.out.next z.bel).c12
    dsimp only at a11 a12
    refine wpList_of_quiet (C := fun w1 => ∃ p : LatW u1, w1 = p.wd) _ _ _ ⟨⟨u1, Below.refl _ _⟩, rfl⟩ ?_
    (try dsimp only [List.append])
    (repeat (go_big_quiet_step (fail)))
    refine wpQuiet_nil ?_
    intro w9 hw9
    obtain ⟨p9, hw9x⟩ := hw9
    subst hw9x
    have HP9 := Lib.hid p9.bel
    generalize p9.wd = W9 at *
    clear a11 a12 HXu p9
    rename_i q9 k9 hk9 k8
    refine hk9 _ _ ?_
    refine wp_ret ?_
    show bodyPost Try.prog Try.f25 (fun e w9 => e = .returned (.bool R) ∧ Below w.heap.size w w9) Exit.ret _ _
    go_ret
    exact ⟨congrArg (fun b => Ending.returned (.bool b)) (HE.out.symm), below_next HB0.out (below_next HBu1.out HP9.out)⟩
  | true =>
  by_cases h3 : from_ ≤ to_
  case neg =>
    have HE : Hid (R = false) := Lib.hid (by have := HR.out.is_; rw [decide_eq_false h3] at this; simpa using this)
    clear HR
    go_enter Try.func25, Try.ntmps25
    go_upto_region 1 with fail
    rw [← HV.out]
    go_wp2_with fail
    refine HNu.out.mono ?_
    rintro e u1 ⟨rfl, hb⟩
    have HBu1 := Lib.hid hb
    have HXu := Lib.hid (HBox.out _ hb)
    clear c0 c1 c2 c3 c4 c5 c6 c7 c8 c9 c10 c11 c12 c13 hb
    rename_i hK
    refine hK _ _ ?_
    clear hK
    have a11 := fun z : LatW u1 => (HXu.out.next z.bel).c11
    have a12 := fun z : LatW u1 => (HXu.out.next z.bel).c12
    dsimp only at a11 a12
    have hd3 : decide (from_ ≤ to_) = false := decide_eq_false (by omega)
    refine wpList_of_quiet (C := fun w1 => ∃ p : LatW u1, w1 = p.wd) _ _ _ ⟨⟨u1, Below.refl _ _⟩, rfl⟩ ?_
    (try dsimp only [List.append])
    (repeat (go_big_quiet_step (fail)))
    refine wpQuiet_nil ?_
    intro w9 hw9
    obtain ⟨p9, hw9x⟩ := hw9
    subst hw9x
    have HP9 := Lib.hid p9.bel
    generalize p9.wd = W9 at *
    clear a11 a12 HXu p9
    rename_i q9 k9 hk9 k8
    refine hk9 _ _ ?_
    refine wp_ret ?_
    show bodyPost Try.prog Try.f25 (fun e w9 => e = .returned (.bool R) ∧ Below w.heap.size w w9) Exit.ret _ _
    go_ret
    exact ⟨congrArg (fun b => Ending.returned (.bool b)) (HE.out.symm), below_next HB0.out (below_next HBu1.out HP9.out)⟩
  rw [decide_eq_true h3] at HR
  cases ql with
  | false =>
    have HE : Hid (R = false) := Lib.hid (by have := HR.out.is_; skip; simpa using this)
    clear HR
    go_enter Try.func25, Try.ntmps25
    go_upto_region 1 with fail
    rw [← HV.out]
    go_wp2_with fail
    refine HNu.out.mono ?_
    rintro e u1 ⟨rfl, hb⟩
    have HBu1 := Lib.hid hb
    have HXu := Lib.hid (HBox.out _ hb)
    clear c0 c1 c2 c3 c4 c5 c6 c7 c8 c9 c10 c11 c12 c13 hb
    rename_i hK
    refine hK _ _ ?_
    clear hK
    have a2 := fun z : LatW u1 => (HXu.out.next z.bel).c2
    have a11 := fun z : LatW u1 => (HXu.out.next z.bel).c11
    have a12 := fun z : LatW u1 => (HXu.out.next z.bel).c12
    have L1 := Lib.hid (show LatCalls Try.prog u1 30 #[.slice lA line.length lC] (.bool false) from LatCalls.of fun z => HLi.out z.wd (below_next HBu1.out z.bel))
    dsimp only at a2 a11 a12
    refine wpList_of_quiet (C := fun w1 => ∃ p : LatW u1, w1 = p.wd) _ _ _ ⟨⟨u1, Below.refl _ _⟩, rfl⟩ ?_
    (try dsimp only [List.append])
    (repeat (go_big_quiet_step (first | (go_at_call 30; with_reducible exact L1.out.at_ _))))
    refine wpQuiet_nil ?_
    intro w9 hw9
    obtain ⟨p9, hw9x⟩ := hw9
    subst hw9x
    have HP9 := Lib.hid p9.bel
    generalize p9.wd = W9 at *
    clear a2 a11 a12 L1 HXu p9
    rename_i q9 k9 hk9 k8
    refine hk9 _ _ ?_
    refine wp_ret ?_
    show bodyPost Try.prog Try.f25 (fun e w9 => e = .returned (.bool R) ∧ Below w.heap.size w w9) Exit.ret _ _
    go_ret
    exact ⟨congrArg (fun b => Ending.returned (.bool b)) (HE.out.symm), below_next HB0.out (below_next HBu1.out HP9.out)⟩
  | true =>
  cases qa with
  | false =>
    have HE : Hid (R = false) := Lib.hid (by have := HR.out.is_; skip; simpa using this)
    clear HR
    go_enter Try.func25, Try.ntmps25
    go_upto_region 1 with fail
    rw [← HV.out]
    go_wp2_with fail
    refine HNu.out.mono ?_
    rintro e u1 ⟨rfl, hb⟩
    have HBu1 := Lib.hid hb
    have HXu := Lib.hid (HBox.out _ hb)
    clear c0 c1 c2 c3 c4 c5 c6 c7 c8 c9 c10 c11 c12 c13 hb
    rename_i hK
    refine hK _ _ ?_
    clear hK
    have a2 := fun z : LatW u1 => (HXu.out.next z.bel).c2
    have a7 := fun z : LatW u1 => (HXu.out.next z.bel).c7
    have a8 := fun z : LatW u1 => (HXu.out.next z.bel).c8
    have a11 := fun z : LatW u1 => (HXu.out.next z.bel).c11
    have a12 := fun z : LatW u1 => (HXu.out.next z.bel).c12
    have L1 := Lib.hid (show LatCalls Try.prog u1 30 #[.slice lA line.length lC] (.bool true) from LatCalls.of fun z => HLi.out z.wd (below_next HBu1.out z.bel))
    have L2 := Lib.hid (show LatCalls Try.prog u1 52 #[.agg #[.slice aA anc.length aC, .int .i64 ancS]] (.bool false) from LatCalls.of fun z => HAn.out z.wd (below_next HBu1.out z.bel))
    dsimp only at a2 a7 a8 a11 a12
    refine wpList_of_quiet (C := fun w1 => ∃ p : LatW u1, w1 = p.wd) _ _ _ ⟨⟨u1, Below.refl _ _⟩, rfl⟩ ?_
    (try dsimp only [List.append])
    (repeat (go_big_quiet_step (first | (go_at_call 30; with_reducible exact L1.out.at_ _) | (go_at_call 52; with_reducible exact L2.out.at_ _))))
    refine wpQuiet_nil ?_
    intro w9 hw9
    obtain ⟨p9, hw9x⟩ := hw9
    subst hw9x
    have HP9 := Lib.hid p9.bel
    generalize p9.wd = W9 at *
    clear a2 a7 a8 a11 a12 L1 L2 HXu p9
    rename_i q9 k9 hk9 k8
    refine hk9 _ _ ?_
    refine wp_ret ?_
    show bodyPost Try.prog Try.f25 (fun e w9 => e = .returned (.bool R) ∧ Below w.heap.size w w9) Exit.ret _ _
    go_ret
    exact ⟨congrArg (fun b => Ending.returned (.bool b)) (HE.out.symm), below_next HB0.out (below_next HBu1.out HP9.out)⟩
  | true =>
  cases qb with
  | false =>
    have HE : Hid (R = false) := Lib.hid (by have := HR.out.is_; skip; simpa using this)
    clear HR
    go_enter Try.func25, Try.ntmps25
    go_upto_region 1 with fail
    rw [← HV.out]
    go_wp2_with fail
    refine HNu.out.mono ?_
    rintro e u1 ⟨rfl, hb⟩
    have HBu1 := Lib.hid hb
    have HXu := Lib.hid (HBox.out _ hb)
    clear c0 c1 c2 c3 c4 c5 c6 c7 c8 c9 c10 c11 c12 c13 hb
    rename_i hK
    refine hK _ _ ?_
    clear hK
    have a2 := fun z : LatW u1 => (HXu.out.next z.bel).c2
    have a7 := fun z : LatW u1 => (HXu.out.next z.bel).c7
    have a8 := fun z : LatW u1 => (HXu.out.next z.bel).c8
    have a9 := fun z : LatW u1 => (HXu.out.next z.bel).c9
    have a11 := fun z : LatW u1 => (HXu.out.next z.bel).c11
    have a12 := fun z : LatW u1 => (HXu.out.next z.bel).c12
    have L1 := Lib.hid (show LatCalls Try.prog u1 30 #[.slice lA line.length lC] (.bool true) from LatCalls.of fun z => HLi.out z.wd (below_next HBu1.out z.bel))
    have L2 := Lib.hid (show LatCalls Try.prog u1 52 #[.agg #[.slice aA anc.length aC, .int .i64 ancS]] (.bool true) from LatCalls.of fun z => HAn.out z.wd (below_next HBu1.out z.bel))
    have L3 := Lib.hid (show LatCalls Try.prog u1 53 #[.slice bA bits.length bC] (.bool false) from LatCalls.of fun z => HBi.out z.wd (below_next HBu1.out z.bel))
    dsimp only at a2 a7 a8 a9 a11 a12
    refine wpList_of_quiet (C := fun w1 => ∃ p : LatW u1, w1 = p.wd) _ _ _ ⟨⟨u1, Below.refl _ _⟩, rfl⟩ ?_
    (try dsimp only [List.append])
    (repeat (go_big_quiet_step (first | (go_at_call 30; with_reducible exact L1.out.at_ _) | (go_at_call 52; with_reducible exact L2.out.at_ _) | (go_at_call 53; with_reducible exact L3.out.at_ _))))
    refine wpQuiet_nil ?_
    intro w9 hw9
    obtain ⟨p9, hw9x⟩ := hw9
    subst hw9x
    have HP9 := Lib.hid p9.bel
    generalize p9.wd = W9 at *
    clear a2 a7 a8 a9 a11 a12 L1 L2 L3 HXu p9
    rename_i q9 k9 hk9 k8
    refine hk9 _ _ ?_
    refine wp_ret ?_
    show bodyPost Try.prog Try.f25 (fun e w9 => e = .returned (.bool R) ∧ Below w.heap.size w w9) Exit.ret _ _
    go_ret
    exact ⟨congrArg (fun b => Ending.returned (.bool b)) (HE.out.symm), below_next HB0.out (below_next HBu1.out HP9.out)⟩
  | true =>
  cases qs with
  | false =>
    have HE : Hid (R = false) := Lib.hid (by have := HR.out.is_; skip; simpa using this)
    clear HR
    go_enter Try.func25, Try.ntmps25
    go_upto_region 1 with fail
    rw [← HV.out]
    go_wp2_with fail
    refine HNu.out.mono ?_
    rintro e u1 ⟨rfl, hb⟩
    have HBu1 := Lib.hid hb
    have HXu := Lib.hid (HBox.out _ hb)
    clear c0 c1 c2 c3 c4 c5 c6 c7 c8 c9 c10 c11 c12 c13 hb
    rename_i hK
    refine hK _ _ ?_
    clear hK
    have a2 := fun z : LatW u1 => (HXu.out.next z.bel).c2
    have a7 := fun z : LatW u1 => (HXu.out.next z.bel).c7
    have a8 := fun z : LatW u1 => (HXu.out.next z.bel).c8
    have a9 := fun z : LatW u1 => (HXu.out.next z.bel).c9
    have a10 := fun z : LatW u1 => (HXu.out.next z.bel).c10
    have a11 := fun z : LatW u1 => (HXu.out.next z.bel).c11
    have a12 := fun z : LatW u1 => (HXu.out.next z.bel).c12
    have L1 := Lib.hid (show LatCalls Try.prog u1 30 #[.slice lA line.length lC] (.bool true) from LatCalls.of fun z => HLi.out z.wd (below_next HBu1.out z.bel))
    have L2 := Lib.hid (show LatCalls Try.prog u1 52 #[.agg #[.slice aA anc.length aC, .int .i64 ancS]] (.bool true) from LatCalls.of fun z => HAn.out z.wd (below_next HBu1.out z.bel))
    have L3 := Lib.hid (show LatCalls Try.prog u1 53 #[.slice bA bits.length bC] (.bool true) from LatCalls.of fun z => HBi.out z.wd (below_next HBu1.out z.bel))
    have L4 := Lib.hid (show LatCalls Try.prog u1 54 #[.slice sA sizes.length sC] (.bool false) from LatCalls.of fun z => HSz.out z.wd (below_next HBu1.out z.bel))
    dsimp only at a2 a7 a8 a9 a10 a11 a12
    refine wpList_of_quiet (C := fun w1 => ∃ p : LatW u1, w1 = p.wd) _ _ _ ⟨⟨u1, Below.refl _ _⟩, rfl⟩ ?_
    (try dsimp only [List.append])
    (repeat (go_big_quiet_step (first | (go_at_call 30; with_reducible exact L1.out.at_ _) | (go_at_call 52; with_reducible exact L2.out.at_ _) | (go_at_call 53; with_reducible exact L3.out.at_ _) | (go_at_call 54; with_reducible exact L4.out.at_ _))))
    refine wpQuiet_nil ?_
    intro w9 hw9
    obtain ⟨p9, hw9x⟩ := hw9
    subst hw9x
    have HP9 := Lib.hid p9.bel
    generalize p9.wd = W9 at *
    clear a2 a7 a8 a9 a10 a11 a12 L1 L2 L3 L4 HXu p9
    rename_i q9 k9 hk9 k8
    refine hk9 _ _ ?_
    refine wp_ret ?_
    show bodyPost Try.prog Try.f25 (fun e w9 => e = .returned (.bool R) ∧ Below w.heap.size w w9) Exit.ret _ _
    go_ret
    exact ⟨congrArg (fun b => Ending.returned (.bool b)) (HE.out.symm), below_next HB0.out (below_next HBu1.out HP9.out)⟩
  | true =>
    have HE : Hid (R = qw) := Lib.hid (by have := HR.out.is_; simpa using this)
    clear HR
    go_enter Try.func25, Try.ntmps25
    go_upto_region 1 with fail
    rw [← HV.out]
    go_wp2_with fail
    refine HNu.out.mono ?_
    rintro e u1 ⟨rfl, hb⟩
    have HBu1 := Lib.hid hb
    have HXu := Lib.hid (HBox.out _ hb)
    clear c0 c1 c2 c3 c4 c5 c6 c7 c8 c9 c10 c11 c12 c13 hb
    rename_i hK
    refine hK _ _ ?_
    clear hK
    have a2 := fun z : LatW u1 => (HXu.out.next z.bel).c2
    have a7 := fun z : LatW u1 => (HXu.out.next z.bel).c7
    have a8 := fun z : LatW u1 => (HXu.out.next z.bel).c8
    have a9 := fun z : LatW u1 => (HXu.out.next z.bel).c9
    have a10 := fun z : LatW u1 => (HXu.out.next z.bel).c10
    have a11 := fun z : LatW u1 => (HXu.out.next z.bel).c11
    have a12 := fun z : LatW u1 => (HXu.out.next z.bel).c12
    have a13 := fun z : LatW u1 => (HXu.out.next z.bel).c13
    have L1 := Lib.hid (show LatCalls Try.prog u1 30 #[.slice lA line.length lC] (.bool true) from LatCalls.of fun z => HLi.out z.wd (below_next HBu1.out z.bel))
    have L2 := Lib.hid (show LatCalls Try.prog u1 52 #[.agg #[.slice aA anc.length aC, .int .i64 ancS]] (.bool true) from LatCalls.of fun z => HAn.out z.wd (below_next HBu1.out z.bel))
    have L3 := Lib.hid (show LatCalls Try.prog u1 53 #[.slice bA bits.length bC] (.bool true) from LatCalls.of fun z => HBi.out z.wd (below_next HBu1.out z.bel))
    have L4 := Lib.hid (show LatCalls Try.prog u1 54 #[.slice sA sizes.length sC] (.bool true) from LatCalls.of fun z => HSz.out z.wd (below_next HBu1.out z.bel))
    have L5 := Lib.hid (show LatCalls Try.prog u1 39 #[.slice wA ws.length wC] (.bool qw) from LatCalls.of fun z => HWs.out z.wd (below_next HBu1.out z.bel))
    dsimp only at a2 a7 a8 a9 a10 a11 a12 a13
    refine wpList_of_quiet (C := fun w1 => ∃ p : LatW u1, w1 = p.wd) _ _ _ ⟨⟨u1, Below.refl _ _⟩, rfl⟩ ?_
    (try dsimp only [List.append])
    (repeat (go_big_quiet_step (first | (go_at_call 30; with_reducible exact L1.out.at_ _) | (go_at_call 52; with_reducible exact L2.out.at_ _) | (go_at_call 53; with_reducible exact L3.out.at_ _) | (go_at_call 54; with_reducible exact L4.out.at_ _) | (go_at_call 39; with_reducible exact L5.out.at_ _))))
    refine wpQuiet_nil ?_
    intro w9 hw9
    obtain ⟨p9, hw9x⟩ := hw9
    subst hw9x
    have HP9 := Lib.hid p9.bel
    generalize p9.wd = W9 at *
    clear a2 a7 a8 a9 a10 a11 a12 a13 L1 L2 L3 L4 L5 HXu p9
    rename_i q9 k9 hk9 k8
    refine hk9 _ _ ?_
    refine wp_ret ?_
    show bodyPost Try.prog Try.f25 (fun e w9 => e = .returned (.bool R) ∧ Below w.heap.size w w9) Exit.ret _ _
    go_ret
    exact ⟨congrArg (fun b => Ending.returned (.bool b)) (HE.out.symm), below_next HB0.out (below_next HBu1.out HP9.out)⟩
end Go.Proofs.Ytkpoeigoocbgeaa
