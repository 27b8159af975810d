/- The walk of QueueAdds. -/
import Derived.Test.YtpmllckfijfehaaQueMb
import Derived.Test.YtpmllckfijfehaaQueL
import Derived.Test.YtpmllckfijfehaaQueE
namespace Go.Proofs.Ytpmllckfijfehaa
open Go.Shelf Go.RowKit Go.Lib Go.Sort

set_option maxHeartbeats 8000000 in
set_option maxRecDepth 100000 in
theorem QueueAdds_walk {w : World} {q : QuV} {A3 : Option Addr} {c3 : Nat} {xs : List Wr} (h : QuAt w w.heap.size q) (hs : q.sets.length ≤ 9223372036854775807) (hx : ∀ x ∈ q.sets, x.ws.length ≤ 9223372036854775807) (ho : q.opn.length ≤ 9223372036854775807) (h3 : WrsAt w w.heap.size A3 xs) (h4 : xs.length ≤ 9223372036854775807 ∧ (A3 = none → c3 = 0)) :
    Calls Try.prog 3 #[q.val, .slice A3 xs.length c3] w fun e w' => e = .returned (.bool true) ∧ Below w.heap.size w w' := by
  have HB := Lib.hid (Below.refl w.heap.size w)
  have HQq := Lib.hid h
  have HWs := Lib.hid h3
  have HN3 := Lib.hid h4.2
  clear h h3
  cases hsm : smallQ q with
  | false =>
    have HSm := Lib.hid hsm
    clear hsm
    unfold QuV.val
    go_enter Try.func3, Try.ntmps3
    go_wp2_with fail
    obtain ⟨w1, hw1⟩ : ∃ V, V = w.alloc (.cells #[.slice q.A q.sets.length q.c, .slice q.A2 q.opn.length q.c2, .int .i64 q.frm, .int .i64 q.to_] 25 (0, 0)) := ⟨_, rfl⟩
    have hb : Below w.heap.size w w1 := by rw [hw1]; exact below_one _ _
    have HFq : Hid (Four w1 w.heap.size (.slice q.A q.sets.length q.c) (.slice q.A2 q.opn.length q.c2) (.int .i64 q.frm) (.int .i64 q.to_) 25) := Lib.hid (by rw [hw1]; exact Four.new _ _ _ _ _ _)
    rw [← hw1]
    replace HQq := Lib.hid (HQq.out.next hb)
    replace HWs := Lib.hid (HWs.out.next hb)
    replace HB := Lib.hid (below_next HB.out hb)
    clear hb hw1
    generalize w.heap.size = Pq at HFq ⊢
    have qc0 := HFq.out.c0
    have qc1 := HFq.out.c1
    have qc2 := HFq.out.c2
    have qc3 := HFq.out.c3
    have HL := Lib.hid (SmallQ_any HQq.out hs hx ho)
    rw [HSm.out] at HL
    unfold QuV.val at HL
    refine (HL.out).mono ?_
    rintro e w2 ⟨rfl, hb⟩
    clear qc0 qc1 qc2 qc3
    replace HFq := Lib.hid (HFq.out.kept hb)
    replace HQq := Lib.hid (HQq.out.next hb)
    replace HWs := Lib.hid (HWs.out.next hb)
    replace HB := Lib.hid (below_next HB.out hb)
    clear hb
    have qc0 := HFq.out.c0
    have qc1 := HFq.out.c1
    have qc2 := HFq.out.c2
    have qc3 := HFq.out.c3
    clear HL
    go_wp2_with fail
    refine (awake12_any _).mono ?_
    rintro e w3 ⟨rfl, hb⟩
    clear qc0 qc1 qc2 qc3
    replace HFq := Lib.hid (HFq.out.kept hb)
    replace HQq := Lib.hid (HQq.out.next hb)
    replace HWs := Lib.hid (HWs.out.next hb)
    replace HB := Lib.hid (below_next HB.out hb)
    clear hb
    go_wp2_with fail
    go_ret
    exact ⟨rfl, HB.out⟩
  | true =>
  have HSm := Lib.hid hsm
  have HU := Lib.hid (smU_small hsm)
  have HFi := Lib.hid (HU.out.fine rfl (by omega) (by omega))
  have HS5 : Hid (q.sets.length ≤ 500) := Lib.hid (Nat.le_trans (HU.out.sets rfl) (by omega))
  have HO4 : Hid (q.opn.length ≤ 400) := Lib.hid (Nat.le_trans (HU.out.opn rfl) (by omega))
  clear hsm
  cases h60 : decide ((60 : Int) < (xs.length : Int)) with
  | true =>
    unfold QuV.val
    go_enter Try.func3, Try.ntmps3
    go_wp2_with fail
    obtain ⟨w1, hw1⟩ : ∃ V, V = w.alloc (.cells #[.slice q.A q.sets.length q.c, .slice q.A2 q.opn.length q.c2, .int .i64 q.frm, .int .i64 q.to_] 25 (0, 0)) := ⟨_, rfl⟩
    have hb : Below w.heap.size w w1 := by rw [hw1]; exact below_one _ _
    have HFq : Hid (Four w1 w.heap.size (.slice q.A q.sets.length q.c) (.slice q.A2 q.opn.length q.c2) (.int .i64 q.frm) (.int .i64 q.to_) 25) := Lib.hid (by rw [hw1]; exact Four.new _ _ _ _ _ _)
    rw [← hw1]
    replace HQq := Lib.hid (HQq.out.next hb)
    replace HWs := Lib.hid (HWs.out.next hb)
    replace HB := Lib.hid (below_next HB.out hb)
    clear hb hw1
    generalize w.heap.size = Pq at HFq ⊢
    have qc0 := HFq.out.c0
    have qc1 := HFq.out.c1
    have qc2 := HFq.out.c2
    have qc3 := HFq.out.c3
    have HL := Lib.hid (SmallQ_any HQq.out hs hx ho)
    rw [HSm.out] at HL
    unfold QuV.val at HL
    refine (HL.out).mono ?_
    rintro e w2 ⟨rfl, hb⟩
    clear qc0 qc1 qc2 qc3
    replace HFq := Lib.hid (HFq.out.kept hb)
    replace HQq := Lib.hid (HQq.out.next hb)
    replace HWs := Lib.hid (HWs.out.next hb)
    replace HB := Lib.hid (below_next HB.out hb)
    clear hb
    have qc0 := HFq.out.c0
    have qc1 := HFq.out.c1
    have qc2 := HFq.out.c2
    have qc3 := HFq.out.c3
    clear HL
    go_wp2_with fail
    refine (awake12_any _).mono ?_
    rintro e w3 ⟨rfl, hb⟩
    clear qc0 qc1 qc2 qc3
    replace HFq := Lib.hid (HFq.out.kept hb)
    replace HQq := Lib.hid (HQq.out.next hb)
    replace HWs := Lib.hid (HWs.out.next hb)
    replace HB := Lib.hid (below_next HB.out hb)
    clear hb
    go_wp2_with fail
    go_ret
    exact ⟨rfl, HB.out⟩
  | false =>
  have HXl : Hid (xs.length ≤ 60) := Lib.hid (by have := of_decide_eq_false h60; omega)
  have HX4 : Hid (xs.length ≤ 400 ∧ (A3 = none → c3 = 0)) := Lib.hid ⟨Nat.le_trans HXl.out (by omega), HN3.out⟩
  cases hr : quRight q.qu with
  | false =>
    have HR := Lib.hid hr
    clear hr
    unfold QuV.val
    go_enter Try.func3, Try.ntmps3
    go_wp2_with fail
    obtain ⟨w1, hw1⟩ : ∃ V, V = w.alloc (.cells #[.slice q.A q.sets.length q.c, .slice q.A2 q.opn.length q.c2, .int .i64 q.frm, .int .i64 q.to_] 25 (0, 0)) := ⟨_, rfl⟩
    have hb : Below w.heap.size w w1 := by rw [hw1]; exact below_one _ _
    have HFq : Hid (Four w1 w.heap.size (.slice q.A q.sets.length q.c) (.slice q.A2 q.opn.length q.c2) (.int .i64 q.frm) (.int .i64 q.to_) 25) := Lib.hid (by rw [hw1]; exact Four.new _ _ _ _ _ _)
    rw [← hw1]
    replace HQq := Lib.hid (HQq.out.next hb)
    replace HWs := Lib.hid (HWs.out.next hb)
    replace HB := Lib.hid (below_next HB.out hb)
    clear hb hw1
    generalize w.heap.size = Pq at HFq ⊢
    have qc0 := HFq.out.c0
    have qc1 := HFq.out.c1
    have qc2 := HFq.out.c2
    have qc3 := HFq.out.c3
    have HL := Lib.hid (SmallQ_any HQq.out hs hx ho)
    rw [HSm.out] at HL
    unfold QuV.val at HL
    refine (HL.out).mono ?_
    rintro e w2 ⟨rfl, hb⟩
    clear qc0 qc1 qc2 qc3
    replace HFq := Lib.hid (HFq.out.kept hb)
    replace HQq := Lib.hid (HQq.out.next hb)
    replace HWs := Lib.hid (HWs.out.next hb)
    replace HB := Lib.hid (below_next HB.out hb)
    clear hb
    have qc0 := HFq.out.c0
    have qc1 := HFq.out.c1
    have qc2 := HFq.out.c2
    have qc3 := HFq.out.c3
    clear HL
    have HL := Lib.hid (DQRight_any HQq.out HFi.out.sets HFi.out.each HFi.out.opn)
    rw [HR.out] at HL
    unfold QuV.val at HL
    go_wp2_with fail
    refine (HL.out).mono ?_
    rintro e w3 ⟨rfl, hb⟩
    clear qc0 qc1 qc2 qc3
    replace HFq := Lib.hid (HFq.out.kept hb)
    replace HQq := Lib.hid (HQq.out.next hb)
    replace HWs := Lib.hid (HWs.out.next hb)
    replace HB := Lib.hid (below_next HB.out hb)
    clear hb
    clear HL
    have qc0 := HFq.out.c0
    have qc1 := HFq.out.c1
    have qc2 := HFq.out.c2
    have qc3 := HFq.out.c3
    have HL := Lib.hid (QAdd_any HQq.out HFi.out HWs.out HO4.out HX4.out)
    rw [(qadd_no (q := q.qu) (fun e => by rw [HR.out] at e; cases e.1) xs).1, (qadd_no (q := q.qu) (fun e => by rw [HR.out] at e; cases e.1) xs).2] at HL
    unfold QuV.val at HL
    go_wp2_with fail
    refine HL.out.mono ?_
    rintro e wx ⟨x, hqx, rfl, hA, hb⟩
    clear qc0 qc1 qc2 qc3
    replace HFq := Lib.hid (HFq.out.kept hb)
    replace HQq := Lib.hid (HQq.out.next hb)
    replace HWs := Lib.hid (HWs.out.next hb)
    replace HB := Lib.hid (below_next HB.out hb)
    have HQx := Lib.hid hA
    have HEx := Lib.hid hqx
    clear hb hA hqx HL
    unfold QuV.val
    have qc0 := HFq.out.c0
    have qc1 := HFq.out.c1
    have qc2 := HFq.out.c2
    have qc3 := HFq.out.c3
    have qa0 := (HFq.out.kept (below_one wx (.cells #[.slice x.A x.sets.length x.c, .slice x.A2 x.opn.length x.c2, .int .i64 x.frm, .int .i64 x.to_] 25 (0, 0)))).c0
    have qa1 := (HFq.out.kept (below_one wx (.cells #[.slice x.A x.sets.length x.c, .slice x.A2 x.opn.length x.c2, .int .i64 x.frm, .int .i64 x.to_] 25 (0, 0)))).c1
    have qa2 := (HFq.out.kept (below_one wx (.cells #[.slice x.A x.sets.length x.c, .slice x.A2 x.opn.length x.c2, .int .i64 x.frm, .int .i64 x.to_] 25 (0, 0)))).c2
    have qa3 := (HFq.out.kept (below_one wx (.cells #[.slice x.A x.sets.length x.c, .slice x.A2 x.opn.length x.c2, .int .i64 x.frm, .int .i64 x.to_] 25 (0, 0)))).c3
    go_wp2_with fail
    clear qc0 qc1 qc2 qc3 qa0 qa1 qa2 qa3
    obtain ⟨w4, hw4⟩ : ∃ V, V = wx.alloc (.cells #[.slice x.A x.sets.length x.c, .slice x.A2 x.opn.length x.c2, .int .i64 x.frm, .int .i64 x.to_] 25 (0, 0)) := ⟨_, rfl⟩
    have hb : Below wx.heap.size wx w4 := by rw [hw4]; exact below_one _ _
    have HFx : Hid (Four w4 wx.heap.size (.slice x.A x.sets.length x.c) (.slice x.A2 x.opn.length x.c2) (.int .i64 x.frm) (.int .i64 x.to_) 25) := Lib.hid (by rw [hw4]; exact Four.new _ _ _ _ _ _)
    rw [← hw4]
    replace HFq := Lib.hid (HFq.out.kept hb)
    replace HQq := Lib.hid (HQq.out.next hb)
    replace HQx := Lib.hid (HQx.out.next hb)
    replace HWs := Lib.hid (HWs.out.next hb)
    replace HB := Lib.hid (below_next HB.out hb)
    clear hb hw4
    generalize wx.heap.size = Px at HFx ⊢
    have qc0 := HFq.out.c0
    have qc1 := HFq.out.c1
    have qc2 := HFq.out.c2
    have qc3 := HFq.out.c3
    have xc0 := HFx.out.c0
    have xc1 := HFx.out.c1
    have xc2 := HFx.out.c2
    have xc3 := HFx.out.c3
    have HL := Lib.hid (QCut_any HQq.out HFi.out HS5.out)
    rw [(qcut_no (q := q.qu) HR.out).1, (qcut_no (q := q.qu) HR.out).2] at HL
    unfold QuV.val at HL
    refine HL.out.mono ?_
    rintro e wy ⟨y, hqy, rfl, hA, hb⟩
    clear qc0 qc1 qc2 qc3 xc0 xc1 xc2 xc3
    replace HFq := Lib.hid (HFq.out.kept hb)
    replace HFx := Lib.hid (HFx.out.kept hb)
    replace HQq := Lib.hid (HQq.out.next hb)
    replace HQx := Lib.hid (HQx.out.next hb)
    replace HWs := Lib.hid (HWs.out.next hb)
    replace HB := Lib.hid (below_next HB.out hb)
    have HQy := Lib.hid hA
    have HEy := Lib.hid hqy
    clear hb hA hqy HL
    unfold QuV.val
    have qc0 := HFq.out.c0
    have qc1 := HFq.out.c1
    have qc2 := HFq.out.c2
    have qc3 := HFq.out.c3
    have xc0 := HFx.out.c0
    have xc1 := HFx.out.c1
    have xc2 := HFx.out.c2
    have xc3 := HFx.out.c3
    have qa0 := (HFq.out.kept (below_one wy (.cells #[.slice y.A y.sets.length y.c, .slice y.A2 y.opn.length y.c2, .int .i64 y.frm, .int .i64 y.to_] 25 (0, 0)))).c0
    have qa1 := (HFq.out.kept (below_one wy (.cells #[.slice y.A y.sets.length y.c, .slice y.A2 y.opn.length y.c2, .int .i64 y.frm, .int .i64 y.to_] 25 (0, 0)))).c1
    have qa2 := (HFq.out.kept (below_one wy (.cells #[.slice y.A y.sets.length y.c, .slice y.A2 y.opn.length y.c2, .int .i64 y.frm, .int .i64 y.to_] 25 (0, 0)))).c2
    have qa3 := (HFq.out.kept (below_one wy (.cells #[.slice y.A y.sets.length y.c, .slice y.A2 y.opn.length y.c2, .int .i64 y.frm, .int .i64 y.to_] 25 (0, 0)))).c3
    have xa0 := (HFx.out.kept (below_one wy (.cells #[.slice y.A y.sets.length y.c, .slice y.A2 y.opn.length y.c2, .int .i64 y.frm, .int .i64 y.to_] 25 (0, 0)))).c0
    have xa1 := (HFx.out.kept (below_one wy (.cells #[.slice y.A y.sets.length y.c, .slice y.A2 y.opn.length y.c2, .int .i64 y.frm, .int .i64 y.to_] 25 (0, 0)))).c1
    have xa2 := (HFx.out.kept (below_one wy (.cells #[.slice y.A y.sets.length y.c, .slice y.A2 y.opn.length y.c2, .int .i64 y.frm, .int .i64 y.to_] 25 (0, 0)))).c2
    have xa3 := (HFx.out.kept (below_one wy (.cells #[.slice y.A y.sets.length y.c, .slice y.A2 y.opn.length y.c2, .int .i64 y.frm, .int .i64 y.to_] 25 (0, 0)))).c3
    go_wp2_with fail
    clear qc0 qc1 qc2 qc3 xc0 xc1 xc2 xc3 qa0 qa1 qa2 qa3 xa0 xa1 xa2 xa3
    obtain ⟨w5, hw5⟩ : ∃ V, V = wy.alloc (.cells #[.slice y.A y.sets.length y.c, .slice y.A2 y.opn.length y.c2, .int .i64 y.frm, .int .i64 y.to_] 25 (0, 0)) := ⟨_, rfl⟩
    have hb : Below wy.heap.size wy w5 := by rw [hw5]; exact below_one _ _
    have HFy : Hid (Four w5 wy.heap.size (.slice y.A y.sets.length y.c) (.slice y.A2 y.opn.length y.c2) (.int .i64 y.frm) (.int .i64 y.to_) 25) := Lib.hid (by rw [hw5]; exact Four.new _ _ _ _ _ _)
    rw [← hw5]
    replace HFq := Lib.hid (HFq.out.kept hb)
    replace HFx := Lib.hid (HFx.out.kept hb)
    replace HQq := Lib.hid (HQq.out.next hb)
    replace HQx := Lib.hid (HQx.out.next hb)
    replace HQy := Lib.hid (HQy.out.next hb)
    replace HWs := Lib.hid (HWs.out.next hb)
    replace HB := Lib.hid (below_next HB.out hb)
    clear hb hw5
    generalize wy.heap.size = Py at HFy ⊢
    have qc0 := HFq.out.c0
    have qc1 := HFq.out.c1
    have qc2 := HFq.out.c2
    have qc3 := HFq.out.c3
    have xc0 := HFx.out.c0
    have xc1 := HFx.out.c1
    have xc2 := HFx.out.c2
    have xc3 := HFx.out.c3
    have yc0 := HFy.out.c0
    have yc1 := HFy.out.c1
    have yc2 := HFy.out.c2
    have yc3 := HFy.out.c3
    have HL := Lib.hid (QRight_any HQq.out HFi.out.sets HFi.out.each HFi.out.opn)
    rw [HR.out] at HL
    unfold QuV.val at HL
    refine (HL.out).mono ?_
    rintro e w6 ⟨rfl, hb⟩
    clear qc0 qc1 qc2 qc3 xc0 xc1 xc2 xc3 yc0 yc1 yc2 yc3
    replace HFq := Lib.hid (HFq.out.kept hb)
    replace HFx := Lib.hid (HFx.out.kept hb)
    replace HFy := Lib.hid (HFy.out.kept hb)
    replace HQq := Lib.hid (HQq.out.next hb)
    replace HQx := Lib.hid (HQx.out.next hb)
    replace HQy := Lib.hid (HQy.out.next hb)
    replace HWs := Lib.hid (HWs.out.next hb)
    replace HB := Lib.hid (below_next HB.out hb)
    clear hb
    clear HL
    have qc0 := HFq.out.c0
    have qc1 := HFq.out.c1
    have qc2 := HFq.out.c2
    have qc3 := HFq.out.c3
    have xc0 := HFx.out.c0
    have xc1 := HFx.out.c1
    have xc2 := HFx.out.c2
    have xc3 := HFx.out.c3
    have yc0 := HFy.out.c0
    have yc1 := HFy.out.c1
    have yc2 := HFy.out.c2
    have yc3 := HFy.out.c3
    have qa0 := (HFq.out.kept (below_one w6 (.cells #[.slice none 0 0, .slice none 0 0, .int .i64 0, .int .i64 0] 25 (0, 0)))).c0
    have qa1 := (HFq.out.kept (below_one w6 (.cells #[.slice none 0 0, .slice none 0 0, .int .i64 0, .int .i64 0] 25 (0, 0)))).c1
    have qa2 := (HFq.out.kept (below_one w6 (.cells #[.slice none 0 0, .slice none 0 0, .int .i64 0, .int .i64 0] 25 (0, 0)))).c2
    have qa3 := (HFq.out.kept (below_one w6 (.cells #[.slice none 0 0, .slice none 0 0, .int .i64 0, .int .i64 0] 25 (0, 0)))).c3
    have xa0 := (HFx.out.kept (below_one w6 (.cells #[.slice none 0 0, .slice none 0 0, .int .i64 0, .int .i64 0] 25 (0, 0)))).c0
    have xa1 := (HFx.out.kept (below_one w6 (.cells #[.slice none 0 0, .slice none 0 0, .int .i64 0, .int .i64 0] 25 (0, 0)))).c1
    have xa2 := (HFx.out.kept (below_one w6 (.cells #[.slice none 0 0, .slice none 0 0, .int .i64 0, .int .i64 0] 25 (0, 0)))).c2
    have xa3 := (HFx.out.kept (below_one w6 (.cells #[.slice none 0 0, .slice none 0 0, .int .i64 0, .int .i64 0] 25 (0, 0)))).c3
    have ya0 := (HFy.out.kept (below_one w6 (.cells #[.slice none 0 0, .slice none 0 0, .int .i64 0, .int .i64 0] 25 (0, 0)))).c0
    have ya1 := (HFy.out.kept (below_one w6 (.cells #[.slice none 0 0, .slice none 0 0, .int .i64 0, .int .i64 0] 25 (0, 0)))).c1
    have ya2 := (HFy.out.kept (below_one w6 (.cells #[.slice none 0 0, .slice none 0 0, .int .i64 0, .int .i64 0] 25 (0, 0)))).c2
    have ya3 := (HFy.out.kept (below_one w6 (.cells #[.slice none 0 0, .slice none 0 0, .int .i64 0, .int .i64 0] 25 (0, 0)))).c3
    go_wp2_with fail
    clear qc0 qc1 qc2 qc3 xc0 xc1 xc2 xc3 yc0 yc1 yc2 yc3 qa0 qa1 qa2 qa3 xa0 xa1 xa2 xa3 ya0 ya1 ya2 ya3
    obtain ⟨w7, hw7⟩ : ∃ V, V = w6.alloc (.cells #[.slice none 0 0, .slice none 0 0, .int .i64 0, .int .i64 0] 25 (0, 0)) := ⟨_, rfl⟩
    have hb : Below w6.heap.size w6 w7 := by rw [hw7]; exact below_one _ _
    have HFn : Hid (Four w7 w6.heap.size (.slice none 0 0) (.slice none 0 0) (.int .i64 0) (.int .i64 0) 25) := Lib.hid (by rw [hw7]; exact Four.new _ _ _ _ _ _)
    rw [← hw7]
    replace HFq := Lib.hid (HFq.out.kept hb)
    replace HFx := Lib.hid (HFx.out.kept hb)
    replace HFy := Lib.hid (HFy.out.kept hb)
    replace HQq := Lib.hid (HQq.out.next hb)
    replace HQx := Lib.hid (HQx.out.next hb)
    replace HQy := Lib.hid (HQy.out.next hb)
    replace HWs := Lib.hid (HWs.out.next hb)
    replace HB := Lib.hid (below_next HB.out hb)
    clear hb hw7
    generalize w6.heap.size = Pn at HFn ⊢
    have qc0 := HFq.out.c0
    have qc1 := HFq.out.c1
    have qc2 := HFq.out.c2
    have qc3 := HFq.out.c3
    have xc0 := HFx.out.c0
    have xc1 := HFx.out.c1
    have xc2 := HFx.out.c2
    have xc3 := HFx.out.c3
    have yc0 := HFy.out.c0
    have yc1 := HFy.out.c1
    have yc2 := HFy.out.c2
    have yc3 := HFy.out.c3
    have nc0 := HFn.out.c0
    have nc1 := HFn.out.c1
    have nc2 := HFn.out.c2
    have nc3 := HFn.out.c3
    have HL := Lib.hid (QEq_same (qb := quvNone) HQx.out (quvNone_at _ _) HEx.out (Nat.le_trans ((smU_none 20 60).sets HEx.out) (by omega)) (fun x hx => Nat.le_trans ((smU_none 20 60).each HEx.out x hx) (by omega)) (Nat.le_trans ((smU_none 20 60).opn HEx.out) (by omega)))
    unfold QuV.val quvNone at HL
    simp only [List.length_nil] at HL
    refine (HL.out).mono ?_
    rintro e w8 ⟨rfl, hb⟩
    clear qc0 qc1 qc2 qc3 xc0 xc1 xc2 xc3 yc0 yc1 yc2 yc3 nc0 nc1 nc2 nc3
    replace HFq := Lib.hid (HFq.out.kept hb)
    replace HFx := Lib.hid (HFx.out.kept hb)
    replace HFy := Lib.hid (HFy.out.kept hb)
    replace HFn := Lib.hid (HFn.out.kept hb)
    replace HQq := Lib.hid (HQq.out.next hb)
    replace HQx := Lib.hid (HQx.out.next hb)
    replace HQy := Lib.hid (HQy.out.next hb)
    replace HWs := Lib.hid (HWs.out.next hb)
    replace HB := Lib.hid (below_next HB.out hb)
    clear hb
    clear HL
    have qc0 := HFq.out.c0
    have qc1 := HFq.out.c1
    have qc2 := HFq.out.c2
    have qc3 := HFq.out.c3
    have xc0 := HFx.out.c0
    have xc1 := HFx.out.c1
    have xc2 := HFx.out.c2
    have xc3 := HFx.out.c3
    have yc0 := HFy.out.c0
    have yc1 := HFy.out.c1
    have yc2 := HFy.out.c2
    have yc3 := HFy.out.c3
    have nc0 := HFn.out.c0
    have nc1 := HFn.out.c1
    have nc2 := HFn.out.c2
    have nc3 := HFn.out.c3
    have HL := Lib.hid (QEq_same (qb := quvNone) HQy.out (quvNone_at _ _) HEy.out (Nat.le_trans ((smU_none 20 60).sets HEy.out) (by omega)) (fun x hx => Nat.le_trans ((smU_none 20 60).each HEy.out x hx) (by omega)) (Nat.le_trans ((smU_none 20 60).opn HEy.out) (by omega)))
    unfold QuV.val quvNone at HL
    simp only [List.length_nil] at HL
    go_wp2_with fail
    refine (HL.out).mono ?_
    rintro e w9 ⟨rfl, hb⟩
    clear qc0 qc1 qc2 qc3 xc0 xc1 xc2 xc3 yc0 yc1 yc2 yc3 nc0 nc1 nc2 nc3
    replace HFq := Lib.hid (HFq.out.kept hb)
    replace HFx := Lib.hid (HFx.out.kept hb)
    replace HFy := Lib.hid (HFy.out.kept hb)
    replace HFn := Lib.hid (HFn.out.kept hb)
    replace HQq := Lib.hid (HQq.out.next hb)
    replace HQx := Lib.hid (HQx.out.next hb)
    replace HQy := Lib.hid (HQy.out.next hb)
    replace HWs := Lib.hid (HWs.out.next hb)
    replace HB := Lib.hid (below_next HB.out hb)
    clear hb
    clear HL
    have qc0 := HFq.out.c0
    have qc1 := HFq.out.c1
    have qc2 := HFq.out.c2
    have qc3 := HFq.out.c3
    have xc0 := HFx.out.c0
    have xc1 := HFx.out.c1
    have xc2 := HFx.out.c2
    have xc3 := HFx.out.c3
    have yc0 := HFy.out.c0
    have yc1 := HFy.out.c1
    have yc2 := HFy.out.c2
    have yc3 := HFy.out.c3
    have nc0 := HFn.out.c0
    have nc1 := HFn.out.c1
    have nc2 := HFn.out.c2
    have nc3 := HFn.out.c3
    go_wp2_with fail
    refine (awake12_any _).mono ?_
    rintro e w10 ⟨rfl, hb⟩
    clear qc0 qc1 qc2 qc3 xc0 xc1 xc2 xc3 yc0 yc1 yc2 yc3 nc0 nc1 nc2 nc3
    replace HFq := Lib.hid (HFq.out.kept hb)
    replace HFx := Lib.hid (HFx.out.kept hb)
    replace HFy := Lib.hid (HFy.out.kept hb)
    replace HFn := Lib.hid (HFn.out.kept hb)
    replace HQq := Lib.hid (HQq.out.next hb)
    replace HQx := Lib.hid (HQx.out.next hb)
    replace HQy := Lib.hid (HQy.out.next hb)
    replace HWs := Lib.hid (HWs.out.next hb)
    replace HB := Lib.hid (below_next HB.out hb)
    clear hb
    go_wp2_with fail
    go_ret
    exact ⟨rfl, HB.out⟩
  | true =>
  have HR := Lib.hid hr
  have HNum : Hid (0 ≤ q.to_ ∧ q.to_ ≤ 1099511627776) := Lib.hid ((okN_iff _).1 ((quRight_iff _).1 hr).2.2.2.1)
  have HSa := Lib.hid ((smU_add HU.out xs).more (Nat.le_refl _) (show 60 + xs.length ≤ 120 from by have := HXl.out; omega))
  clear hr
  cases hm : (q.to_ == 1099511627776) with
  | true =>
    have HTM : Hid (q.to_ = 1099511627776) := Lib.hid (by simpa using hm)
    cases hf : (q.to_ == q.frm) with
    | true =>
      have HTF : Hid (q.to_ = q.frm) := Lib.hid (by simpa using hf)
      unfold QuV.val
      go_enter Try.func3, Try.ntmps3
      go_wp2_with fail
      obtain ⟨w1, hw1⟩ : ∃ V, V = w.alloc (.cells #[.slice q.A q.sets.length q.c, .slice q.A2 q.opn.length q.c2, .int .i64 q.frm, .int .i64 q.to_] 25 (0, 0)) := ⟨_, rfl⟩
      have hb : Below w.heap.size w w1 := by rw [hw1]; exact below_one _ _
      have HFq : Hid (Four w1 w.heap.size (.slice q.A q.sets.length q.c) (.slice q.A2 q.opn.length q.c2) (.int .i64 q.frm) (.int .i64 q.to_) 25) := Lib.hid (by rw [hw1]; exact Four.new _ _ _ _ _ _)
      rw [← hw1]
      replace HQq := Lib.hid (HQq.out.next hb)
      replace HWs := Lib.hid (HWs.out.next hb)
      replace HB := Lib.hid (below_next HB.out hb)
      clear hb hw1
      generalize w.heap.size = Pq at HFq ⊢
      have qc0 := HFq.out.c0
      have qc1 := HFq.out.c1
      have qc2 := HFq.out.c2
      have qc3 := HFq.out.c3
      have HL := Lib.hid (SmallQ_any HQq.out hs hx ho)
      rw [HSm.out] at HL
      unfold QuV.val at HL
      refine (HL.out).mono ?_
      rintro e w2 ⟨rfl, hb⟩
      clear qc0 qc1 qc2 qc3
      replace HFq := Lib.hid (HFq.out.kept hb)
      replace HQq := Lib.hid (HQq.out.next hb)
      replace HWs := Lib.hid (HWs.out.next hb)
      replace HB := Lib.hid (below_next HB.out hb)
      clear hb
      have qc0 := HFq.out.c0
      have qc1 := HFq.out.c1
      have qc2 := HFq.out.c2
      have qc3 := HFq.out.c3
      clear HL
      have HL := Lib.hid (DQRight_any HQq.out HFi.out.sets HFi.out.each HFi.out.opn)
      rw [HR.out] at HL
      unfold QuV.val at HL
      go_wp2_with fail
      refine (HL.out).mono ?_
      rintro e w3 ⟨rfl, hb⟩
      clear qc0 qc1 qc2 qc3
      replace HFq := Lib.hid (HFq.out.kept hb)
      replace HQq := Lib.hid (HQq.out.next hb)
      replace HWs := Lib.hid (HWs.out.next hb)
      replace HB := Lib.hid (below_next HB.out hb)
      clear hb
      clear HL
      have qc0 := HFq.out.c0
      have qc1 := HFq.out.c1
      have qc2 := HFq.out.c2
      have qc3 := HFq.out.c3
      have HL := Lib.hid (QAdd_any HQq.out HFi.out HWs.out HO4.out HX4.out)
      rw [(qadd_no (q := q.qu) (fun e => e.2 HTM.out) xs).1, (qadd_no (q := q.qu) (fun e => e.2 HTM.out) xs).2] at HL
      unfold QuV.val at HL
      go_wp2_with fail
      refine HL.out.mono ?_
      rintro e wx ⟨x, hqx, rfl, hA, hb⟩
      clear qc0 qc1 qc2 qc3
      replace HFq := Lib.hid (HFq.out.kept hb)
      replace HQq := Lib.hid (HQq.out.next hb)
      replace HWs := Lib.hid (HWs.out.next hb)
      replace HB := Lib.hid (below_next HB.out hb)
      have HQx := Lib.hid hA
      have HEx := Lib.hid hqx
      clear hb hA hqx HL
      unfold QuV.val
      have qc0 := HFq.out.c0
      have qc1 := HFq.out.c1
      have qc2 := HFq.out.c2
      have qc3 := HFq.out.c3
      have qa0 := (HFq.out.kept (below_one wx (.cells #[.slice x.A x.sets.length x.c, .slice x.A2 x.opn.length x.c2, .int .i64 x.frm, .int .i64 x.to_] 25 (0, 0)))).c0
      have qa1 := (HFq.out.kept (below_one wx (.cells #[.slice x.A x.sets.length x.c, .slice x.A2 x.opn.length x.c2, .int .i64 x.frm, .int .i64 x.to_] 25 (0, 0)))).c1
      have qa2 := (HFq.out.kept (below_one wx (.cells #[.slice x.A x.sets.length x.c, .slice x.A2 x.opn.length x.c2, .int .i64 x.frm, .int .i64 x.to_] 25 (0, 0)))).c2
      have qa3 := (HFq.out.kept (below_one wx (.cells #[.slice x.A x.sets.length x.c, .slice x.A2 x.opn.length x.c2, .int .i64 x.frm, .int .i64 x.to_] 25 (0, 0)))).c3
      go_wp2_with fail
      clear qc0 qc1 qc2 qc3 qa0 qa1 qa2 qa3
      obtain ⟨w4, hw4⟩ : ∃ V, V = wx.alloc (.cells #[.slice x.A x.sets.length x.c, .slice x.A2 x.opn.length x.c2, .int .i64 x.frm, .int .i64 x.to_] 25 (0, 0)) := ⟨_, rfl⟩
      have hb : Below wx.heap.size wx w4 := by rw [hw4]; exact below_one _ _
      have HFx : Hid (Four w4 wx.heap.size (.slice x.A x.sets.length x.c) (.slice x.A2 x.opn.length x.c2) (.int .i64 x.frm) (.int .i64 x.to_) 25) := Lib.hid (by rw [hw4]; exact Four.new _ _ _ _ _ _)
      rw [← hw4]
      replace HFq := Lib.hid (HFq.out.kept hb)
      replace HQq := Lib.hid (HQq.out.next hb)
      replace HQx := Lib.hid (HQx.out.next hb)
      replace HWs := Lib.hid (HWs.out.next hb)
      replace HB := Lib.hid (below_next HB.out hb)
      clear hb hw4
      generalize wx.heap.size = Px at HFx ⊢
      have qc0 := HFq.out.c0
      have qc1 := HFq.out.c1
      have qc2 := HFq.out.c2
      have qc3 := HFq.out.c3
      have xc0 := HFx.out.c0
      have xc1 := HFx.out.c1
      have xc2 := HFx.out.c2
      have xc3 := HFx.out.c3
      have HL := Lib.hid (QCut_any HQq.out HFi.out HS5.out)
      rw [(qcut_none (q := q.qu) HR.out HTF.out).1, (qcut_none (q := q.qu) HR.out HTF.out).2] at HL
      unfold QuV.val at HL
      refine HL.out.mono ?_
      rintro e wy ⟨y, hqy, rfl, hA, hb⟩
      clear qc0 qc1 qc2 qc3 xc0 xc1 xc2 xc3
      replace HFq := Lib.hid (HFq.out.kept hb)
      replace HFx := Lib.hid (HFx.out.kept hb)
      replace HQq := Lib.hid (HQq.out.next hb)
      replace HQx := Lib.hid (HQx.out.next hb)
      replace HWs := Lib.hid (HWs.out.next hb)
      replace HB := Lib.hid (below_next HB.out hb)
      have HQy := Lib.hid hA
      have HEy := Lib.hid hqy
      clear hb hA hqy HL
      unfold QuV.val
      have qc0 := HFq.out.c0
      have qc1 := HFq.out.c1
      have qc2 := HFq.out.c2
      have qc3 := HFq.out.c3
      have xc0 := HFx.out.c0
      have xc1 := HFx.out.c1
      have xc2 := HFx.out.c2
      have xc3 := HFx.out.c3
      have qa0 := (HFq.out.kept (below_one wy (.cells #[.slice y.A y.sets.length y.c, .slice y.A2 y.opn.length y.c2, .int .i64 y.frm, .int .i64 y.to_] 25 (0, 0)))).c0
      have qa1 := (HFq.out.kept (below_one wy (.cells #[.slice y.A y.sets.length y.c, .slice y.A2 y.opn.length y.c2, .int .i64 y.frm, .int .i64 y.to_] 25 (0, 0)))).c1
      have qa2 := (HFq.out.kept (below_one wy (.cells #[.slice y.A y.sets.length y.c, .slice y.A2 y.opn.length y.c2, .int .i64 y.frm, .int .i64 y.to_] 25 (0, 0)))).c2
      have qa3 := (HFq.out.kept (below_one wy (.cells #[.slice y.A y.sets.length y.c, .slice y.A2 y.opn.length y.c2, .int .i64 y.frm, .int .i64 y.to_] 25 (0, 0)))).c3
      have xa0 := (HFx.out.kept (below_one wy (.cells #[.slice y.A y.sets.length y.c, .slice y.A2 y.opn.length y.c2, .int .i64 y.frm, .int .i64 y.to_] 25 (0, 0)))).c0
      have xa1 := (HFx.out.kept (below_one wy (.cells #[.slice y.A y.sets.length y.c, .slice y.A2 y.opn.length y.c2, .int .i64 y.frm, .int .i64 y.to_] 25 (0, 0)))).c1
      have xa2 := (HFx.out.kept (below_one wy (.cells #[.slice y.A y.sets.length y.c, .slice y.A2 y.opn.length y.c2, .int .i64 y.frm, .int .i64 y.to_] 25 (0, 0)))).c2
      have xa3 := (HFx.out.kept (below_one wy (.cells #[.slice y.A y.sets.length y.c, .slice y.A2 y.opn.length y.c2, .int .i64 y.frm, .int .i64 y.to_] 25 (0, 0)))).c3
      go_wp2_with fail
      clear qc0 qc1 qc2 qc3 xc0 xc1 xc2 xc3 qa0 qa1 qa2 qa3 xa0 xa1 xa2 xa3
      obtain ⟨w5, hw5⟩ : ∃ V, V = wy.alloc (.cells #[.slice y.A y.sets.length y.c, .slice y.A2 y.opn.length y.c2, .int .i64 y.frm, .int .i64 y.to_] 25 (0, 0)) := ⟨_, rfl⟩
      have hb : Below wy.heap.size wy w5 := by rw [hw5]; exact below_one _ _
      have HFy : Hid (Four w5 wy.heap.size (.slice y.A y.sets.length y.c) (.slice y.A2 y.opn.length y.c2) (.int .i64 y.frm) (.int .i64 y.to_) 25) := Lib.hid (by rw [hw5]; exact Four.new _ _ _ _ _ _)
      rw [← hw5]
      replace HFq := Lib.hid (HFq.out.kept hb)
      replace HFx := Lib.hid (HFx.out.kept hb)
      replace HQq := Lib.hid (HQq.out.next hb)
      replace HQx := Lib.hid (HQx.out.next hb)
      replace HQy := Lib.hid (HQy.out.next hb)
      replace HWs := Lib.hid (HWs.out.next hb)
      replace HB := Lib.hid (below_next HB.out hb)
      clear hb hw5
      generalize wy.heap.size = Py at HFy ⊢
      have qc0 := HFq.out.c0
      have qc1 := HFq.out.c1
      have qc2 := HFq.out.c2
      have qc3 := HFq.out.c3
      have xc0 := HFx.out.c0
      have xc1 := HFx.out.c1
      have xc2 := HFx.out.c2
      have xc3 := HFx.out.c3
      have yc0 := HFy.out.c0
      have yc1 := HFy.out.c1
      have yc2 := HFy.out.c2
      have yc3 := HFy.out.c3
      have HL := Lib.hid (QRight_any HQq.out HFi.out.sets HFi.out.each HFi.out.opn)
      rw [HR.out] at HL
      unfold QuV.val at HL
      refine (HL.out).mono ?_
      rintro e w6 ⟨rfl, hb⟩
      clear qc0 qc1 qc2 qc3 xc0 xc1 xc2 xc3 yc0 yc1 yc2 yc3
      replace HFq := Lib.hid (HFq.out.kept hb)
      replace HFx := Lib.hid (HFx.out.kept hb)
      replace HFy := Lib.hid (HFy.out.kept hb)
      replace HQq := Lib.hid (HQq.out.next hb)
      replace HQx := Lib.hid (HQx.out.next hb)
      replace HQy := Lib.hid (HQy.out.next hb)
      replace HWs := Lib.hid (HWs.out.next hb)
      replace HB := Lib.hid (below_next HB.out hb)
      clear hb
      clear HL
      have qc0 := HFq.out.c0
      have qc1 := HFq.out.c1
      have qc2 := HFq.out.c2
      have qc3 := HFq.out.c3
      have xc0 := HFx.out.c0
      have xc1 := HFx.out.c1
      have xc2 := HFx.out.c2
      have xc3 := HFx.out.c3
      have yc0 := HFy.out.c0
      have yc1 := HFy.out.c1
      have yc2 := HFy.out.c2
      have yc3 := HFy.out.c3
      have qa0 := (HFq.out.kept (below_one w6 (.cells #[.slice none 0 0, .slice none 0 0, .int .i64 0, .int .i64 0] 25 (0, 0)))).c0
      have qa1 := (HFq.out.kept (below_one w6 (.cells #[.slice none 0 0, .slice none 0 0, .int .i64 0, .int .i64 0] 25 (0, 0)))).c1
      have qa2 := (HFq.out.kept (below_one w6 (.cells #[.slice none 0 0, .slice none 0 0, .int .i64 0, .int .i64 0] 25 (0, 0)))).c2
      have qa3 := (HFq.out.kept (below_one w6 (.cells #[.slice none 0 0, .slice none 0 0, .int .i64 0, .int .i64 0] 25 (0, 0)))).c3
      have xa0 := (HFx.out.kept (below_one w6 (.cells #[.slice none 0 0, .slice none 0 0, .int .i64 0, .int .i64 0] 25 (0, 0)))).c0
      have xa1 := (HFx.out.kept (below_one w6 (.cells #[.slice none 0 0, .slice none 0 0, .int .i64 0, .int .i64 0] 25 (0, 0)))).c1
      have xa2 := (HFx.out.kept (below_one w6 (.cells #[.slice none 0 0, .slice none 0 0, .int .i64 0, .int .i64 0] 25 (0, 0)))).c2
      have xa3 := (HFx.out.kept (below_one w6 (.cells #[.slice none 0 0, .slice none 0 0, .int .i64 0, .int .i64 0] 25 (0, 0)))).c3
      have ya0 := (HFy.out.kept (below_one w6 (.cells #[.slice none 0 0, .slice none 0 0, .int .i64 0, .int .i64 0] 25 (0, 0)))).c0
      have ya1 := (HFy.out.kept (below_one w6 (.cells #[.slice none 0 0, .slice none 0 0, .int .i64 0, .int .i64 0] 25 (0, 0)))).c1
      have ya2 := (HFy.out.kept (below_one w6 (.cells #[.slice none 0 0, .slice none 0 0, .int .i64 0, .int .i64 0] 25 (0, 0)))).c2
      have ya3 := (HFy.out.kept (below_one w6 (.cells #[.slice none 0 0, .slice none 0 0, .int .i64 0, .int .i64 0] 25 (0, 0)))).c3
      go_wp2_with fail
      clear qc0 qc1 qc2 qc3 xc0 xc1 xc2 xc3 yc0 yc1 yc2 yc3 qa0 qa1 qa2 qa3 xa0 xa1 xa2 xa3 ya0 ya1 ya2 ya3
      obtain ⟨w7, hw7⟩ : ∃ V, V = w6.alloc (.cells #[.slice none 0 0, .slice none 0 0, .int .i64 0, .int .i64 0] 25 (0, 0)) := ⟨_, rfl⟩
      have hb : Below w6.heap.size w6 w7 := by rw [hw7]; exact below_one _ _
      have HFn : Hid (Four w7 w6.heap.size (.slice none 0 0) (.slice none 0 0) (.int .i64 0) (.int .i64 0) 25) := Lib.hid (by rw [hw7]; exact Four.new _ _ _ _ _ _)
      rw [← hw7]
      replace HFq := Lib.hid (HFq.out.kept hb)
      replace HFx := Lib.hid (HFx.out.kept hb)
      replace HFy := Lib.hid (HFy.out.kept hb)
      replace HQq := Lib.hid (HQq.out.next hb)
      replace HQx := Lib.hid (HQx.out.next hb)
      replace HQy := Lib.hid (HQy.out.next hb)
      replace HWs := Lib.hid (HWs.out.next hb)
      replace HB := Lib.hid (below_next HB.out hb)
      clear hb hw7
      generalize w6.heap.size = Pn at HFn ⊢
      have qc0 := HFq.out.c0
      have qc1 := HFq.out.c1
      have qc2 := HFq.out.c2
      have qc3 := HFq.out.c3
      have xc0 := HFx.out.c0
      have xc1 := HFx.out.c1
      have xc2 := HFx.out.c2
      have xc3 := HFx.out.c3
      have yc0 := HFy.out.c0
      have yc1 := HFy.out.c1
      have yc2 := HFy.out.c2
      have yc3 := HFy.out.c3
      have nc0 := HFn.out.c0
      have nc1 := HFn.out.c1
      have nc2 := HFn.out.c2
      have nc3 := HFn.out.c3
      have HL := Lib.hid (QEq_same (qb := quvNone) HQx.out (quvNone_at _ _) HEx.out (Nat.le_trans ((smU_none 20 60).sets HEx.out) (by omega)) (fun x hx => Nat.le_trans ((smU_none 20 60).each HEx.out x hx) (by omega)) (Nat.le_trans ((smU_none 20 60).opn HEx.out) (by omega)))
      unfold QuV.val quvNone at HL
      simp only [List.length_nil] at HL
      refine (HL.out).mono ?_
      rintro e w8 ⟨rfl, hb⟩
      clear qc0 qc1 qc2 qc3 xc0 xc1 xc2 xc3 yc0 yc1 yc2 yc3 nc0 nc1 nc2 nc3
      replace HFq := Lib.hid (HFq.out.kept hb)
      replace HFx := Lib.hid (HFx.out.kept hb)
      replace HFy := Lib.hid (HFy.out.kept hb)
      replace HFn := Lib.hid (HFn.out.kept hb)
      replace HQq := Lib.hid (HQq.out.next hb)
      replace HQx := Lib.hid (HQx.out.next hb)
      replace HQy := Lib.hid (HQy.out.next hb)
      replace HWs := Lib.hid (HWs.out.next hb)
      replace HB := Lib.hid (below_next HB.out hb)
      clear hb
      clear HL
      have qc0 := HFq.out.c0
      have qc1 := HFq.out.c1
      have qc2 := HFq.out.c2
      have qc3 := HFq.out.c3
      have xc0 := HFx.out.c0
      have xc1 := HFx.out.c1
      have xc2 := HFx.out.c2
      have xc3 := HFx.out.c3
      have yc0 := HFy.out.c0
      have yc1 := HFy.out.c1
      have yc2 := HFy.out.c2
      have yc3 := HFy.out.c3
      have nc0 := HFn.out.c0
      have nc1 := HFn.out.c1
      have nc2 := HFn.out.c2
      have nc3 := HFn.out.c3
      have HL := Lib.hid (QEq_same (qb := quvNone) HQy.out (quvNone_at _ _) HEy.out (Nat.le_trans ((smU_none 20 60).sets HEy.out) (by omega)) (fun x hx => Nat.le_trans ((smU_none 20 60).each HEy.out x hx) (by omega)) (Nat.le_trans ((smU_none 20 60).opn HEy.out) (by omega)))
      unfold QuV.val quvNone at HL
      simp only [List.length_nil] at HL
      go_wp2_with fail
      refine (HL.out).mono ?_
      rintro e w9 ⟨rfl, hb⟩
      clear qc0 qc1 qc2 qc3 xc0 xc1 xc2 xc3 yc0 yc1 yc2 yc3 nc0 nc1 nc2 nc3
      replace HFq := Lib.hid (HFq.out.kept hb)
      replace HFx := Lib.hid (HFx.out.kept hb)
      replace HFy := Lib.hid (HFy.out.kept hb)
      replace HFn := Lib.hid (HFn.out.kept hb)
      replace HQq := Lib.hid (HQq.out.next hb)
      replace HQx := Lib.hid (HQx.out.next hb)
      replace HQy := Lib.hid (HQy.out.next hb)
      replace HWs := Lib.hid (HWs.out.next hb)
      replace HB := Lib.hid (below_next HB.out hb)
      clear hb
      clear HL
      have qc0 := HFq.out.c0
      have qc1 := HFq.out.c1
      have qc2 := HFq.out.c2
      have qc3 := HFq.out.c3
      have xc0 := HFx.out.c0
      have xc1 := HFx.out.c1
      have xc2 := HFx.out.c2
      have xc3 := HFx.out.c3
      have yc0 := HFy.out.c0
      have yc1 := HFy.out.c1
      have yc2 := HFy.out.c2
      have yc3 := HFy.out.c3
      have nc0 := HFn.out.c0
      have nc1 := HFn.out.c1
      have nc2 := HFn.out.c2
      have nc3 := HFn.out.c3
      go_wp2_with fail
      refine (awake12_any _).mono ?_
      rintro e w10 ⟨rfl, hb⟩
      clear qc0 qc1 qc2 qc3 xc0 xc1 xc2 xc3 yc0 yc1 yc2 yc3 nc0 nc1 nc2 nc3
      replace HFq := Lib.hid (HFq.out.kept hb)
      replace HFx := Lib.hid (HFx.out.kept hb)
      replace HFy := Lib.hid (HFy.out.kept hb)
      replace HFn := Lib.hid (HFn.out.kept hb)
      replace HQq := Lib.hid (HQq.out.next hb)
      replace HQx := Lib.hid (HQx.out.next hb)
      replace HQy := Lib.hid (HQy.out.next hb)
      replace HWs := Lib.hid (HWs.out.next hb)
      replace HB := Lib.hid (below_next HB.out hb)
      clear hb
      go_wp2_with fail
      go_ret
      exact ⟨rfl, HB.out⟩
    | false =>
      have HTF : Hid (q.to_ ≠ q.frm) := Lib.hid (by simpa using hf)
      unfold QuV.val
      go_enter Try.func3, Try.ntmps3
      go_wp2_with fail
      obtain ⟨w1, hw1⟩ : ∃ V, V = w.alloc (.cells #[.slice q.A q.sets.length q.c, .slice q.A2 q.opn.length q.c2, .int .i64 q.frm, .int .i64 q.to_] 25 (0, 0)) := ⟨_, rfl⟩
      have hb : Below w.heap.size w w1 := by rw [hw1]; exact below_one _ _
      have HFq : Hid (Four w1 w.heap.size (.slice q.A q.sets.length q.c) (.slice q.A2 q.opn.length q.c2) (.int .i64 q.frm) (.int .i64 q.to_) 25) := Lib.hid (by rw [hw1]; exact Four.new _ _ _ _ _ _)
      rw [← hw1]
      replace HQq := Lib.hid (HQq.out.next hb)
      replace HWs := Lib.hid (HWs.out.next hb)
      replace HB := Lib.hid (below_next HB.out hb)
      clear hb hw1
      generalize w.heap.size = Pq at HFq ⊢
      have qc0 := HFq.out.c0
      have qc1 := HFq.out.c1
      have qc2 := HFq.out.c2
      have qc3 := HFq.out.c3
      have HL := Lib.hid (SmallQ_any HQq.out hs hx ho)
      rw [HSm.out] at HL
      unfold QuV.val at HL
      refine (HL.out).mono ?_
      rintro e w2 ⟨rfl, hb⟩
      clear qc0 qc1 qc2 qc3
      replace HFq := Lib.hid (HFq.out.kept hb)
      replace HQq := Lib.hid (HQq.out.next hb)
      replace HWs := Lib.hid (HWs.out.next hb)
      replace HB := Lib.hid (below_next HB.out hb)
      clear hb
      have qc0 := HFq.out.c0
      have qc1 := HFq.out.c1
      have qc2 := HFq.out.c2
      have qc3 := HFq.out.c3
      clear HL
      have HL := Lib.hid (DQRight_any HQq.out HFi.out.sets HFi.out.each HFi.out.opn)
      rw [HR.out] at HL
      unfold QuV.val at HL
      go_wp2_with fail
      refine (HL.out).mono ?_
      rintro e w3 ⟨rfl, hb⟩
      clear qc0 qc1 qc2 qc3
      replace HFq := Lib.hid (HFq.out.kept hb)
      replace HQq := Lib.hid (HQq.out.next hb)
      replace HWs := Lib.hid (HWs.out.next hb)
      replace HB := Lib.hid (below_next HB.out hb)
      clear hb
      clear HL
      have qc0 := HFq.out.c0
      have qc1 := HFq.out.c1
      have qc2 := HFq.out.c2
      have qc3 := HFq.out.c3
      have HL := Lib.hid (QAdd_any HQq.out HFi.out HWs.out HO4.out HX4.out)
      rw [(qadd_no (q := q.qu) (fun e => e.2 HTM.out) xs).1, (qadd_no (q := q.qu) (fun e => e.2 HTM.out) xs).2] at HL
      unfold QuV.val at HL
      go_wp2_with fail
      refine HL.out.mono ?_
      rintro e wx ⟨x, hqx, rfl, hA, hb⟩
      clear qc0 qc1 qc2 qc3
      replace HFq := Lib.hid (HFq.out.kept hb)
      replace HQq := Lib.hid (HQq.out.next hb)
      replace HWs := Lib.hid (HWs.out.next hb)
      replace HB := Lib.hid (below_next HB.out hb)
      have HQx := Lib.hid hA
      have HEx := Lib.hid hqx
      clear hb hA hqx HL
      unfold QuV.val
      have qc0 := HFq.out.c0
      have qc1 := HFq.out.c1
      have qc2 := HFq.out.c2
      have qc3 := HFq.out.c3
      have qa0 := (HFq.out.kept (below_one wx (.cells #[.slice x.A x.sets.length x.c, .slice x.A2 x.opn.length x.c2, .int .i64 x.frm, .int .i64 x.to_] 25 (0, 0)))).c0
      have qa1 := (HFq.out.kept (below_one wx (.cells #[.slice x.A x.sets.length x.c, .slice x.A2 x.opn.length x.c2, .int .i64 x.frm, .int .i64 x.to_] 25 (0, 0)))).c1
      have qa2 := (HFq.out.kept (below_one wx (.cells #[.slice x.A x.sets.length x.c, .slice x.A2 x.opn.length x.c2, .int .i64 x.frm, .int .i64 x.to_] 25 (0, 0)))).c2
      have qa3 := (HFq.out.kept (below_one wx (.cells #[.slice x.A x.sets.length x.c, .slice x.A2 x.opn.length x.c2, .int .i64 x.frm, .int .i64 x.to_] 25 (0, 0)))).c3
      go_wp2_with fail
      clear qc0 qc1 qc2 qc3 qa0 qa1 qa2 qa3
      obtain ⟨w4, hw4⟩ : ∃ V, V = wx.alloc (.cells #[.slice x.A x.sets.length x.c, .slice x.A2 x.opn.length x.c2, .int .i64 x.frm, .int .i64 x.to_] 25 (0, 0)) := ⟨_, rfl⟩
      have hb : Below wx.heap.size wx w4 := by rw [hw4]; exact below_one _ _
      have HFx : Hid (Four w4 wx.heap.size (.slice x.A x.sets.length x.c) (.slice x.A2 x.opn.length x.c2) (.int .i64 x.frm) (.int .i64 x.to_) 25) := Lib.hid (by rw [hw4]; exact Four.new _ _ _ _ _ _)
      rw [← hw4]
      replace HFq := Lib.hid (HFq.out.kept hb)
      replace HQq := Lib.hid (HQq.out.next hb)
      replace HQx := Lib.hid (HQx.out.next hb)
      replace HWs := Lib.hid (HWs.out.next hb)
      replace HB := Lib.hid (below_next HB.out hb)
      clear hb hw4
      generalize wx.heap.size = Px at HFx ⊢
      have qc0 := HFq.out.c0
      have qc1 := HFq.out.c1
      have qc2 := HFq.out.c2
      have qc3 := HFq.out.c3
      have xc0 := HFx.out.c0
      have xc1 := HFx.out.c1
      have xc2 := HFx.out.c2
      have xc3 := HFx.out.c3
      have HL := Lib.hid (QCut_any HQq.out HFi.out HS5.out)
      rw [(qcut_yes (q := q.qu) HR.out HTF.out).1, (qcut_yes (q := q.qu) HR.out HTF.out).2] at HL
      unfold QuV.val at HL
      refine HL.out.mono ?_
      rintro e wy ⟨y, hqy, rfl, hA, hb⟩
      clear qc0 qc1 qc2 qc3 xc0 xc1 xc2 xc3
      replace HFq := Lib.hid (HFq.out.kept hb)
      replace HFx := Lib.hid (HFx.out.kept hb)
      replace HQq := Lib.hid (HQq.out.next hb)
      replace HQx := Lib.hid (HQx.out.next hb)
      replace HWs := Lib.hid (HWs.out.next hb)
      replace HB := Lib.hid (below_next HB.out hb)
      have HQy := Lib.hid hA
      have HEy := Lib.hid hqy
      clear hb hA hqy HL
      unfold QuV.val
      have qc0 := HFq.out.c0
      have qc1 := HFq.out.c1
      have qc2 := HFq.out.c2
      have qc3 := HFq.out.c3
      have xc0 := HFx.out.c0
      have xc1 := HFx.out.c1
      have xc2 := HFx.out.c2
      have xc3 := HFx.out.c3
      have qa0 := (HFq.out.kept (below_one wy (.cells #[.slice y.A y.sets.length y.c, .slice y.A2 y.opn.length y.c2, .int .i64 y.frm, .int .i64 y.to_] 25 (0, 0)))).c0
      have qa1 := (HFq.out.kept (below_one wy (.cells #[.slice y.A y.sets.length y.c, .slice y.A2 y.opn.length y.c2, .int .i64 y.frm, .int .i64 y.to_] 25 (0, 0)))).c1
      have qa2 := (HFq.out.kept (below_one wy (.cells #[.slice y.A y.sets.length y.c, .slice y.A2 y.opn.length y.c2, .int .i64 y.frm, .int .i64 y.to_] 25 (0, 0)))).c2
      have qa3 := (HFq.out.kept (below_one wy (.cells #[.slice y.A y.sets.length y.c, .slice y.A2 y.opn.length y.c2, .int .i64 y.frm, .int .i64 y.to_] 25 (0, 0)))).c3
      have xa0 := (HFx.out.kept (below_one wy (.cells #[.slice y.A y.sets.length y.c, .slice y.A2 y.opn.length y.c2, .int .i64 y.frm, .int .i64 y.to_] 25 (0, 0)))).c0
      have xa1 := (HFx.out.kept (below_one wy (.cells #[.slice y.A y.sets.length y.c, .slice y.A2 y.opn.length y.c2, .int .i64 y.frm, .int .i64 y.to_] 25 (0, 0)))).c1
      have xa2 := (HFx.out.kept (below_one wy (.cells #[.slice y.A y.sets.length y.c, .slice y.A2 y.opn.length y.c2, .int .i64 y.frm, .int .i64 y.to_] 25 (0, 0)))).c2
      have xa3 := (HFx.out.kept (below_one wy (.cells #[.slice y.A y.sets.length y.c, .slice y.A2 y.opn.length y.c2, .int .i64 y.frm, .int .i64 y.to_] 25 (0, 0)))).c3
      go_wp2_with fail
      clear qc0 qc1 qc2 qc3 xc0 xc1 xc2 xc3 qa0 qa1 qa2 qa3 xa0 xa1 xa2 xa3
      obtain ⟨w5, hw5⟩ : ∃ V, V = wy.alloc (.cells #[.slice y.A y.sets.length y.c, .slice y.A2 y.opn.length y.c2, .int .i64 y.frm, .int .i64 y.to_] 25 (0, 0)) := ⟨_, rfl⟩
      have hb : Below wy.heap.size wy w5 := by rw [hw5]; exact below_one _ _
      have HFy : Hid (Four w5 wy.heap.size (.slice y.A y.sets.length y.c) (.slice y.A2 y.opn.length y.c2) (.int .i64 y.frm) (.int .i64 y.to_) 25) := Lib.hid (by rw [hw5]; exact Four.new _ _ _ _ _ _)
      rw [← hw5]
      replace HFq := Lib.hid (HFq.out.kept hb)
      replace HFx := Lib.hid (HFx.out.kept hb)
      replace HQq := Lib.hid (HQq.out.next hb)
      replace HQx := Lib.hid (HQx.out.next hb)
      replace HQy := Lib.hid (HQy.out.next hb)
      replace HWs := Lib.hid (HWs.out.next hb)
      replace HB := Lib.hid (below_next HB.out hb)
      clear hb hw5
      generalize wy.heap.size = Py at HFy ⊢
      have qc0 := HFq.out.c0
      have qc1 := HFq.out.c1
      have qc2 := HFq.out.c2
      have qc3 := HFq.out.c3
      have xc0 := HFx.out.c0
      have xc1 := HFx.out.c1
      have xc2 := HFx.out.c2
      have xc3 := HFx.out.c3
      have yc0 := HFy.out.c0
      have yc1 := HFy.out.c1
      have yc2 := HFy.out.c2
      have yc3 := HFy.out.c3
      have HL := Lib.hid (QRight_any HQq.out HFi.out.sets HFi.out.each HFi.out.opn)
      rw [HR.out] at HL
      unfold QuV.val at HL
      refine (HL.out).mono ?_
      rintro e w6 ⟨rfl, hb⟩
      clear qc0 qc1 qc2 qc3 xc0 xc1 xc2 xc3 yc0 yc1 yc2 yc3
      replace HFq := Lib.hid (HFq.out.kept hb)
      replace HFx := Lib.hid (HFx.out.kept hb)
      replace HFy := Lib.hid (HFy.out.kept hb)
      replace HQq := Lib.hid (HQq.out.next hb)
      replace HQx := Lib.hid (HQx.out.next hb)
      replace HQy := Lib.hid (HQy.out.next hb)
      replace HWs := Lib.hid (HWs.out.next hb)
      replace HB := Lib.hid (below_next HB.out hb)
      clear hb
      clear HL
      have qc0 := HFq.out.c0
      have qc1 := HFq.out.c1
      have qc2 := HFq.out.c2
      have qc3 := HFq.out.c3
      have xc0 := HFx.out.c0
      have xc1 := HFx.out.c1
      have xc2 := HFx.out.c2
      have xc3 := HFx.out.c3
      have yc0 := HFy.out.c0
      have yc1 := HFy.out.c1
      have yc2 := HFy.out.c2
      have yc3 := HFy.out.c3
      have qa0 := (HFq.out.kept (below_one w6 (.cells #[.slice none 0 0, .slice none 0 0, .int .i64 0, .int .i64 0] 25 (0, 0)))).c0
      have qa1 := (HFq.out.kept (below_one w6 (.cells #[.slice none 0 0, .slice none 0 0, .int .i64 0, .int .i64 0] 25 (0, 0)))).c1
      have qa2 := (HFq.out.kept (below_one w6 (.cells #[.slice none 0 0, .slice none 0 0, .int .i64 0, .int .i64 0] 25 (0, 0)))).c2
      have qa3 := (HFq.out.kept (below_one w6 (.cells #[.slice none 0 0, .slice none 0 0, .int .i64 0, .int .i64 0] 25 (0, 0)))).c3
      have xa0 := (HFx.out.kept (below_one w6 (.cells #[.slice none 0 0, .slice none 0 0, .int .i64 0, .int .i64 0] 25 (0, 0)))).c0
      have xa1 := (HFx.out.kept (below_one w6 (.cells #[.slice none 0 0, .slice none 0 0, .int .i64 0, .int .i64 0] 25 (0, 0)))).c1
      have xa2 := (HFx.out.kept (below_one w6 (.cells #[.slice none 0 0, .slice none 0 0, .int .i64 0, .int .i64 0] 25 (0, 0)))).c2
      have xa3 := (HFx.out.kept (below_one w6 (.cells #[.slice none 0 0, .slice none 0 0, .int .i64 0, .int .i64 0] 25 (0, 0)))).c3
      have ya0 := (HFy.out.kept (below_one w6 (.cells #[.slice none 0 0, .slice none 0 0, .int .i64 0, .int .i64 0] 25 (0, 0)))).c0
      have ya1 := (HFy.out.kept (below_one w6 (.cells #[.slice none 0 0, .slice none 0 0, .int .i64 0, .int .i64 0] 25 (0, 0)))).c1
      have ya2 := (HFy.out.kept (below_one w6 (.cells #[.slice none 0 0, .slice none 0 0, .int .i64 0, .int .i64 0] 25 (0, 0)))).c2
      have ya3 := (HFy.out.kept (below_one w6 (.cells #[.slice none 0 0, .slice none 0 0, .int .i64 0, .int .i64 0] 25 (0, 0)))).c3
      go_wp2_with fail
      clear qc0 qc1 qc2 qc3 xc0 xc1 xc2 xc3 yc0 yc1 yc2 yc3 qa0 qa1 qa2 qa3 xa0 xa1 xa2 xa3 ya0 ya1 ya2 ya3
      obtain ⟨w7, hw7⟩ : ∃ V, V = w6.alloc (.cells #[.slice none 0 0, .slice none 0 0, .int .i64 0, .int .i64 0] 25 (0, 0)) := ⟨_, rfl⟩
      have hb : Below w6.heap.size w6 w7 := by rw [hw7]; exact below_one _ _
      have HFn : Hid (Four w7 w6.heap.size (.slice none 0 0) (.slice none 0 0) (.int .i64 0) (.int .i64 0) 25) := Lib.hid (by rw [hw7]; exact Four.new _ _ _ _ _ _)
      rw [← hw7]
      replace HFq := Lib.hid (HFq.out.kept hb)
      replace HFx := Lib.hid (HFx.out.kept hb)
      replace HFy := Lib.hid (HFy.out.kept hb)
      replace HQq := Lib.hid (HQq.out.next hb)
      replace HQx := Lib.hid (HQx.out.next hb)
      replace HQy := Lib.hid (HQy.out.next hb)
      replace HWs := Lib.hid (HWs.out.next hb)
      replace HB := Lib.hid (below_next HB.out hb)
      clear hb hw7
      generalize w6.heap.size = Pn at HFn ⊢
      have qc0 := HFq.out.c0
      have qc1 := HFq.out.c1
      have qc2 := HFq.out.c2
      have qc3 := HFq.out.c3
      have xc0 := HFx.out.c0
      have xc1 := HFx.out.c1
      have xc2 := HFx.out.c2
      have xc3 := HFx.out.c3
      have yc0 := HFy.out.c0
      have yc1 := HFy.out.c1
      have yc2 := HFy.out.c2
      have yc3 := HFy.out.c3
      have nc0 := HFn.out.c0
      have nc1 := HFn.out.c1
      have nc2 := HFn.out.c2
      have nc3 := HFn.out.c3
      have HL := Lib.hid (QEq_same (qb := quvNone) HQx.out (quvNone_at _ _) HEx.out (Nat.le_trans ((smU_none 20 60).sets HEx.out) (by omega)) (fun x hx => Nat.le_trans ((smU_none 20 60).each HEx.out x hx) (by omega)) (Nat.le_trans ((smU_none 20 60).opn HEx.out) (by omega)))
      unfold QuV.val quvNone at HL
      simp only [List.length_nil] at HL
      refine (HL.out).mono ?_
      rintro e w8 ⟨rfl, hb⟩
      clear qc0 qc1 qc2 qc3 xc0 xc1 xc2 xc3 yc0 yc1 yc2 yc3 nc0 nc1 nc2 nc3
      replace HFq := Lib.hid (HFq.out.kept hb)
      replace HFx := Lib.hid (HFx.out.kept hb)
      replace HFy := Lib.hid (HFy.out.kept hb)
      replace HFn := Lib.hid (HFn.out.kept hb)
      replace HQq := Lib.hid (HQq.out.next hb)
      replace HQx := Lib.hid (HQx.out.next hb)
      replace HQy := Lib.hid (HQy.out.next hb)
      replace HWs := Lib.hid (HWs.out.next hb)
      replace HB := Lib.hid (below_next HB.out hb)
      clear hb
      clear HL
      have qc0 := HFq.out.c0
      have qc1 := HFq.out.c1
      have qc2 := HFq.out.c2
      have qc3 := HFq.out.c3
      have xc0 := HFx.out.c0
      have xc1 := HFx.out.c1
      have xc2 := HFx.out.c2
      have xc3 := HFx.out.c3
      have yc0 := HFy.out.c0
      have yc1 := HFy.out.c1
      have yc2 := HFy.out.c2
      have yc3 := HFy.out.c3
      have nc0 := HFn.out.c0
      have nc1 := HFn.out.c1
      have nc2 := HFn.out.c2
      have nc3 := HFn.out.c3
      have HSc := Lib.hid (smU_cut HU.out)
      go_wp2_with fail
      have Hy := fun z : LatW w8 => (HFy.out.lat z)
      have Hq := fun z : LatW w8 => (HFq.out.lat z)
      have y0 := fun z : LatW w8 => (Hy z).c0
      have y1 := fun z : LatW w8 => (Hy z).c1
      have y2 := fun z : LatW w8 => (Hy z).c2
      have y3 := fun z : LatW w8 => (Hy z).c3
      have q0 := fun z : LatW w8 => (Hq z).c0
      have q1 := fun z : LatW w8 => (Hq z).c1
      have q2 := fun z : LatW w8 => (Hq z).c2
      have q3 := fun z : LatW w8 => (Hq z).c3
      clear Hy Hq
      have HDd : Hid (∀ z : LatW w8, Calls Try.prog 16 #[q.val] z.wd (QuEnd (quCut q.qu) z.wd)) := Lib.hid (fun z => DQCut_any (HQq.out.next z.bel) HS5.out)
      unfold QuEnd QuV.val at HDd
      have HEqd : Hid (∀ (z : LatW w8) (d : QuV), d.qu = quCut q.qu → QuAt z.wd z.wd.heap.size d → Calls Try.prog 14 #[y.val, d.val] z.wd fun e w' => e = .returned (.bool true) ∧ Below z.wd.heap.size z.wd w') := Lib.hid (fun z d hd hA => QEq_same (HQy.out.next z.bel) hA (HEy.out.trans hd.symm) (Nat.le_trans (HSc.out.sets HEy.out) (by omega)) (fun x hx => Nat.le_trans (HSc.out.each HEy.out x hx) (by omega)) (Nat.le_trans (HSc.out.opn HEy.out) (by omega)))
      unfold QuV.val at HEqd
      have HAw := Lib.hid (fun z : LatW w8 => awake12_any z.wd)
      have HEnd : Hid (∀ z : LatW w8, Below w.heap.size w z.wd) := Lib.hid (fun z => below_next HB.out z.bel)
      clear qc0 qc1 qc2 qc3 xc0 xc1 xc2 xc3 yc0 yc1 yc2 yc3 nc0 nc1 nc2 nc3
      go_region_held3 (fun w' => w'.cell? ⟨Py, 0, none⟩ = some (.slice y.A y.sets.length y.c) ∧ w'.cell? ⟨Py, 1, none⟩ = some (.slice y.A2 y.opn.length y.c2) ∧ w'.cell? ⟨Py, 2, none⟩ = some (.int .i64 y.frm) ∧ w'.cell? ⟨Py, 3, none⟩ = some (.int .i64 y.to_) ∧ w'.cell? ⟨Pq, 0, none⟩ = some (.slice q.A q.sets.length q.c) ∧ w'.cell? ⟨Pq, 1, none⟩ = some (.slice q.A2 q.opn.length q.c2) ∧ w'.cell? ⟨Pq, 2, none⟩ = some (.int .i64 q.frm) ∧ w'.cell? ⟨Pq, 3, none⟩ = some (.int .i64 q.to_)) (first | with_reducible exact ⟨y0 z3, y1 z3, y2 z3, y3 z3, q0 z3, q1 z3, q2 z3, q3 z3⟩ | with_reducible exact ⟨y0 z2, y1 z2, y2 z2, y3 z2, q0 z2, q1 z2, q2 z2, q3 z2⟩ | with_reducible exact ⟨y0 z1, y1 z1, y2 z1, y3 z1, q0 z1, q1 z1, q2 z1, q3 z1⟩ | exact ⟨y0 (LatW.mkd (⟨w8, Below.refl _ _⟩ : LatW w8)), y1 (LatW.mkd (⟨w8, Below.refl _ _⟩ : LatW w8)), y2 (LatW.mkd (⟨w8, Below.refl _ _⟩ : LatW w8)), y3 (LatW.mkd (⟨w8, Below.refl _ _⟩ : LatW w8)), q0 (LatW.mkd (⟨w8, Below.refl _ _⟩ : LatW w8)), q1 (LatW.mkd (⟨w8, Below.refl _ _⟩ : LatW w8)), q2 (LatW.mkd (⟨w8, Below.refl _ _⟩ : LatW w8)), q3 (LatW.mkd (⟨w8, Below.refl _ _⟩ : LatW w8))⟩) (first | (go_at_call 16; refine (HDd.out (LatW.mkd (⟨w8, Below.refl _ _⟩ : LatW w8))).mono ?_; rintro e wz ⟨d, hd, rfl, hA, hb⟩; replace hd := Lib.hid hd; replace hA := Lib.hid hA; obtain ⟨z1, hz⟩ := LatW.later (LatW.mkd (⟨w8, Below.refl _ _⟩ : LatW w8)) hb; subst hz; clear hb) | (go_at_call 14; refine (HEqd.out z1 d hd.out hA.out).mono ?_; rintro e wz ⟨rfl, hb⟩;  obtain ⟨z2, hz⟩ := LatW.later z1 hb; subst hz; clear hb) | (go_at_call 9; refine (HAw.out z2).mono ?_; rintro e wz ⟨rfl, hb⟩;  obtain ⟨z3, hz⟩ := LatW.later z2 hb; subst hz; clear hb))
      all_goals (go_wp2_with fail; go_ret; exact ⟨rfl, HEnd.out _⟩)
  | false =>
    have HTM : Hid (q.to_ ≠ 1099511627776) := Lib.hid (by simpa using hm)
    cases hf : (q.to_ == q.frm) with
    | true =>
      have HTF : Hid (q.to_ = q.frm) := Lib.hid (by simpa using hf)
      unfold QuV.val
      go_enter Try.func3, Try.ntmps3
      go_wp2_with fail
      obtain ⟨w1, hw1⟩ : ∃ V, V = w.alloc (.cells #[.slice q.A q.sets.length q.c, .slice q.A2 q.opn.length q.c2, .int .i64 q.frm, .int .i64 q.to_] 25 (0, 0)) := ⟨_, rfl⟩
      have hb : Below w.heap.size w w1 := by rw [hw1]; exact below_one _ _
      have HFq : Hid (Four w1 w.heap.size (.slice q.A q.sets.length q.c) (.slice q.A2 q.opn.length q.c2) (.int .i64 q.frm) (.int .i64 q.to_) 25) := Lib.hid (by rw [hw1]; exact Four.new _ _ _ _ _ _)
      rw [← hw1]
      replace HQq := Lib.hid (HQq.out.next hb)
      replace HWs := Lib.hid (HWs.out.next hb)
      replace HB := Lib.hid (below_next HB.out hb)
      clear hb hw1
      generalize w.heap.size = Pq at HFq ⊢
      have qc0 := HFq.out.c0
      have qc1 := HFq.out.c1
      have qc2 := HFq.out.c2
      have qc3 := HFq.out.c3
      have HL := Lib.hid (SmallQ_any HQq.out hs hx ho)
      rw [HSm.out] at HL
      unfold QuV.val at HL
      refine (HL.out).mono ?_
      rintro e w2 ⟨rfl, hb⟩
      clear qc0 qc1 qc2 qc3
      replace HFq := Lib.hid (HFq.out.kept hb)
      replace HQq := Lib.hid (HQq.out.next hb)
      replace HWs := Lib.hid (HWs.out.next hb)
      replace HB := Lib.hid (below_next HB.out hb)
      clear hb
      have qc0 := HFq.out.c0
      have qc1 := HFq.out.c1
      have qc2 := HFq.out.c2
      have qc3 := HFq.out.c3
      clear HL
      have HL := Lib.hid (DQRight_any HQq.out HFi.out.sets HFi.out.each HFi.out.opn)
      rw [HR.out] at HL
      unfold QuV.val at HL
      go_wp2_with fail
      refine (HL.out).mono ?_
      rintro e w3 ⟨rfl, hb⟩
      clear qc0 qc1 qc2 qc3
      replace HFq := Lib.hid (HFq.out.kept hb)
      replace HQq := Lib.hid (HQq.out.next hb)
      replace HWs := Lib.hid (HWs.out.next hb)
      replace HB := Lib.hid (below_next HB.out hb)
      clear hb
      clear HL
      have qc0 := HFq.out.c0
      have qc1 := HFq.out.c1
      have qc2 := HFq.out.c2
      have qc3 := HFq.out.c3
      have HL := Lib.hid (QAdd_any HQq.out HFi.out HWs.out HO4.out HX4.out)
      rw [(qadd_yes (q := q.qu) HR.out HTM.out xs).1, (qadd_yes (q := q.qu) HR.out HTM.out xs).2] at HL
      unfold QuV.val at HL
      go_wp2_with fail
      refine HL.out.mono ?_
      rintro e wx ⟨x, hqx, rfl, hA, hb⟩
      clear qc0 qc1 qc2 qc3
      replace HFq := Lib.hid (HFq.out.kept hb)
      replace HQq := Lib.hid (HQq.out.next hb)
      replace HWs := Lib.hid (HWs.out.next hb)
      replace HB := Lib.hid (below_next HB.out hb)
      have HQx := Lib.hid hA
      have HEx := Lib.hid hqx
      clear hb hA hqx HL
      unfold QuV.val
      have qc0 := HFq.out.c0
      have qc1 := HFq.out.c1
      have qc2 := HFq.out.c2
      have qc3 := HFq.out.c3
      have qa0 := (HFq.out.kept (below_one wx (.cells #[.slice x.A x.sets.length x.c, .slice x.A2 x.opn.length x.c2, .int .i64 x.frm, .int .i64 x.to_] 25 (0, 0)))).c0
      have qa1 := (HFq.out.kept (below_one wx (.cells #[.slice x.A x.sets.length x.c, .slice x.A2 x.opn.length x.c2, .int .i64 x.frm, .int .i64 x.to_] 25 (0, 0)))).c1
      have qa2 := (HFq.out.kept (below_one wx (.cells #[.slice x.A x.sets.length x.c, .slice x.A2 x.opn.length x.c2, .int .i64 x.frm, .int .i64 x.to_] 25 (0, 0)))).c2
      have qa3 := (HFq.out.kept (below_one wx (.cells #[.slice x.A x.sets.length x.c, .slice x.A2 x.opn.length x.c2, .int .i64 x.frm, .int .i64 x.to_] 25 (0, 0)))).c3
      go_wp2_with fail
      clear qc0 qc1 qc2 qc3 qa0 qa1 qa2 qa3
      obtain ⟨w4, hw4⟩ : ∃ V, V = wx.alloc (.cells #[.slice x.A x.sets.length x.c, .slice x.A2 x.opn.length x.c2, .int .i64 x.frm, .int .i64 x.to_] 25 (0, 0)) := ⟨_, rfl⟩
      have hb : Below wx.heap.size wx w4 := by rw [hw4]; exact below_one _ _
      have HFx : Hid (Four w4 wx.heap.size (.slice x.A x.sets.length x.c) (.slice x.A2 x.opn.length x.c2) (.int .i64 x.frm) (.int .i64 x.to_) 25) := Lib.hid (by rw [hw4]; exact Four.new _ _ _ _ _ _)
      rw [← hw4]
      replace HFq := Lib.hid (HFq.out.kept hb)
      replace HQq := Lib.hid (HQq.out.next hb)
      replace HQx := Lib.hid (HQx.out.next hb)
      replace HWs := Lib.hid (HWs.out.next hb)
      replace HB := Lib.hid (below_next HB.out hb)
      clear hb hw4
      generalize wx.heap.size = Px at HFx ⊢
      have qc0 := HFq.out.c0
      have qc1 := HFq.out.c1
      have qc2 := HFq.out.c2
      have qc3 := HFq.out.c3
      have xc0 := HFx.out.c0
      have xc1 := HFx.out.c1
      have xc2 := HFx.out.c2
      have xc3 := HFx.out.c3
      have HL := Lib.hid (QCut_any HQq.out HFi.out HS5.out)
      rw [(qcut_none (q := q.qu) HR.out HTF.out).1, (qcut_none (q := q.qu) HR.out HTF.out).2] at HL
      unfold QuV.val at HL
      refine HL.out.mono ?_
      rintro e wy ⟨y, hqy, rfl, hA, hb⟩
      clear qc0 qc1 qc2 qc3 xc0 xc1 xc2 xc3
      replace HFq := Lib.hid (HFq.out.kept hb)
      replace HFx := Lib.hid (HFx.out.kept hb)
      replace HQq := Lib.hid (HQq.out.next hb)
      replace HQx := Lib.hid (HQx.out.next hb)
      replace HWs := Lib.hid (HWs.out.next hb)
      replace HB := Lib.hid (below_next HB.out hb)
      have HQy := Lib.hid hA
      have HEy := Lib.hid hqy
      clear hb hA hqy HL
      unfold QuV.val
      have qc0 := HFq.out.c0
      have qc1 := HFq.out.c1
      have qc2 := HFq.out.c2
      have qc3 := HFq.out.c3
      have xc0 := HFx.out.c0
      have xc1 := HFx.out.c1
      have xc2 := HFx.out.c2
      have xc3 := HFx.out.c3
      have qa0 := (HFq.out.kept (below_one wy (.cells #[.slice y.A y.sets.length y.c, .slice y.A2 y.opn.length y.c2, .int .i64 y.frm, .int .i64 y.to_] 25 (0, 0)))).c0
      have qa1 := (HFq.out.kept (below_one wy (.cells #[.slice y.A y.sets.length y.c, .slice y.A2 y.opn.length y.c2, .int .i64 y.frm, .int .i64 y.to_] 25 (0, 0)))).c1
      have qa2 := (HFq.out.kept (below_one wy (.cells #[.slice y.A y.sets.length y.c, .slice y.A2 y.opn.length y.c2, .int .i64 y.frm, .int .i64 y.to_] 25 (0, 0)))).c2
      have qa3 := (HFq.out.kept (below_one wy (.cells #[.slice y.A y.sets.length y.c, .slice y.A2 y.opn.length y.c2, .int .i64 y.frm, .int .i64 y.to_] 25 (0, 0)))).c3
      have xa0 := (HFx.out.kept (below_one wy (.cells #[.slice y.A y.sets.length y.c, .slice y.A2 y.opn.length y.c2, .int .i64 y.frm, .int .i64 y.to_] 25 (0, 0)))).c0
      have xa1 := (HFx.out.kept (below_one wy (.cells #[.slice y.A y.sets.length y.c, .slice y.A2 y.opn.length y.c2, .int .i64 y.frm, .int .i64 y.to_] 25 (0, 0)))).c1
      have xa2 := (HFx.out.kept (below_one wy (.cells #[.slice y.A y.sets.length y.c, .slice y.A2 y.opn.length y.c2, .int .i64 y.frm, .int .i64 y.to_] 25 (0, 0)))).c2
      have xa3 := (HFx.out.kept (below_one wy (.cells #[.slice y.A y.sets.length y.c, .slice y.A2 y.opn.length y.c2, .int .i64 y.frm, .int .i64 y.to_] 25 (0, 0)))).c3
      go_wp2_with fail
      clear qc0 qc1 qc2 qc3 xc0 xc1 xc2 xc3 qa0 qa1 qa2 qa3 xa0 xa1 xa2 xa3
      obtain ⟨w5, hw5⟩ : ∃ V, V = wy.alloc (.cells #[.slice y.A y.sets.length y.c, .slice y.A2 y.opn.length y.c2, .int .i64 y.frm, .int .i64 y.to_] 25 (0, 0)) := ⟨_, rfl⟩
      have hb : Below wy.heap.size wy w5 := by rw [hw5]; exact below_one _ _
      have HFy : Hid (Four w5 wy.heap.size (.slice y.A y.sets.length y.c) (.slice y.A2 y.opn.length y.c2) (.int .i64 y.frm) (.int .i64 y.to_) 25) := Lib.hid (by rw [hw5]; exact Four.new _ _ _ _ _ _)
      rw [← hw5]
      replace HFq := Lib.hid (HFq.out.kept hb)
      replace HFx := Lib.hid (HFx.out.kept hb)
      replace HQq := Lib.hid (HQq.out.next hb)
      replace HQx := Lib.hid (HQx.out.next hb)
      replace HQy := Lib.hid (HQy.out.next hb)
      replace HWs := Lib.hid (HWs.out.next hb)
      replace HB := Lib.hid (below_next HB.out hb)
      clear hb hw5
      generalize wy.heap.size = Py at HFy ⊢
      have qc0 := HFq.out.c0
      have qc1 := HFq.out.c1
      have qc2 := HFq.out.c2
      have qc3 := HFq.out.c3
      have xc0 := HFx.out.c0
      have xc1 := HFx.out.c1
      have xc2 := HFx.out.c2
      have xc3 := HFx.out.c3
      have yc0 := HFy.out.c0
      have yc1 := HFy.out.c1
      have yc2 := HFy.out.c2
      have yc3 := HFy.out.c3
      have HL := Lib.hid (QRight_any HQq.out HFi.out.sets HFi.out.each HFi.out.opn)
      rw [HR.out] at HL
      unfold QuV.val at HL
      refine (HL.out).mono ?_
      rintro e w6 ⟨rfl, hb⟩
      clear qc0 qc1 qc2 qc3 xc0 xc1 xc2 xc3 yc0 yc1 yc2 yc3
      replace HFq := Lib.hid (HFq.out.kept hb)
      replace HFx := Lib.hid (HFx.out.kept hb)
      replace HFy := Lib.hid (HFy.out.kept hb)
      replace HQq := Lib.hid (HQq.out.next hb)
      replace HQx := Lib.hid (HQx.out.next hb)
      replace HQy := Lib.hid (HQy.out.next hb)
      replace HWs := Lib.hid (HWs.out.next hb)
      replace HB := Lib.hid (below_next HB.out hb)
      clear hb
      clear HL
      have qc0 := HFq.out.c0
      have qc1 := HFq.out.c1
      have qc2 := HFq.out.c2
      have qc3 := HFq.out.c3
      have xc0 := HFx.out.c0
      have xc1 := HFx.out.c1
      have xc2 := HFx.out.c2
      have xc3 := HFx.out.c3
      have yc0 := HFy.out.c0
      have yc1 := HFy.out.c1
      have yc2 := HFy.out.c2
      have yc3 := HFy.out.c3
      have qa0 := (HFq.out.kept (below_one w6 (.cells #[.slice none 0 0, .slice none 0 0, .int .i64 0, .int .i64 0] 25 (0, 0)))).c0
      have qa1 := (HFq.out.kept (below_one w6 (.cells #[.slice none 0 0, .slice none 0 0, .int .i64 0, .int .i64 0] 25 (0, 0)))).c1
      have qa2 := (HFq.out.kept (below_one w6 (.cells #[.slice none 0 0, .slice none 0 0, .int .i64 0, .int .i64 0] 25 (0, 0)))).c2
      have qa3 := (HFq.out.kept (below_one w6 (.cells #[.slice none 0 0, .slice none 0 0, .int .i64 0, .int .i64 0] 25 (0, 0)))).c3
      have xa0 := (HFx.out.kept (below_one w6 (.cells #[.slice none 0 0, .slice none 0 0, .int .i64 0, .int .i64 0] 25 (0, 0)))).c0
      have xa1 := (HFx.out.kept (below_one w6 (.cells #[.slice none 0 0, .slice none 0 0, .int .i64 0, .int .i64 0] 25 (0, 0)))).c1
      have xa2 := (HFx.out.kept (below_one w6 (.cells #[.slice none 0 0, .slice none 0 0, .int .i64 0, .int .i64 0] 25 (0, 0)))).c2
      have xa3 := (HFx.out.kept (below_one w6 (.cells #[.slice none 0 0, .slice none 0 0, .int .i64 0, .int .i64 0] 25 (0, 0)))).c3
      have ya0 := (HFy.out.kept (below_one w6 (.cells #[.slice none 0 0, .slice none 0 0, .int .i64 0, .int .i64 0] 25 (0, 0)))).c0
      have ya1 := (HFy.out.kept (below_one w6 (.cells #[.slice none 0 0, .slice none 0 0, .int .i64 0, .int .i64 0] 25 (0, 0)))).c1
      have ya2 := (HFy.out.kept (below_one w6 (.cells #[.slice none 0 0, .slice none 0 0, .int .i64 0, .int .i64 0] 25 (0, 0)))).c2
      have ya3 := (HFy.out.kept (below_one w6 (.cells #[.slice none 0 0, .slice none 0 0, .int .i64 0, .int .i64 0] 25 (0, 0)))).c3
      go_wp2_with fail
      clear qc0 qc1 qc2 qc3 xc0 xc1 xc2 xc3 yc0 yc1 yc2 yc3 qa0 qa1 qa2 qa3 xa0 xa1 xa2 xa3 ya0 ya1 ya2 ya3
      obtain ⟨w7, hw7⟩ : ∃ V, V = w6.alloc (.cells #[.slice none 0 0, .slice none 0 0, .int .i64 0, .int .i64 0] 25 (0, 0)) := ⟨_, rfl⟩
      have hb : Below w6.heap.size w6 w7 := by rw [hw7]; exact below_one _ _
      have HFn : Hid (Four w7 w6.heap.size (.slice none 0 0) (.slice none 0 0) (.int .i64 0) (.int .i64 0) 25) := Lib.hid (by rw [hw7]; exact Four.new _ _ _ _ _ _)
      rw [← hw7]
      replace HFq := Lib.hid (HFq.out.kept hb)
      replace HFx := Lib.hid (HFx.out.kept hb)
      replace HFy := Lib.hid (HFy.out.kept hb)
      replace HQq := Lib.hid (HQq.out.next hb)
      replace HQx := Lib.hid (HQx.out.next hb)
      replace HQy := Lib.hid (HQy.out.next hb)
      replace HWs := Lib.hid (HWs.out.next hb)
      replace HB := Lib.hid (below_next HB.out hb)
      clear hb hw7
      generalize w6.heap.size = Pn at HFn ⊢
      have qc0 := HFq.out.c0
      have qc1 := HFq.out.c1
      have qc2 := HFq.out.c2
      have qc3 := HFq.out.c3
      have xc0 := HFx.out.c0
      have xc1 := HFx.out.c1
      have xc2 := HFx.out.c2
      have xc3 := HFx.out.c3
      have yc0 := HFy.out.c0
      have yc1 := HFy.out.c1
      have yc2 := HFy.out.c2
      have yc3 := HFy.out.c3
      have nc0 := HFn.out.c0
      have nc1 := HFn.out.c1
      have nc2 := HFn.out.c2
      have nc3 := HFn.out.c3
      go_wp2_with fail
      have Hx := fun z : LatW w7 => (HFx.out.lat z)
      have Hq := fun z : LatW w7 => (HFq.out.lat z)
      have x0 := fun z : LatW w7 => (Hx z).c0
      have x1 := fun z : LatW w7 => (Hx z).c1
      have x2 := fun z : LatW w7 => (Hx z).c2
      have x3 := fun z : LatW w7 => (Hx z).c3
      have q0 := fun z : LatW w7 => (Hq z).c0
      have q1 := fun z : LatW w7 => (Hq z).c1
      have q2 := fun z : LatW w7 => (Hq z).c2
      have q3 := fun z : LatW w7 => (Hq z).c3
      clear Hx Hq
      have HDd : Hid (∀ z : LatW w7, Calls Try.prog 15 #[q.val, .slice A3 xs.length c3] z.wd (QuEnd (quAdd q.qu xs) z.wd)) := Lib.hid (fun z => DQAdd_any (HQq.out.next z.bel) (HWs.out.next z.bel) ⟨HO4.out, (HQq.out).nil2⟩ HX4.out HNum.out)
      unfold QuEnd QuV.val at HDd
      have HEqd : Hid (∀ (z : LatW w7) (d : QuV), d.qu = quAdd q.qu xs → QuAt z.wd z.wd.heap.size d → Calls Try.prog 14 #[x.val, d.val] z.wd fun e w' => e = .returned (.bool true) ∧ Below z.wd.heap.size z.wd w') := Lib.hid (fun z d hd hA => QEq_same (HQx.out.next z.bel) hA (HEx.out.trans hd.symm) (Nat.le_trans (HSa.out.sets HEx.out) (by omega)) (fun x hx => Nat.le_trans (HSa.out.each HEx.out x hx) (by omega)) (Nat.le_trans (HSa.out.opn HEx.out) (by omega)))
      unfold QuV.val at HEqd
      clear qc0 qc1 qc2 qc3 xc0 xc1 xc2 xc3 yc0 yc1 yc2 yc3 nc0 nc1 nc2 nc3
      go_region_held3 (fun w' => w'.cell? ⟨Px, 0, none⟩ = some (.slice x.A x.sets.length x.c) ∧ w'.cell? ⟨Px, 1, none⟩ = some (.slice x.A2 x.opn.length x.c2) ∧ w'.cell? ⟨Px, 2, none⟩ = some (.int .i64 x.frm) ∧ w'.cell? ⟨Px, 3, none⟩ = some (.int .i64 x.to_) ∧ w'.cell? ⟨Pq, 0, none⟩ = some (.slice q.A q.sets.length q.c) ∧ w'.cell? ⟨Pq, 1, none⟩ = some (.slice q.A2 q.opn.length q.c2) ∧ w'.cell? ⟨Pq, 2, none⟩ = some (.int .i64 q.frm) ∧ w'.cell? ⟨Pq, 3, none⟩ = some (.int .i64 q.to_)) (first | with_reducible exact ⟨x0 z2, x1 z2, x2 z2, x3 z2, q0 z2, q1 z2, q2 z2, q3 z2⟩ | with_reducible exact ⟨x0 z1, x1 z1, x2 z1, x3 z1, q0 z1, q1 z1, q2 z1, q3 z1⟩ | exact ⟨x0 (LatW.mkd (⟨w7, Below.refl _ _⟩ : LatW w7)), x1 (LatW.mkd (⟨w7, Below.refl _ _⟩ : LatW w7)), x2 (LatW.mkd (⟨w7, Below.refl _ _⟩ : LatW w7)), x3 (LatW.mkd (⟨w7, Below.refl _ _⟩ : LatW w7)), q0 (LatW.mkd (⟨w7, Below.refl _ _⟩ : LatW w7)), q1 (LatW.mkd (⟨w7, Below.refl _ _⟩ : LatW w7)), q2 (LatW.mkd (⟨w7, Below.refl _ _⟩ : LatW w7)), q3 (LatW.mkd (⟨w7, Below.refl _ _⟩ : LatW w7))⟩) (first | (go_at_call 15; refine (HDd.out (LatW.mkd (⟨w7, Below.refl _ _⟩ : LatW w7))).mono ?_; rintro e wz ⟨d, hd, rfl, hA, hb⟩; replace hd := Lib.hid hd; replace hA := Lib.hid hA; obtain ⟨z1, hz⟩ := LatW.later (LatW.mkd (⟨w7, Below.refl _ _⟩ : LatW w7)) hb; subst hz; clear hb) | (go_at_call 14; refine (HEqd.out z1 d hd.out hA.out).mono ?_; rintro e wz ⟨rfl, hb⟩;  obtain ⟨z2, hz⟩ := LatW.later z1 hb; subst hz; clear hb))
      clear HDd HEqd x0 x1 x2 x3 q0 q1 q2 q3
      have hb := z2.bel
      generalize z2.wd = w8 at hb ⊢
      replace HFq := Lib.hid (HFq.out.kept hb)
      replace HFx := Lib.hid (HFx.out.kept hb)
      replace HFy := Lib.hid (HFy.out.kept hb)
      replace HFn := Lib.hid (HFn.out.kept hb)
      replace HQq := Lib.hid (HQq.out.next hb)
      replace HQx := Lib.hid (HQx.out.next hb)
      replace HQy := Lib.hid (HQy.out.next hb)
      replace HWs := Lib.hid (HWs.out.next hb)
      replace HB := Lib.hid (below_next HB.out hb)
      clear hb
      have qc0 := HFq.out.c0
      have qc1 := HFq.out.c1
      have qc2 := HFq.out.c2
      have qc3 := HFq.out.c3
      have xc0 := HFx.out.c0
      have xc1 := HFx.out.c1
      have xc2 := HFx.out.c2
      have xc3 := HFx.out.c3
      have yc0 := HFy.out.c0
      have yc1 := HFy.out.c1
      have yc2 := HFy.out.c2
      have yc3 := HFy.out.c3
      have nc0 := HFn.out.c0
      have nc1 := HFn.out.c1
      have nc2 := HFn.out.c2
      have nc3 := HFn.out.c3
      have HL := Lib.hid (QEq_same (qb := quvNone) HQy.out (quvNone_at _ _) HEy.out (Nat.le_trans ((smU_none 20 60).sets HEy.out) (by omega)) (fun x hx => Nat.le_trans ((smU_none 20 60).each HEy.out x hx) (by omega)) (Nat.le_trans ((smU_none 20 60).opn HEy.out) (by omega)))
      unfold QuV.val quvNone at HL
      simp only [List.length_nil] at HL
      go_wp2_with fail
      refine (HL.out).mono ?_
      rintro e w9 ⟨rfl, hb⟩
      clear qc0 qc1 qc2 qc3 xc0 xc1 xc2 xc3 yc0 yc1 yc2 yc3 nc0 nc1 nc2 nc3
      replace HFq := Lib.hid (HFq.out.kept hb)
      replace HFx := Lib.hid (HFx.out.kept hb)
      replace HFy := Lib.hid (HFy.out.kept hb)
      replace HFn := Lib.hid (HFn.out.kept hb)
      replace HQq := Lib.hid (HQq.out.next hb)
      replace HQx := Lib.hid (HQx.out.next hb)
      replace HQy := Lib.hid (HQy.out.next hb)
      replace HWs := Lib.hid (HWs.out.next hb)
      replace HB := Lib.hid (below_next HB.out hb)
      clear hb
      clear HL
      have qc0 := HFq.out.c0
      have qc1 := HFq.out.c1
      have qc2 := HFq.out.c2
      have qc3 := HFq.out.c3
      have xc0 := HFx.out.c0
      have xc1 := HFx.out.c1
      have xc2 := HFx.out.c2
      have xc3 := HFx.out.c3
      have yc0 := HFy.out.c0
      have yc1 := HFy.out.c1
      have yc2 := HFy.out.c2
      have yc3 := HFy.out.c3
      have nc0 := HFn.out.c0
      have nc1 := HFn.out.c1
      have nc2 := HFn.out.c2
      have nc3 := HFn.out.c3
      go_wp2_with fail
      refine (awake12_any _).mono ?_
      rintro e w10 ⟨rfl, hb⟩
      clear qc0 qc1 qc2 qc3 xc0 xc1 xc2 xc3 yc0 yc1 yc2 yc3 nc0 nc1 nc2 nc3
      replace HFq := Lib.hid (HFq.out.kept hb)
      replace HFx := Lib.hid (HFx.out.kept hb)
      replace HFy := Lib.hid (HFy.out.kept hb)
      replace HFn := Lib.hid (HFn.out.kept hb)
      replace HQq := Lib.hid (HQq.out.next hb)
      replace HQx := Lib.hid (HQx.out.next hb)
      replace HQy := Lib.hid (HQy.out.next hb)
      replace HWs := Lib.hid (HWs.out.next hb)
      replace HB := Lib.hid (below_next HB.out hb)
      clear hb
      go_wp2_with fail
      go_ret
      exact ⟨rfl, HB.out⟩
    | false =>
      have HTF : Hid (q.to_ ≠ q.frm) := Lib.hid (by simpa using hf)
      unfold QuV.val
      go_enter Try.func3, Try.ntmps3
      go_wp2_with fail
      obtain ⟨w1, hw1⟩ : ∃ V, V = w.alloc (.cells #[.slice q.A q.sets.length q.c, .slice q.A2 q.opn.length q.c2, .int .i64 q.frm, .int .i64 q.to_] 25 (0, 0)) := ⟨_, rfl⟩
      have hb : Below w.heap.size w w1 := by rw [hw1]; exact below_one _ _
      have HFq : Hid (Four w1 w.heap.size (.slice q.A q.sets.length q.c) (.slice q.A2 q.opn.length q.c2) (.int .i64 q.frm) (.int .i64 q.to_) 25) := Lib.hid (by rw [hw1]; exact Four.new _ _ _ _ _ _)
      rw [← hw1]
      replace HQq := Lib.hid (HQq.out.next hb)
      replace HWs := Lib.hid (HWs.out.next hb)
      replace HB := Lib.hid (below_next HB.out hb)
      clear hb hw1
      generalize w.heap.size = Pq at HFq ⊢
      have qc0 := HFq.out.c0
      have qc1 := HFq.out.c1
      have qc2 := HFq.out.c2
      have qc3 := HFq.out.c3
      have HL := Lib.hid (SmallQ_any HQq.out hs hx ho)
      rw [HSm.out] at HL
      unfold QuV.val at HL
      refine (HL.out).mono ?_
      rintro e w2 ⟨rfl, hb⟩
      clear qc0 qc1 qc2 qc3
      replace HFq := Lib.hid (HFq.out.kept hb)
      replace HQq := Lib.hid (HQq.out.next hb)
      replace HWs := Lib.hid (HWs.out.next hb)
      replace HB := Lib.hid (below_next HB.out hb)
      clear hb
      have qc0 := HFq.out.c0
      have qc1 := HFq.out.c1
      have qc2 := HFq.out.c2
      have qc3 := HFq.out.c3
      clear HL
      have HL := Lib.hid (DQRight_any HQq.out HFi.out.sets HFi.out.each HFi.out.opn)
      rw [HR.out] at HL
      unfold QuV.val at HL
      go_wp2_with fail
      refine (HL.out).mono ?_
      rintro e w3 ⟨rfl, hb⟩
      clear qc0 qc1 qc2 qc3
      replace HFq := Lib.hid (HFq.out.kept hb)
      replace HQq := Lib.hid (HQq.out.next hb)
      replace HWs := Lib.hid (HWs.out.next hb)
      replace HB := Lib.hid (below_next HB.out hb)
      clear hb
      clear HL
      have qc0 := HFq.out.c0
      have qc1 := HFq.out.c1
      have qc2 := HFq.out.c2
      have qc3 := HFq.out.c3
      have HL := Lib.hid (QAdd_any HQq.out HFi.out HWs.out HO4.out HX4.out)
      rw [(qadd_yes (q := q.qu) HR.out HTM.out xs).1, (qadd_yes (q := q.qu) HR.out HTM.out xs).2] at HL
      unfold QuV.val at HL
      go_wp2_with fail
      refine HL.out.mono ?_
      rintro e wx ⟨x, hqx, rfl, hA, hb⟩
      clear qc0 qc1 qc2 qc3
      replace HFq := Lib.hid (HFq.out.kept hb)
      replace HQq := Lib.hid (HQq.out.next hb)
      replace HWs := Lib.hid (HWs.out.next hb)
      replace HB := Lib.hid (below_next HB.out hb)
      have HQx := Lib.hid hA
      have HEx := Lib.hid hqx
      clear hb hA hqx HL
      unfold QuV.val
      have qc0 := HFq.out.c0
      have qc1 := HFq.out.c1
      have qc2 := HFq.out.c2
      have qc3 := HFq.out.c3
      have qa0 := (HFq.out.kept (below_one wx (.cells #[.slice x.A x.sets.length x.c, .slice x.A2 x.opn.length x.c2, .int .i64 x.frm, .int .i64 x.to_] 25 (0, 0)))).c0
      have qa1 := (HFq.out.kept (below_one wx (.cells #[.slice x.A x.sets.length x.c, .slice x.A2 x.opn.length x.c2, .int .i64 x.frm, .int .i64 x.to_] 25 (0, 0)))).c1
      have qa2 := (HFq.out.kept (below_one wx (.cells #[.slice x.A x.sets.length x.c, .slice x.A2 x.opn.length x.c2, .int .i64 x.frm, .int .i64 x.to_] 25 (0, 0)))).c2
      have qa3 := (HFq.out.kept (below_one wx (.cells #[.slice x.A x.sets.length x.c, .slice x.A2 x.opn.length x.c2, .int .i64 x.frm, .int .i64 x.to_] 25 (0, 0)))).c3
      go_wp2_with fail
      clear qc0 qc1 qc2 qc3 qa0 qa1 qa2 qa3
      obtain ⟨w4, hw4⟩ : ∃ V, V = wx.alloc (.cells #[.slice x.A x.sets.length x.c, .slice x.A2 x.opn.length x.c2, .int .i64 x.frm, .int .i64 x.to_] 25 (0, 0)) := ⟨_, rfl⟩
      have hb : Below wx.heap.size wx w4 := by rw [hw4]; exact below_one _ _
      have HFx : Hid (Four w4 wx.heap.size (.slice x.A x.sets.length x.c) (.slice x.A2 x.opn.length x.c2) (.int .i64 x.frm) (.int .i64 x.to_) 25) := Lib.hid (by rw [hw4]; exact Four.new _ _ _ _ _ _)
      rw [← hw4]
      replace HFq := Lib.hid (HFq.out.kept hb)
      replace HQq := Lib.hid (HQq.out.next hb)
      replace HQx := Lib.hid (HQx.out.next hb)
      replace HWs := Lib.hid (HWs.out.next hb)
      replace HB := Lib.hid (below_next HB.out hb)
      clear hb hw4
      generalize wx.heap.size = Px at HFx ⊢
      have qc0 := HFq.out.c0
      have qc1 := HFq.out.c1
      have qc2 := HFq.out.c2
      have qc3 := HFq.out.c3
      have xc0 := HFx.out.c0
      have xc1 := HFx.out.c1
      have xc2 := HFx.out.c2
      have xc3 := HFx.out.c3
      have HL := Lib.hid (QCut_any HQq.out HFi.out HS5.out)
      rw [(qcut_yes (q := q.qu) HR.out HTF.out).1, (qcut_yes (q := q.qu) HR.out HTF.out).2] at HL
      unfold QuV.val at HL
      refine HL.out.mono ?_
      rintro e wy ⟨y, hqy, rfl, hA, hb⟩
      clear qc0 qc1 qc2 qc3 xc0 xc1 xc2 xc3
      replace HFq := Lib.hid (HFq.out.kept hb)
      replace HFx := Lib.hid (HFx.out.kept hb)
      replace HQq := Lib.hid (HQq.out.next hb)
      replace HQx := Lib.hid (HQx.out.next hb)
      replace HWs := Lib.hid (HWs.out.next hb)
      replace HB := Lib.hid (below_next HB.out hb)
      have HQy := Lib.hid hA
      have HEy := Lib.hid hqy
      clear hb hA hqy HL
      unfold QuV.val
      have qc0 := HFq.out.c0
      have qc1 := HFq.out.c1
      have qc2 := HFq.out.c2
      have qc3 := HFq.out.c3
      have xc0 := HFx.out.c0
      have xc1 := HFx.out.c1
      have xc2 := HFx.out.c2
      have xc3 := HFx.out.c3
      have qa0 := (HFq.out.kept (below_one wy (.cells #[.slice y.A y.sets.length y.c, .slice y.A2 y.opn.length y.c2, .int .i64 y.frm, .int .i64 y.to_] 25 (0, 0)))).c0
      have qa1 := (HFq.out.kept (below_one wy (.cells #[.slice y.A y.sets.length y.c, .slice y.A2 y.opn.length y.c2, .int .i64 y.frm, .int .i64 y.to_] 25 (0, 0)))).c1
      have qa2 := (HFq.out.kept (below_one wy (.cells #[.slice y.A y.sets.length y.c, .slice y.A2 y.opn.length y.c2, .int .i64 y.frm, .int .i64 y.to_] 25 (0, 0)))).c2
      have qa3 := (HFq.out.kept (below_one wy (.cells #[.slice y.A y.sets.length y.c, .slice y.A2 y.opn.length y.c2, .int .i64 y.frm, .int .i64 y.to_] 25 (0, 0)))).c3
      have xa0 := (HFx.out.kept (below_one wy (.cells #[.slice y.A y.sets.length y.c, .slice y.A2 y.opn.length y.c2, .int .i64 y.frm, .int .i64 y.to_] 25 (0, 0)))).c0
      have xa1 := (HFx.out.kept (below_one wy (.cells #[.slice y.A y.sets.length y.c, .slice y.A2 y.opn.length y.c2, .int .i64 y.frm, .int .i64 y.to_] 25 (0, 0)))).c1
      have xa2 := (HFx.out.kept (below_one wy (.cells #[.slice y.A y.sets.length y.c, .slice y.A2 y.opn.length y.c2, .int .i64 y.frm, .int .i64 y.to_] 25 (0, 0)))).c2
      have xa3 := (HFx.out.kept (below_one wy (.cells #[.slice y.A y.sets.length y.c, .slice y.A2 y.opn.length y.c2, .int .i64 y.frm, .int .i64 y.to_] 25 (0, 0)))).c3
      go_wp2_with fail
      clear qc0 qc1 qc2 qc3 xc0 xc1 xc2 xc3 qa0 qa1 qa2 qa3 xa0 xa1 xa2 xa3
      obtain ⟨w5, hw5⟩ : ∃ V, V = wy.alloc (.cells #[.slice y.A y.sets.length y.c, .slice y.A2 y.opn.length y.c2, .int .i64 y.frm, .int .i64 y.to_] 25 (0, 0)) := ⟨_, rfl⟩
      have hb : Below wy.heap.size wy w5 := by rw [hw5]; exact below_one _ _
      have HFy : Hid (Four w5 wy.heap.size (.slice y.A y.sets.length y.c) (.slice y.A2 y.opn.length y.c2) (.int .i64 y.frm) (.int .i64 y.to_) 25) := Lib.hid (by rw [hw5]; exact Four.new _ _ _ _ _ _)
      rw [← hw5]
      replace HFq := Lib.hid (HFq.out.kept hb)
      replace HFx := Lib.hid (HFx.out.kept hb)
      replace HQq := Lib.hid (HQq.out.next hb)
      replace HQx := Lib.hid (HQx.out.next hb)
      replace HQy := Lib.hid (HQy.out.next hb)
      replace HWs := Lib.hid (HWs.out.next hb)
      replace HB := Lib.hid (below_next HB.out hb)
      clear hb hw5
      generalize wy.heap.size = Py at HFy ⊢
      have qc0 := HFq.out.c0
      have qc1 := HFq.out.c1
      have qc2 := HFq.out.c2
      have qc3 := HFq.out.c3
      have xc0 := HFx.out.c0
      have xc1 := HFx.out.c1
      have xc2 := HFx.out.c2
      have xc3 := HFx.out.c3
      have yc0 := HFy.out.c0
      have yc1 := HFy.out.c1
      have yc2 := HFy.out.c2
      have yc3 := HFy.out.c3
      have HL := Lib.hid (QRight_any HQq.out HFi.out.sets HFi.out.each HFi.out.opn)
      rw [HR.out] at HL
      unfold QuV.val at HL
      refine (HL.out).mono ?_
      rintro e w6 ⟨rfl, hb⟩
      clear qc0 qc1 qc2 qc3 xc0 xc1 xc2 xc3 yc0 yc1 yc2 yc3
      replace HFq := Lib.hid (HFq.out.kept hb)
      replace HFx := Lib.hid (HFx.out.kept hb)
      replace HFy := Lib.hid (HFy.out.kept hb)
      replace HQq := Lib.hid (HQq.out.next hb)
      replace HQx := Lib.hid (HQx.out.next hb)
      replace HQy := Lib.hid (HQy.out.next hb)
      replace HWs := Lib.hid (HWs.out.next hb)
      replace HB := Lib.hid (below_next HB.out hb)
      clear hb
      clear HL
      have qc0 := HFq.out.c0
      have qc1 := HFq.out.c1
      have qc2 := HFq.out.c2
      have qc3 := HFq.out.c3
      have xc0 := HFx.out.c0
      have xc1 := HFx.out.c1
      have xc2 := HFx.out.c2
      have xc3 := HFx.out.c3
      have yc0 := HFy.out.c0
      have yc1 := HFy.out.c1
      have yc2 := HFy.out.c2
      have yc3 := HFy.out.c3
      have qa0 := (HFq.out.kept (below_one w6 (.cells #[.slice none 0 0, .slice none 0 0, .int .i64 0, .int .i64 0] 25 (0, 0)))).c0
      have qa1 := (HFq.out.kept (below_one w6 (.cells #[.slice none 0 0, .slice none 0 0, .int .i64 0, .int .i64 0] 25 (0, 0)))).c1
      have qa2 := (HFq.out.kept (below_one w6 (.cells #[.slice none 0 0, .slice none 0 0, .int .i64 0, .int .i64 0] 25 (0, 0)))).c2
      have qa3 := (HFq.out.kept (below_one w6 (.cells #[.slice none 0 0, .slice none 0 0, .int .i64 0, .int .i64 0] 25 (0, 0)))).c3
      have xa0 := (HFx.out.kept (below_one w6 (.cells #[.slice none 0 0, .slice none 0 0, .int .i64 0, .int .i64 0] 25 (0, 0)))).c0
      have xa1 := (HFx.out.kept (below_one w6 (.cells #[.slice none 0 0, .slice none 0 0, .int .i64 0, .int .i64 0] 25 (0, 0)))).c1
      have xa2 := (HFx.out.kept (below_one w6 (.cells #[.slice none 0 0, .slice none 0 0, .int .i64 0, .int .i64 0] 25 (0, 0)))).c2
      have xa3 := (HFx.out.kept (below_one w6 (.cells #[.slice none 0 0, .slice none 0 0, .int .i64 0, .int .i64 0] 25 (0, 0)))).c3
      have ya0 := (HFy.out.kept (below_one w6 (.cells #[.slice none 0 0, .slice none 0 0, .int .i64 0, .int .i64 0] 25 (0, 0)))).c0
      have ya1 := (HFy.out.kept (below_one w6 (.cells #[.slice none 0 0, .slice none 0 0, .int .i64 0, .int .i64 0] 25 (0, 0)))).c1
      have ya2 := (HFy.out.kept (below_one w6 (.cells #[.slice none 0 0, .slice none 0 0, .int .i64 0, .int .i64 0] 25 (0, 0)))).c2
      have ya3 := (HFy.out.kept (below_one w6 (.cells #[.slice none 0 0, .slice none 0 0, .int .i64 0, .int .i64 0] 25 (0, 0)))).c3
      go_wp2_with fail
      clear qc0 qc1 qc2 qc3 xc0 xc1 xc2 xc3 yc0 yc1 yc2 yc3 qa0 qa1 qa2 qa3 xa0 xa1 xa2 xa3 ya0 ya1 ya2 ya3
      obtain ⟨w7, hw7⟩ : ∃ V, V = w6.alloc (.cells #[.slice none 0 0, .slice none 0 0, .int .i64 0, .int .i64 0] 25 (0, 0)) := ⟨_, rfl⟩
      have hb : Below w6.heap.size w6 w7 := by rw [hw7]; exact below_one _ _
      have HFn : Hid (Four w7 w6.heap.size (.slice none 0 0) (.slice none 0 0) (.int .i64 0) (.int .i64 0) 25) := Lib.hid (by rw [hw7]; exact Four.new _ _ _ _ _ _)
      rw [← hw7]
      replace HFq := Lib.hid (HFq.out.kept hb)
      replace HFx := Lib.hid (HFx.out.kept hb)
      replace HFy := Lib.hid (HFy.out.kept hb)
      replace HQq := Lib.hid (HQq.out.next hb)
      replace HQx := Lib.hid (HQx.out.next hb)
      replace HQy := Lib.hid (HQy.out.next hb)
      replace HWs := Lib.hid (HWs.out.next hb)
      replace HB := Lib.hid (below_next HB.out hb)
      clear hb hw7
      generalize w6.heap.size = Pn at HFn ⊢
      have qc0 := HFq.out.c0
      have qc1 := HFq.out.c1
      have qc2 := HFq.out.c2
      have qc3 := HFq.out.c3
      have xc0 := HFx.out.c0
      have xc1 := HFx.out.c1
      have xc2 := HFx.out.c2
      have xc3 := HFx.out.c3
      have yc0 := HFy.out.c0
      have yc1 := HFy.out.c1
      have yc2 := HFy.out.c2
      have yc3 := HFy.out.c3
      have nc0 := HFn.out.c0
      have nc1 := HFn.out.c1
      have nc2 := HFn.out.c2
      have nc3 := HFn.out.c3
      go_wp2_with fail
      have Hx := fun z : LatW w7 => (HFx.out.lat z)
      have Hq := fun z : LatW w7 => (HFq.out.lat z)
      have x0 := fun z : LatW w7 => (Hx z).c0
      have x1 := fun z : LatW w7 => (Hx z).c1
      have x2 := fun z : LatW w7 => (Hx z).c2
      have x3 := fun z : LatW w7 => (Hx z).c3
      have q0 := fun z : LatW w7 => (Hq z).c0
      have q1 := fun z : LatW w7 => (Hq z).c1
      have q2 := fun z : LatW w7 => (Hq z).c2
      have q3 := fun z : LatW w7 => (Hq z).c3
      clear Hx Hq
      have HDd : Hid (∀ z : LatW w7, Calls Try.prog 15 #[q.val, .slice A3 xs.length c3] z.wd (QuEnd (quAdd q.qu xs) z.wd)) := Lib.hid (fun z => DQAdd_any (HQq.out.next z.bel) (HWs.out.next z.bel) ⟨HO4.out, (HQq.out).nil2⟩ HX4.out HNum.out)
      unfold QuEnd QuV.val at HDd
      have HEqd : Hid (∀ (z : LatW w7) (d : QuV), d.qu = quAdd q.qu xs → QuAt z.wd z.wd.heap.size d → Calls Try.prog 14 #[x.val, d.val] z.wd fun e w' => e = .returned (.bool true) ∧ Below z.wd.heap.size z.wd w') := Lib.hid (fun z d hd hA => QEq_same (HQx.out.next z.bel) hA (HEx.out.trans hd.symm) (Nat.le_trans (HSa.out.sets HEx.out) (by omega)) (fun x hx => Nat.le_trans (HSa.out.each HEx.out x hx) (by omega)) (Nat.le_trans (HSa.out.opn HEx.out) (by omega)))
      unfold QuV.val at HEqd
      clear qc0 qc1 qc2 qc3 xc0 xc1 xc2 xc3 yc0 yc1 yc2 yc3 nc0 nc1 nc2 nc3
      go_region_held3 (fun w' => w'.cell? ⟨Px, 0, none⟩ = some (.slice x.A x.sets.length x.c) ∧ w'.cell? ⟨Px, 1, none⟩ = some (.slice x.A2 x.opn.length x.c2) ∧ w'.cell? ⟨Px, 2, none⟩ = some (.int .i64 x.frm) ∧ w'.cell? ⟨Px, 3, none⟩ = some (.int .i64 x.to_) ∧ w'.cell? ⟨Pq, 0, none⟩ = some (.slice q.A q.sets.length q.c) ∧ w'.cell? ⟨Pq, 1, none⟩ = some (.slice q.A2 q.opn.length q.c2) ∧ w'.cell? ⟨Pq, 2, none⟩ = some (.int .i64 q.frm) ∧ w'.cell? ⟨Pq, 3, none⟩ = some (.int .i64 q.to_)) (first | with_reducible exact ⟨x0 z2, x1 z2, x2 z2, x3 z2, q0 z2, q1 z2, q2 z2, q3 z2⟩ | with_reducible exact ⟨x0 z1, x1 z1, x2 z1, x3 z1, q0 z1, q1 z1, q2 z1, q3 z1⟩ | exact ⟨x0 (LatW.mkd (⟨w7, Below.refl _ _⟩ : LatW w7)), x1 (LatW.mkd (⟨w7, Below.refl _ _⟩ : LatW w7)), x2 (LatW.mkd (⟨w7, Below.refl _ _⟩ : LatW w7)), x3 (LatW.mkd (⟨w7, Below.refl _ _⟩ : LatW w7)), q0 (LatW.mkd (⟨w7, Below.refl _ _⟩ : LatW w7)), q1 (LatW.mkd (⟨w7, Below.refl _ _⟩ : LatW w7)), q2 (LatW.mkd (⟨w7, Below.refl _ _⟩ : LatW w7)), q3 (LatW.mkd (⟨w7, Below.refl _ _⟩ : LatW w7))⟩) (first | (go_at_call 15; refine (HDd.out (LatW.mkd (⟨w7, Below.refl _ _⟩ : LatW w7))).mono ?_; rintro e wz ⟨d, hd, rfl, hA, hb⟩; replace hd := Lib.hid hd; replace hA := Lib.hid hA; obtain ⟨z1, hz⟩ := LatW.later (LatW.mkd (⟨w7, Below.refl _ _⟩ : LatW w7)) hb; subst hz; clear hb) | (go_at_call 14; refine (HEqd.out z1 d hd.out hA.out).mono ?_; rintro e wz ⟨rfl, hb⟩;  obtain ⟨z2, hz⟩ := LatW.later z1 hb; subst hz; clear hb))
      clear HDd HEqd x0 x1 x2 x3 q0 q1 q2 q3
      have hb := z2.bel
      generalize z2.wd = w8 at hb ⊢
      replace HFq := Lib.hid (HFq.out.kept hb)
      replace HFx := Lib.hid (HFx.out.kept hb)
      replace HFy := Lib.hid (HFy.out.kept hb)
      replace HFn := Lib.hid (HFn.out.kept hb)
      replace HQq := Lib.hid (HQq.out.next hb)
      replace HQx := Lib.hid (HQx.out.next hb)
      replace HQy := Lib.hid (HQy.out.next hb)
      replace HWs := Lib.hid (HWs.out.next hb)
      replace HB := Lib.hid (below_next HB.out hb)
      clear hb
      have qc0 := HFq.out.c0
      have qc1 := HFq.out.c1
      have qc2 := HFq.out.c2
      have qc3 := HFq.out.c3
      have xc0 := HFx.out.c0
      have xc1 := HFx.out.c1
      have xc2 := HFx.out.c2
      have xc3 := HFx.out.c3
      have yc0 := HFy.out.c0
      have yc1 := HFy.out.c1
      have yc2 := HFy.out.c2
      have yc3 := HFy.out.c3
      have nc0 := HFn.out.c0
      have nc1 := HFn.out.c1
      have nc2 := HFn.out.c2
      have nc3 := HFn.out.c3
      have HSc := Lib.hid (smU_cut HU.out)
      go_wp2_with fail
      have Hy := fun z : LatW w8 => (HFy.out.lat z)
      have Hq := fun z : LatW w8 => (HFq.out.lat z)
      have y0 := fun z : LatW w8 => (Hy z).c0
      have y1 := fun z : LatW w8 => (Hy z).c1
      have y2 := fun z : LatW w8 => (Hy z).c2
      have y3 := fun z : LatW w8 => (Hy z).c3
      have q0 := fun z : LatW w8 => (Hq z).c0
      have q1 := fun z : LatW w8 => (Hq z).c1
      have q2 := fun z : LatW w8 => (Hq z).c2
      have q3 := fun z : LatW w8 => (Hq z).c3
      clear Hy Hq
      have HDd : Hid (∀ z : LatW w8, Calls Try.prog 16 #[q.val] z.wd (QuEnd (quCut q.qu) z.wd)) := Lib.hid (fun z => DQCut_any (HQq.out.next z.bel) HS5.out)
      unfold QuEnd QuV.val at HDd
      have HEqd : Hid (∀ (z : LatW w8) (d : QuV), d.qu = quCut q.qu → QuAt z.wd z.wd.heap.size d → Calls Try.prog 14 #[y.val, d.val] z.wd fun e w' => e = .returned (.bool true) ∧ Below z.wd.heap.size z.wd w') := Lib.hid (fun z d hd hA => QEq_same (HQy.out.next z.bel) hA (HEy.out.trans hd.symm) (Nat.le_trans (HSc.out.sets HEy.out) (by omega)) (fun x hx => Nat.le_trans (HSc.out.each HEy.out x hx) (by omega)) (Nat.le_trans (HSc.out.opn HEy.out) (by omega)))
      unfold QuV.val at HEqd
      have HAw := Lib.hid (fun z : LatW w8 => awake12_any z.wd)
      have HEnd : Hid (∀ z : LatW w8, Below w.heap.size w z.wd) := Lib.hid (fun z => below_next HB.out z.bel)
      clear qc0 qc1 qc2 qc3 xc0 xc1 xc2 xc3 yc0 yc1 yc2 yc3 nc0 nc1 nc2 nc3
      go_region_held3 (fun w' => w'.cell? ⟨Py, 0, none⟩ = some (.slice y.A y.sets.length y.c) ∧ w'.cell? ⟨Py, 1, none⟩ = some (.slice y.A2 y.opn.length y.c2) ∧ w'.cell? ⟨Py, 2, none⟩ = some (.int .i64 y.frm) ∧ w'.cell? ⟨Py, 3, none⟩ = some (.int .i64 y.to_) ∧ w'.cell? ⟨Pq, 0, none⟩ = some (.slice q.A q.sets.length q.c) ∧ w'.cell? ⟨Pq, 1, none⟩ = some (.slice q.A2 q.opn.length q.c2) ∧ w'.cell? ⟨Pq, 2, none⟩ = some (.int .i64 q.frm) ∧ w'.cell? ⟨Pq, 3, none⟩ = some (.int .i64 q.to_)) (first | with_reducible exact ⟨y0 z3, y1 z3, y2 z3, y3 z3, q0 z3, q1 z3, q2 z3, q3 z3⟩ | with_reducible exact ⟨y0 z2, y1 z2, y2 z2, y3 z2, q0 z2, q1 z2, q2 z2, q3 z2⟩ | with_reducible exact ⟨y0 z1, y1 z1, y2 z1, y3 z1, q0 z1, q1 z1, q2 z1, q3 z1⟩ | exact ⟨y0 (LatW.mkd (⟨w8, Below.refl _ _⟩ : LatW w8)), y1 (LatW.mkd (⟨w8, Below.refl _ _⟩ : LatW w8)), y2 (LatW.mkd (⟨w8, Below.refl _ _⟩ : LatW w8)), y3 (LatW.mkd (⟨w8, Below.refl _ _⟩ : LatW w8)), q0 (LatW.mkd (⟨w8, Below.refl _ _⟩ : LatW w8)), q1 (LatW.mkd (⟨w8, Below.refl _ _⟩ : LatW w8)), q2 (LatW.mkd (⟨w8, Below.refl _ _⟩ : LatW w8)), q3 (LatW.mkd (⟨w8, Below.refl _ _⟩ : LatW w8))⟩) (first | (go_at_call 16; refine (HDd.out (LatW.mkd (⟨w8, Below.refl _ _⟩ : LatW w8))).mono ?_; rintro e wz ⟨d, hd, rfl, hA, hb⟩; replace hd := Lib.hid hd; replace hA := Lib.hid hA; obtain ⟨z1, hz⟩ := LatW.later (LatW.mkd (⟨w8, Below.refl _ _⟩ : LatW w8)) hb; subst hz; clear hb) | (go_at_call 14; refine (HEqd.out z1 d hd.out hA.out).mono ?_; rintro e wz ⟨rfl, hb⟩;  obtain ⟨z2, hz⟩ := LatW.later z1 hb; subst hz; clear hb) | (go_at_call 9; refine (HAw.out z2).mono ?_; rintro e wz ⟨rfl, hb⟩;  obtain ⟨z3, hz⟩ := LatW.later z2 hb; subst hz; clear hb))
      all_goals (go_wp2_with fail; go_ret; exact ⟨rfl, HEnd.out _⟩)
end Go.Proofs.Ytpmllckfijfehaa
