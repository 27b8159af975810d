/- The walk of QueueTwice. -/
import Derived.Test.YtpmllckfijfehaaQueMb
namespace Go.Proofs.Ytpmllckfijfehaa
open Go.Shelf Go.RowKit Go.Lib Go.Sort

set_option maxHeartbeats 8000000 in
set_option maxRecDepth 100000 in
theorem QueueTwice_walk {w : World} {q : QuV} (a b : Int) (h : QuAt w w.heap.size q) (hs : q.sets.length ≤ 9223372036854775807) (hx : ∀ x ∈ q.sets, x.ws.length ≤ 9223372036854775807) (ho : q.opn.length ≤ 9223372036854775807) :
    Calls Try.prog 7 #[q.val, .int .i64 a, .int .i64 b] w fun e w' => e = .returned (.bool true) ∧ Below w.heap.size w w' := by
  have HB := Lib.hid (Below.refl w.heap.size w)
  have HQq := Lib.hid h
  clear h
  cases hsm : smallQ q with
  | false =>
    have HSm := Lib.hid hsm
    clear hsm
    unfold QuV.val
    go_enter Try.func7, Try.ntmps7
    go_wp2_with fail
    obtain ⟨w1, hw1⟩ : ∃ V, V = w.alloc (.cells #[.slice q.A q.sets.length q.c, .slice q.A2 q.opn.length q.c2, .int .i64 q.frm, .int .i64 q.to_] 25 (0, 0)) := ⟨_, rfl⟩
    have hb : Below w.heap.size w w1 := by rw [hw1]; exact below_one _ _
    have HFq : Hid (Four w1 w.heap.size (.slice q.A q.sets.length q.c) (.slice q.A2 q.opn.length q.c2) (.int .i64 q.frm) (.int .i64 q.to_) 25) := Lib.hid (by rw [hw1]; exact Four.new _ _ _ _ _ _)
    rw [← hw1]
    replace HQq := Lib.hid (HQq.out.next hb)
    replace HB := Lib.hid (below_next HB.out hb)
    clear hb hw1
    generalize w.heap.size = Pq at HFq ⊢
    have qc0 := HFq.out.c0
    have qc1 := HFq.out.c1
    have qc2 := HFq.out.c2
    have qc3 := HFq.out.c3
    have HL := Lib.hid (SmallQ_any HQq.out hs hx ho)
    rw [HSm.out] at HL
    refine (HL.out).mono ?_
    rintro e w2 ⟨rfl, hb⟩
    clear qc0 qc1 qc2 qc3
    replace HFq := Lib.hid (HFq.out.kept hb)
    replace HQq := Lib.hid (HQq.out.next hb)
    replace HB := Lib.hid (below_next HB.out hb)
    clear hb
    have qc0 := HFq.out.c0
    have qc1 := HFq.out.c1
    have qc2 := HFq.out.c2
    have qc3 := HFq.out.c3
    go_wp2_with fail
    refine (awake12_any _).mono ?_
    rintro e w3 ⟨rfl, hb⟩
    clear qc0 qc1 qc2 qc3
    replace HFq := Lib.hid (HFq.out.kept hb)
    replace HQq := Lib.hid (HQq.out.next hb)
    replace HB := Lib.hid (below_next HB.out hb)
    clear hb
    go_wp2_with fail
    go_ret
    exact ⟨rfl, HB.out⟩
  | true =>
  have HSm := Lib.hid hsm
  have HU := Lib.hid (smU_small hsm)
  have HFi := Lib.hid (HU.out.fine rfl (by omega) (by omega))
  clear hsm
  cases hr : quRight q.qu with
  | false =>
    have HR := Lib.hid hr
    clear hr
    unfold QuV.val
    go_enter Try.func7, Try.ntmps7
    go_wp2_with fail
    obtain ⟨w1, hw1⟩ : ∃ V, V = w.alloc (.cells #[.slice q.A q.sets.length q.c, .slice q.A2 q.opn.length q.c2, .int .i64 q.frm, .int .i64 q.to_] 25 (0, 0)) := ⟨_, rfl⟩
    have hb : Below w.heap.size w w1 := by rw [hw1]; exact below_one _ _
    have HFq : Hid (Four w1 w.heap.size (.slice q.A q.sets.length q.c) (.slice q.A2 q.opn.length q.c2) (.int .i64 q.frm) (.int .i64 q.to_) 25) := Lib.hid (by rw [hw1]; exact Four.new _ _ _ _ _ _)
    rw [← hw1]
    replace HQq := Lib.hid (HQq.out.next hb)
    replace HB := Lib.hid (below_next HB.out hb)
    clear hb hw1
    generalize w.heap.size = Pq at HFq ⊢
    have qc0 := HFq.out.c0
    have qc1 := HFq.out.c1
    have qc2 := HFq.out.c2
    have qc3 := HFq.out.c3
    have HL := Lib.hid (SmallQ_any HQq.out hs hx ho)
    rw [HSm.out] at HL
    refine (HL.out).mono ?_
    rintro e w2 ⟨rfl, hb⟩
    clear qc0 qc1 qc2 qc3
    replace HFq := Lib.hid (HFq.out.kept hb)
    replace HQq := Lib.hid (HQq.out.next hb)
    replace HB := Lib.hid (below_next HB.out hb)
    clear hb
    have qc0 := HFq.out.c0
    have qc1 := HFq.out.c1
    have qc2 := HFq.out.c2
    have qc3 := HFq.out.c3
    have HL := Lib.hid (QRight_any HQq.out HFi.out.sets HFi.out.each HFi.out.opn)
    rw [HR.out] at HL
    go_wp2_with fail
    refine (HL.out).mono ?_
    rintro e w3 ⟨rfl, hb⟩
    clear qc0 qc1 qc2 qc3
    replace HFq := Lib.hid (HFq.out.kept hb)
    replace HQq := Lib.hid (HQq.out.next hb)
    replace HB := Lib.hid (below_next HB.out hb)
    clear hb
    have qc0 := HFq.out.c0
    have qc1 := HFq.out.c1
    have qc2 := HFq.out.c2
    have qc3 := HFq.out.c3
    go_wp2_with fail
    refine (awake12_any _).mono ?_
    rintro e w4 ⟨rfl, hb⟩
    clear qc0 qc1 qc2 qc3
    replace HFq := Lib.hid (HFq.out.kept hb)
    replace HQq := Lib.hid (HQq.out.next hb)
    replace HB := Lib.hid (below_next HB.out hb)
    clear hb
    go_wp2_with fail
    go_ret
    exact ⟨rfl, HB.out⟩
  | true =>
  have HR := Lib.hid hr
  have HOk := Lib.hid ((quRight_iff _).1 hr)
  clear hr
  unfold QuV.val
  go_enter Try.func7, Try.ntmps7
  go_wp2_with fail
  obtain ⟨w1, hw1⟩ : ∃ V, V = w.alloc (.cells #[.slice q.A q.sets.length q.c, .slice q.A2 q.opn.length q.c2, .int .i64 q.frm, .int .i64 q.to_] 25 (0, 0)) := ⟨_, rfl⟩
  have hb : Below w.heap.size w w1 := by rw [hw1]; exact below_one _ _
  have HFq : Hid (Four w1 w.heap.size (.slice q.A q.sets.length q.c) (.slice q.A2 q.opn.length q.c2) (.int .i64 q.frm) (.int .i64 q.to_) 25) := Lib.hid (by rw [hw1]; exact Four.new _ _ _ _ _ _)
  rw [← hw1]
  replace HQq := Lib.hid (HQq.out.next hb)
  replace HB := Lib.hid (below_next HB.out hb)
  clear hb hw1
  generalize w.heap.size = Pq at HFq ⊢
  have qc0 := HFq.out.c0
  have qc1 := HFq.out.c1
  have qc2 := HFq.out.c2
  have qc3 := HFq.out.c3
  have HL := Lib.hid (SmallQ_any HQq.out hs hx ho)
  rw [HSm.out] at HL
  refine (HL.out).mono ?_
  rintro e w2 ⟨rfl, hb⟩
  clear qc0 qc1 qc2 qc3
  replace HFq := Lib.hid (HFq.out.kept hb)
  replace HQq := Lib.hid (HQq.out.next hb)
  replace HB := Lib.hid (below_next HB.out hb)
  clear hb
  have qc0 := HFq.out.c0
  have qc1 := HFq.out.c1
  have qc2 := HFq.out.c2
  have qc3 := HFq.out.c3
  have HL := Lib.hid (QRight_any HQq.out HFi.out.sets HFi.out.each HFi.out.opn)
  rw [HR.out] at HL
  go_wp2_with fail
  refine (HL.out).mono ?_
  rintro e w3 ⟨rfl, hb⟩
  clear qc0 qc1 qc2 qc3
  replace HFq := Lib.hid (HFq.out.kept hb)
  replace HQq := Lib.hid (HQq.out.next hb)
  replace HB := Lib.hid (below_next HB.out hb)
  clear hb
  have qc0 := HFq.out.c0
  have qc1 := HFq.out.c1
  have qc2 := HFq.out.c2
  have qc3 := HFq.out.c3
  have HRx : Hid (quRight (quDone q.qu a) = true) := Lib.hid ((quRight_iff _).2 (done_ok HOk.out a))
  have HL := Lib.hid (QDone_any a HQq.out (HFi.out) (Nat.le_trans (HU.out.sets rfl) (by omega)))
  rw [(qdone_yes HR.out a).1, (qdone_yes HR.out a).2] at HL
  unfold QuV.val at HL
  go_wp2_with fail
  refine HL.out.mono ?_
  rintro e wx ⟨x, hqx, rfl, hA, hb⟩
  clear qc0 qc1 qc2 qc3
  replace HFq := Lib.hid (HFq.out.kept hb)
  replace HQq := Lib.hid (HQq.out.next hb)
  replace HB := Lib.hid (below_next HB.out hb)
  have HQx := Lib.hid hA
  have HEx := Lib.hid hqx
  clear hb hA hqx HL
  have HFNx := Lib.hid ((smU_done HU.out a).fine HEx.out (by omega) (by omega))
  unfold QuV.val
  have qc0 := HFq.out.c0
  have qc1 := HFq.out.c1
  have qc2 := HFq.out.c2
  have qc3 := HFq.out.c3
  have qa0 := (HFq.out.kept (below_one wx (.cells #[.slice x.A x.sets.length x.c, .slice x.A2 x.opn.length x.c2, .int .i64 x.frm, .int .i64 x.to_] 25 (0, 0)))).c0
  have qa1 := (HFq.out.kept (below_one wx (.cells #[.slice x.A x.sets.length x.c, .slice x.A2 x.opn.length x.c2, .int .i64 x.frm, .int .i64 x.to_] 25 (0, 0)))).c1
  have qa2 := (HFq.out.kept (below_one wx (.cells #[.slice x.A x.sets.length x.c, .slice x.A2 x.opn.length x.c2, .int .i64 x.frm, .int .i64 x.to_] 25 (0, 0)))).c2
  have qa3 := (HFq.out.kept (below_one wx (.cells #[.slice x.A x.sets.length x.c, .slice x.A2 x.opn.length x.c2, .int .i64 x.frm, .int .i64 x.to_] 25 (0, 0)))).c3
  go_wp2_with fail
  clear qc0 qc1 qc2 qc3 qa0 qa1 qa2 qa3
  obtain ⟨w4, hw4⟩ : ∃ V, V = wx.alloc (.cells #[.slice x.A x.sets.length x.c, .slice x.A2 x.opn.length x.c2, .int .i64 x.frm, .int .i64 x.to_] 25 (0, 0)) := ⟨_, rfl⟩
  have hb : Below wx.heap.size wx w4 := by rw [hw4]; exact below_one _ _
  have HFx : Hid (Four w4 wx.heap.size (.slice x.A x.sets.length x.c) (.slice x.A2 x.opn.length x.c2) (.int .i64 x.frm) (.int .i64 x.to_) 25) := Lib.hid (by rw [hw4]; exact Four.new _ _ _ _ _ _)
  rw [← hw4]
  replace HFq := Lib.hid (HFq.out.kept hb)
  replace HQq := Lib.hid (HQq.out.next hb)
  replace HQx := Lib.hid (HQx.out.next hb)
  replace HB := Lib.hid (below_next HB.out hb)
  clear hb hw4
  generalize wx.heap.size = Px at HFx ⊢
  have qc0 := HFq.out.c0
  have qc1 := HFq.out.c1
  have qc2 := HFq.out.c2
  have qc3 := HFq.out.c3
  have xc0 := HFx.out.c0
  have xc1 := HFx.out.c1
  have xc2 := HFx.out.c2
  have xc3 := HFx.out.c3
  have HL := Lib.hid (QDone_any b HQx.out (HFNx.out) (Nat.le_trans ((smU_done HU.out a).sets HEx.out) (by omega)))
  rw [HEx.out, (qdone_yes HRx.out b).1, (qdone_yes HRx.out b).2] at HL
  unfold QuV.val at HL
  refine HL.out.mono ?_
  rintro e wy ⟨y, hqy, rfl, hA, hb⟩
  clear qc0 qc1 qc2 qc3 xc0 xc1 xc2 xc3
  replace HFq := Lib.hid (HFq.out.kept hb)
  replace HFx := Lib.hid (HFx.out.kept hb)
  replace HQq := Lib.hid (HQq.out.next hb)
  replace HQx := Lib.hid (HQx.out.next hb)
  replace HB := Lib.hid (below_next HB.out hb)
  have HQy := Lib.hid hA
  have HEy := Lib.hid hqy
  clear hb hA hqy HL
  unfold QuV.val
  have qc0 := HFq.out.c0
  have qc1 := HFq.out.c1
  have qc2 := HFq.out.c2
  have qc3 := HFq.out.c3
  have xc0 := HFx.out.c0
  have xc1 := HFx.out.c1
  have xc2 := HFx.out.c2
  have xc3 := HFx.out.c3
  have qa0 := (HFq.out.kept (below_one wy (.cells #[.slice y.A y.sets.length y.c, .slice y.A2 y.opn.length y.c2, .int .i64 y.frm, .int .i64 y.to_] 25 (0, 0)))).c0
  have qa1 := (HFq.out.kept (below_one wy (.cells #[.slice y.A y.sets.length y.c, .slice y.A2 y.opn.length y.c2, .int .i64 y.frm, .int .i64 y.to_] 25 (0, 0)))).c1
  have qa2 := (HFq.out.kept (below_one wy (.cells #[.slice y.A y.sets.length y.c, .slice y.A2 y.opn.length y.c2, .int .i64 y.frm, .int .i64 y.to_] 25 (0, 0)))).c2
  have qa3 := (HFq.out.kept (below_one wy (.cells #[.slice y.A y.sets.length y.c, .slice y.A2 y.opn.length y.c2, .int .i64 y.frm, .int .i64 y.to_] 25 (0, 0)))).c3
  have xa0 := (HFx.out.kept (below_one wy (.cells #[.slice y.A y.sets.length y.c, .slice y.A2 y.opn.length y.c2, .int .i64 y.frm, .int .i64 y.to_] 25 (0, 0)))).c0
  have xa1 := (HFx.out.kept (below_one wy (.cells #[.slice y.A y.sets.length y.c, .slice y.A2 y.opn.length y.c2, .int .i64 y.frm, .int .i64 y.to_] 25 (0, 0)))).c1
  have xa2 := (HFx.out.kept (below_one wy (.cells #[.slice y.A y.sets.length y.c, .slice y.A2 y.opn.length y.c2, .int .i64 y.frm, .int .i64 y.to_] 25 (0, 0)))).c2
  have xa3 := (HFx.out.kept (below_one wy (.cells #[.slice y.A y.sets.length y.c, .slice y.A2 y.opn.length y.c2, .int .i64 y.frm, .int .i64 y.to_] 25 (0, 0)))).c3
  go_wp2_with fail
  clear qc0 qc1 qc2 qc3 xc0 xc1 xc2 xc3 qa0 qa1 qa2 qa3 xa0 xa1 xa2 xa3
  obtain ⟨w5, hw5⟩ : ∃ V, V = wy.alloc (.cells #[.slice y.A y.sets.length y.c, .slice y.A2 y.opn.length y.c2, .int .i64 y.frm, .int .i64 y.to_] 25 (0, 0)) := ⟨_, rfl⟩
  have hb : Below wy.heap.size wy w5 := by rw [hw5]; exact below_one _ _
  have HFy : Hid (Four w5 wy.heap.size (.slice y.A y.sets.length y.c) (.slice y.A2 y.opn.length y.c2) (.int .i64 y.frm) (.int .i64 y.to_) 25) := Lib.hid (by rw [hw5]; exact Four.new _ _ _ _ _ _)
  rw [← hw5]
  replace HFq := Lib.hid (HFq.out.kept hb)
  replace HFx := Lib.hid (HFx.out.kept hb)
  replace HQq := Lib.hid (HQq.out.next hb)
  replace HQx := Lib.hid (HQx.out.next hb)
  replace HQy := Lib.hid (HQy.out.next hb)
  replace HB := Lib.hid (below_next HB.out hb)
  clear hb hw5
  generalize wy.heap.size = Py at HFy ⊢
  have qc0 := HFq.out.c0
  have qc1 := HFq.out.c1
  have qc2 := HFq.out.c2
  have qc3 := HFq.out.c3
  have xc0 := HFx.out.c0
  have xc1 := HFx.out.c1
  have xc2 := HFx.out.c2
  have xc3 := HFx.out.c3
  have yc0 := HFy.out.c0
  have yc1 := HFy.out.c1
  have yc2 := HFy.out.c2
  have yc3 := HFy.out.c3
  have HL := Lib.hid (QDone_any (max a b) HQq.out (HFi.out) (Nat.le_trans (HU.out.sets rfl) (by omega)))
  rw [(qdone_yes HR.out (max a b)).1, (qdone_yes HR.out (max a b)).2] at HL
  unfold QuV.val at HL
  (try simp only [max_is])
  refine HL.out.mono ?_
  rintro e wz ⟨z, hqz, rfl, hA, hb⟩
  clear qc0 qc1 qc2 qc3 xc0 xc1 xc2 xc3 yc0 yc1 yc2 yc3
  replace HFq := Lib.hid (HFq.out.kept hb)
  replace HFx := Lib.hid (HFx.out.kept hb)
  replace HFy := Lib.hid (HFy.out.kept hb)
  replace HQq := Lib.hid (HQq.out.next hb)
  replace HQx := Lib.hid (HQx.out.next hb)
  replace HQy := Lib.hid (HQy.out.next hb)
  replace HB := Lib.hid (below_next HB.out hb)
  have HQz := Lib.hid hA
  have HEz := Lib.hid hqz
  clear hb hA hqz HL
  unfold QuV.val
  have qc0 := HFq.out.c0
  have qc1 := HFq.out.c1
  have qc2 := HFq.out.c2
  have qc3 := HFq.out.c3
  have xc0 := HFx.out.c0
  have xc1 := HFx.out.c1
  have xc2 := HFx.out.c2
  have xc3 := HFx.out.c3
  have yc0 := HFy.out.c0
  have yc1 := HFy.out.c1
  have yc2 := HFy.out.c2
  have yc3 := HFy.out.c3
  have qa0 := (HFq.out.kept (below_one wz (.cells #[.slice z.A z.sets.length z.c, .slice z.A2 z.opn.length z.c2, .int .i64 z.frm, .int .i64 z.to_] 25 (0, 0)))).c0
  have qa1 := (HFq.out.kept (below_one wz (.cells #[.slice z.A z.sets.length z.c, .slice z.A2 z.opn.length z.c2, .int .i64 z.frm, .int .i64 z.to_] 25 (0, 0)))).c1
  have qa2 := (HFq.out.kept (below_one wz (.cells #[.slice z.A z.sets.length z.c, .slice z.A2 z.opn.length z.c2, .int .i64 z.frm, .int .i64 z.to_] 25 (0, 0)))).c2
  have qa3 := (HFq.out.kept (below_one wz (.cells #[.slice z.A z.sets.length z.c, .slice z.A2 z.opn.length z.c2, .int .i64 z.frm, .int .i64 z.to_] 25 (0, 0)))).c3
  have xa0 := (HFx.out.kept (below_one wz (.cells #[.slice z.A z.sets.length z.c, .slice z.A2 z.opn.length z.c2, .int .i64 z.frm, .int .i64 z.to_] 25 (0, 0)))).c0
  have xa1 := (HFx.out.kept (below_one wz (.cells #[.slice z.A z.sets.length z.c, .slice z.A2 z.opn.length z.c2, .int .i64 z.frm, .int .i64 z.to_] 25 (0, 0)))).c1
  have xa2 := (HFx.out.kept (below_one wz (.cells #[.slice z.A z.sets.length z.c, .slice z.A2 z.opn.length z.c2, .int .i64 z.frm, .int .i64 z.to_] 25 (0, 0)))).c2
  have xa3 := (HFx.out.kept (below_one wz (.cells #[.slice z.A z.sets.length z.c, .slice z.A2 z.opn.length z.c2, .int .i64 z.frm, .int .i64 z.to_] 25 (0, 0)))).c3
  have ya0 := (HFy.out.kept (below_one wz (.cells #[.slice z.A z.sets.length z.c, .slice z.A2 z.opn.length z.c2, .int .i64 z.frm, .int .i64 z.to_] 25 (0, 0)))).c0
  have ya1 := (HFy.out.kept (below_one wz (.cells #[.slice z.A z.sets.length z.c, .slice z.A2 z.opn.length z.c2, .int .i64 z.frm, .int .i64 z.to_] 25 (0, 0)))).c1
  have ya2 := (HFy.out.kept (below_one wz (.cells #[.slice z.A z.sets.length z.c, .slice z.A2 z.opn.length z.c2, .int .i64 z.frm, .int .i64 z.to_] 25 (0, 0)))).c2
  have ya3 := (HFy.out.kept (below_one wz (.cells #[.slice z.A z.sets.length z.c, .slice z.A2 z.opn.length z.c2, .int .i64 z.frm, .int .i64 z.to_] 25 (0, 0)))).c3
  go_wp2_with fail
  clear qc0 qc1 qc2 qc3 xc0 xc1 xc2 xc3 yc0 yc1 yc2 yc3 qa0 qa1 qa2 qa3 xa0 xa1 xa2 xa3 ya0 ya1 ya2 ya3
  obtain ⟨w6, hw6⟩ : ∃ V, V = wz.alloc (.cells #[.slice z.A z.sets.length z.c, .slice z.A2 z.opn.length z.c2, .int .i64 z.frm, .int .i64 z.to_] 25 (0, 0)) := ⟨_, rfl⟩
  have hb : Below wz.heap.size wz w6 := by rw [hw6]; exact below_one _ _
  have HFz : Hid (Four w6 wz.heap.size (.slice z.A z.sets.length z.c) (.slice z.A2 z.opn.length z.c2) (.int .i64 z.frm) (.int .i64 z.to_) 25) := Lib.hid (by rw [hw6]; exact Four.new _ _ _ _ _ _)
  rw [← hw6]
  replace HFq := Lib.hid (HFq.out.kept hb)
  replace HFx := Lib.hid (HFx.out.kept hb)
  replace HFy := Lib.hid (HFy.out.kept hb)
  replace HQq := Lib.hid (HQq.out.next hb)
  replace HQx := Lib.hid (HQx.out.next hb)
  replace HQy := Lib.hid (HQy.out.next hb)
  replace HQz := Lib.hid (HQz.out.next hb)
  replace HB := Lib.hid (below_next HB.out hb)
  clear hb hw6
  generalize wz.heap.size = Pz at HFz ⊢
  have qc0 := HFq.out.c0
  have qc1 := HFq.out.c1
  have qc2 := HFq.out.c2
  have qc3 := HFq.out.c3
  have xc0 := HFx.out.c0
  have xc1 := HFx.out.c1
  have xc2 := HFx.out.c2
  have xc3 := HFx.out.c3
  have yc0 := HFy.out.c0
  have yc1 := HFy.out.c1
  have yc2 := HFy.out.c2
  have yc3 := HFy.out.c3
  have zc0 := HFz.out.c0
  have zc1 := HFz.out.c1
  have zc2 := HFz.out.c2
  have zc3 := HFz.out.c3
  have HSy := Lib.hid (smU_done (smU_done HU.out a) b)
  have HL := Lib.hid (QEq_same HQy.out HQz.out (by rw [HEy.out, HEz.out, done_done]) (Nat.le_trans (HSy.out.sets HEy.out) (by omega)) (fun x hx => Nat.le_trans (HSy.out.each HEy.out x hx) (by omega)) (Nat.le_trans (HSy.out.opn HEy.out) (by omega)))
  unfold QuV.val at HL
  refine (HL.out).mono ?_
  rintro e w7 ⟨rfl, hb⟩
  clear qc0 qc1 qc2 qc3 xc0 xc1 xc2 xc3 yc0 yc1 yc2 yc3 zc0 zc1 zc2 zc3
  replace HFq := Lib.hid (HFq.out.kept hb)
  replace HFx := Lib.hid (HFx.out.kept hb)
  replace HFy := Lib.hid (HFy.out.kept hb)
  replace HFz := Lib.hid (HFz.out.kept hb)
  replace HQq := Lib.hid (HQq.out.next hb)
  replace HQx := Lib.hid (HQx.out.next hb)
  replace HQy := Lib.hid (HQy.out.next hb)
  replace HQz := Lib.hid (HQz.out.next hb)
  replace HB := Lib.hid (below_next HB.out hb)
  clear hb
  clear HL
  have qc0 := HFq.out.c0
  have qc1 := HFq.out.c1
  have qc2 := HFq.out.c2
  have qc3 := HFq.out.c3
  have xc0 := HFx.out.c0
  have xc1 := HFx.out.c1
  have xc2 := HFx.out.c2
  have xc3 := HFx.out.c3
  have yc0 := HFy.out.c0
  have yc1 := HFy.out.c1
  have yc2 := HFy.out.c2
  have yc3 := HFy.out.c3
  have zc0 := HFz.out.c0
  have zc1 := HFz.out.c1
  have zc2 := HFz.out.c2
  have zc3 := HFz.out.c3
  have HL := Lib.hid (QRight_any HQy.out (Nat.le_trans (HSy.out.sets HEy.out) (by omega)) (fun x hx => Nat.le_trans (HSy.out.each HEy.out x hx) (by omega)) (Nat.le_trans (HSy.out.opn HEy.out) (by omega)))
  rw [HEy.out, (quRight_iff _).2 (done_ok (done_ok HOk.out a) b)] at HL
  unfold QuV.val at HL
  go_wp2_with fail
  refine (HL.out).mono ?_
  rintro e w8 ⟨rfl, hb⟩
  clear qc0 qc1 qc2 qc3 xc0 xc1 xc2 xc3 yc0 yc1 yc2 yc3 zc0 zc1 zc2 zc3
  replace HFq := Lib.hid (HFq.out.kept hb)
  replace HFx := Lib.hid (HFx.out.kept hb)
  replace HFy := Lib.hid (HFy.out.kept hb)
  replace HFz := Lib.hid (HFz.out.kept hb)
  replace HQq := Lib.hid (HQq.out.next hb)
  replace HQx := Lib.hid (HQx.out.next hb)
  replace HQy := Lib.hid (HQy.out.next hb)
  replace HQz := Lib.hid (HQz.out.next hb)
  replace HB := Lib.hid (below_next HB.out hb)
  clear hb
  clear HL
  have qc0 := HFq.out.c0
  have qc1 := HFq.out.c1
  have qc2 := HFq.out.c2
  have qc3 := HFq.out.c3
  have xc0 := HFx.out.c0
  have xc1 := HFx.out.c1
  have xc2 := HFx.out.c2
  have xc3 := HFx.out.c3
  have yc0 := HFy.out.c0
  have yc1 := HFy.out.c1
  have yc2 := HFy.out.c2
  have yc3 := HFy.out.c3
  have zc0 := HFz.out.c0
  have zc1 := HFz.out.c1
  have zc2 := HFz.out.c2
  have zc3 := HFz.out.c3
  go_wp2_with fail
  refine (awake12_any _).mono ?_
  rintro e w9 ⟨rfl, hb⟩
  clear qc0 qc1 qc2 qc3 xc0 xc1 xc2 xc3 yc0 yc1 yc2 yc3 zc0 zc1 zc2 zc3
  replace HFq := Lib.hid (HFq.out.kept hb)
  replace HFx := Lib.hid (HFx.out.kept hb)
  replace HFy := Lib.hid (HFy.out.kept hb)
  replace HFz := Lib.hid (HFz.out.kept hb)
  replace HQq := Lib.hid (HQq.out.next hb)
  replace HQx := Lib.hid (HQx.out.next hb)
  replace HQy := Lib.hid (HQy.out.next hb)
  replace HQz := Lib.hid (HQz.out.next hb)
  replace HB := Lib.hid (below_next HB.out hb)
  clear hb
  go_wp2_with fail
  go_ret
  exact ⟨rfl, HB.out⟩
end Go.Proofs.Ytpmllckfijfehaa
