/- The walk of QueueDone. -/
import Derived.Test.YtpmllckfijfehaaQueMb
import Derived.Test.YtpmllckfijfehaaQueN
import Derived.Test.YtpmllckfijfehaaQueE
namespace Go.Proofs.Ytpmllckfijfehaa
open Go.Shelf Go.RowKit Go.Lib Go.Sort

theorem bytesW_le (ws : List Wr) (h : ∀ x ∈ ws, x.data.size ≤ 140737488351232) : bytesW ws ≤ ws.length * 140737488351240 := by
  induction ws with
  | nil => exact Nat.zero_le _
  | cons x ws ih =>
    have h1 := h x (by simp)
    have h2 := ih (fun y hy => h y (by simp [hy]))
    rw [bytesW_cons, List.length_cons]; omega
theorem joinS_len {l : List SetV} {b : Nat} (h : ∀ x ∈ l, x.ws.length ≤ b) : (joinS l).length ≤ l.length * b := by
  unfold joinS plainS
  induction l with
  | nil => simp
  | cons x l ih =>
    have h1 := h x (by simp)
    have h2 := ih (fun y hy => h y (by simp [hy]))
    simp only [List.map_cons, List.flatMap_cons, List.length_append, List.length_cons]
    have e : (l.length + 1) * b = l.length * b + b := Nat.succ_mul _ _
    have : (SetV.set x).ws.length ≤ b := h1
    omega
theorem quJoined_bytes {q : QuV} (h : ∀ x ∈ q.sets, ∀ u ∈ x.ws, u.data.size ≤ 140737488351232) (h2 : ∀ u ∈ q.opn, u.data.size ≤ 140737488351232) : ∀ u ∈ quJoined q.qu, u.data.size ≤ 140737488351232 := by
  intro u hu
  rw [quJoined_is] at hu
  rcases List.mem_append.1 hu with hu | hu
  · unfold joinS plainS at hu
    obtain ⟨s, hs, hu⟩ := List.mem_flatMap.1 hu
    obtain ⟨x, hx, rfl⟩ := List.mem_map.1 hs
    exact h x hx u hu
  · exact h2 u hu

set_option maxHeartbeats 8000000 in
set_option maxRecDepth 100000 in
theorem QueueDone_walk {w : World} {q : QuV} (seq : Int) (h : QuAt w w.heap.size q) (hs : q.sets.length ≤ 9223372036854775807) (hx : ∀ x ∈ q.sets, x.ws.length ≤ 9223372036854775807 ∧ ∀ u ∈ x.ws, u.data.size ≤ 140737488351232) (ho : q.opn.length ≤ 9223372036854775807 ∧ ∀ u ∈ q.opn, u.data.size ≤ 140737488351232) :
    Calls Try.prog 4 #[q.val, .int .i64 seq] w fun e w' => e = .returned (.bool true) ∧ Below w.heap.size w w' := by
  have HB := Lib.hid (Below.refl w.heap.size w)
  have HQq := Lib.hid h
  have HSx := Lib.hid (fun x h => (hx x h).1)
  clear h
  cases hsm : smallQ q with
  | false =>
    have HSm := Lib.hid hsm
    clear hsm
    unfold QuV.val
    go_enter Try.func4, Try.ntmps4
    go_wp2_with fail
    obtain ⟨w1, hw1⟩ : ∃ V, V = w.alloc (.cells #[.slice q.A q.sets.length q.c, .slice q.A2 q.opn.length q.c2, .int .i64 q.frm, .int .i64 q.to_] 25 (0, 0)) := ⟨_, rfl⟩
    have hb : Below w.heap.size w w1 := by rw [hw1]; exact below_one _ _
    have HFq : Hid (Four w1 w.heap.size (.slice q.A q.sets.length q.c) (.slice q.A2 q.opn.length q.c2) (.int .i64 q.frm) (.int .i64 q.to_) 25) := Lib.hid (by rw [hw1]; exact Four.new _ _ _ _ _ _)
    rw [← hw1]
    replace HQq := Lib.hid (HQq.out.next hb)
    replace HB := Lib.hid (below_next HB.out hb)
    clear hb hw1
    generalize w.heap.size = Pq at HFq ⊢
    have qc0 := HFq.out.c0
    have qc1 := HFq.out.c1
    have qc2 := HFq.out.c2
    have qc3 := HFq.out.c3
    have HL := Lib.hid (SmallQ_any HQq.out hs HSx.out ho.1)
    rw [HSm.out] at HL
    refine (HL.out).mono ?_
    rintro e w2 ⟨rfl, hb⟩
    clear qc0 qc1 qc2 qc3
    replace HFq := Lib.hid (HFq.out.kept hb)
    replace HQq := Lib.hid (HQq.out.next hb)
    replace HB := Lib.hid (below_next HB.out hb)
    clear hb
    have qc0 := HFq.out.c0
    have qc1 := HFq.out.c1
    have qc2 := HFq.out.c2
    have qc3 := HFq.out.c3
    go_wp2_with fail
    refine (awake12_any _).mono ?_
    rintro e w3 ⟨rfl, hb⟩
    clear qc0 qc1 qc2 qc3
    replace HFq := Lib.hid (HFq.out.kept hb)
    replace HQq := Lib.hid (HQq.out.next hb)
    replace HB := Lib.hid (below_next HB.out hb)
    clear hb
    go_wp2_with fail
    go_ret
    exact ⟨rfl, HB.out⟩
  | true =>
  have HSm := Lib.hid hsm
  have HU := Lib.hid (smU_small hsm)
  have HFi := Lib.hid (HU.out.fine rfl (by omega) (by omega))
  have HS5 : Hid (q.sets.length ≤ 500) := Lib.hid (Nat.le_trans (HU.out.sets rfl) (by omega))
  have HJl : Hid ((joinS q.sets).length + q.opn.length ≤ 4000) := Lib.hid (by
    have h1 := joinS_len (HU.out.each rfl)
    have h2 := HU.out.sets rfl
    have h3 := HU.out.opn rfl
    have h4 : q.sets.length * 60 ≤ 20 * 60 := Nat.mul_le_mul_right _ h2
    omega)
  have HJn : Hid ((quJoined q.qu).length ≤ 4000) := Lib.hid (by rw [quJoined_is, List.length_append]; exact HJl.out)
  have HBy : Hid (bytesW (quJoined q.qu) ≤ 4611686018427387904) := Lib.hid (by
    have h1 := bytesW_le _ (quJoined_bytes (fun x h => (hx x h).2) ho.2)
    have h2 := HJn.out
    have h3 : (quJoined q.qu).length * 140737488351240 ≤ 4000 * 140737488351240 := Nat.mul_le_mul_right _ h2
    omega)
  clear hsm
  cases hr : quRight q.qu with
  | false =>
    have HR := Lib.hid hr
    clear hr
    unfold QuV.val
    go_enter Try.func4, Try.ntmps4
    go_wp2_with fail
    obtain ⟨w1, hw1⟩ : ∃ V, V = w.alloc (.cells #[.slice q.A q.sets.length q.c, .slice q.A2 q.opn.length q.c2, .int .i64 q.frm, .int .i64 q.to_] 25 (0, 0)) := ⟨_, rfl⟩
    have hb : Below w.heap.size w w1 := by rw [hw1]; exact below_one _ _
    have HFq : Hid (Four w1 w.heap.size (.slice q.A q.sets.length q.c) (.slice q.A2 q.opn.length q.c2) (.int .i64 q.frm) (.int .i64 q.to_) 25) := Lib.hid (by rw [hw1]; exact Four.new _ _ _ _ _ _)
    rw [← hw1]
    replace HQq := Lib.hid (HQq.out.next hb)
    replace HB := Lib.hid (below_next HB.out hb)
    clear hb hw1
    generalize w.heap.size = Pq at HFq ⊢
    have qc0 := HFq.out.c0
    have qc1 := HFq.out.c1
    have qc2 := HFq.out.c2
    have qc3 := HFq.out.c3
    have HL := Lib.hid (SmallQ_any HQq.out hs HSx.out ho.1)
    rw [HSm.out] at HL
    refine (HL.out).mono ?_
    rintro e w2 ⟨rfl, hb⟩
    clear qc0 qc1 qc2 qc3
    replace HFq := Lib.hid (HFq.out.kept hb)
    replace HQq := Lib.hid (HQq.out.next hb)
    replace HB := Lib.hid (below_next HB.out hb)
    clear hb
    have qc0 := HFq.out.c0
    have qc1 := HFq.out.c1
    have qc2 := HFq.out.c2
    have qc3 := HFq.out.c3
    have HLd : Hid (qLoadN q.qu = 0 ∧ qLoadB q.qu = 0) := Lib.hid ⟨by unfold qLoadN; rw [if_neg (by rw [HR.out]; simp)], by unfold qLoadB; rw [if_neg (by rw [HR.out]; simp)]⟩
    have HAl : Hid (qAll q.qu = []) := Lib.hid (by unfold qAll; rw [if_neg (by rw [HR.out]; simp)])
    have HTl : Hid (qTail q.qu = 0) := Lib.hid (by unfold qTail; rw [if_neg (by rw [HR.out]; simp)])
    have HL := Lib.hid (QDone_any seq HQq.out HFi.out HS5.out)
    rw [(qdone_no HR.out seq).1, (qdone_no HR.out seq).2] at HL
    unfold QuV.val at HL
    go_wp2_with fail
    refine HL.out.mono ?_
    rintro e wx ⟨x, hqx, rfl, hA, hb⟩
    clear qc0 qc1 qc2 qc3
    replace HFq := Lib.hid (HFq.out.kept hb)
    replace HQq := Lib.hid (HQq.out.next hb)
    replace HB := Lib.hid (below_next HB.out hb)
    have HQx := Lib.hid hA
    have HEx := Lib.hid hqx
    clear hb hA hqx HL
    unfold QuV.val
    have qc0 := HFq.out.c0
    have qc1 := HFq.out.c1
    have qc2 := HFq.out.c2
    have qc3 := HFq.out.c3
    have qa0 := (HFq.out.kept (below_one wx (.cells #[.slice x.A x.sets.length x.c, .slice x.A2 x.opn.length x.c2, .int .i64 x.frm, .int .i64 x.to_] 25 (0, 0)))).c0
    have qa1 := (HFq.out.kept (below_one wx (.cells #[.slice x.A x.sets.length x.c, .slice x.A2 x.opn.length x.c2, .int .i64 x.frm, .int .i64 x.to_] 25 (0, 0)))).c1
    have qa2 := (HFq.out.kept (below_one wx (.cells #[.slice x.A x.sets.length x.c, .slice x.A2 x.opn.length x.c2, .int .i64 x.frm, .int .i64 x.to_] 25 (0, 0)))).c2
    have qa3 := (HFq.out.kept (below_one wx (.cells #[.slice x.A x.sets.length x.c, .slice x.A2 x.opn.length x.c2, .int .i64 x.frm, .int .i64 x.to_] 25 (0, 0)))).c3
    go_wp2_with fail
    clear qc0 qc1 qc2 qc3 qa0 qa1 qa2 qa3
    obtain ⟨w3, hw3⟩ : ∃ V, V = wx.alloc (.cells #[.slice x.A x.sets.length x.c, .slice x.A2 x.opn.length x.c2, .int .i64 x.frm, .int .i64 x.to_] 25 (0, 0)) := ⟨_, rfl⟩
    have hb : Below wx.heap.size wx w3 := by rw [hw3]; exact below_one _ _
    have HFx : Hid (Four w3 wx.heap.size (.slice x.A x.sets.length x.c) (.slice x.A2 x.opn.length x.c2) (.int .i64 x.frm) (.int .i64 x.to_) 25) := Lib.hid (by rw [hw3]; exact Four.new _ _ _ _ _ _)
    rw [← hw3]
    replace HFq := Lib.hid (HFq.out.kept hb)
    replace HQq := Lib.hid (HQq.out.next hb)
    replace HQx := Lib.hid (HQx.out.next hb)
    replace HB := Lib.hid (below_next HB.out hb)
    clear hb hw3
    generalize wx.heap.size = Px at HFx ⊢
    have qc0 := HFq.out.c0
    have qc1 := HFq.out.c1
    have qc2 := HFq.out.c2
    have qc3 := HFq.out.c3
    have xc0 := HFx.out.c0
    have xc1 := HFx.out.c1
    have xc2 := HFx.out.c2
    have xc3 := HFx.out.c3
    have HL := Lib.hid (QLoad_any HQq.out HFi.out HJl.out HBy.out)
    rw [HLd.out.1, HLd.out.2] at HL
    unfold QuV.val at HL
    refine (HL.out).mono ?_
    rintro e w4 ⟨rfl, hb⟩
    clear qc0 qc1 qc2 qc3 xc0 xc1 xc2 xc3
    replace HFq := Lib.hid (HFq.out.kept hb)
    replace HFx := Lib.hid (HFx.out.kept hb)
    replace HQq := Lib.hid (HQq.out.next hb)
    replace HQx := Lib.hid (HQx.out.next hb)
    replace HB := Lib.hid (below_next HB.out hb)
    clear hb
    clear HL
    have qc0 := HFq.out.c0
    have qc1 := HFq.out.c1
    have qc2 := HFq.out.c2
    have qc3 := HFq.out.c3
    have xc0 := HFx.out.c0
    have xc1 := HFx.out.c1
    have xc2 := HFx.out.c2
    have xc3 := HFx.out.c3
    have HL := Lib.hid (QAll_any HQq.out HFi.out HJl.out)
    rw [HAl.out] at HL
    unfold QuV.val at HL
    go_wp2_with fail
    refine HL.out.mono ?_
    rintro e wl ⟨Al, cl, rfl, hA, _, hb⟩
    clear qc0 qc1 qc2 qc3 xc0 xc1 xc2 xc3
    replace HFq := Lib.hid (HFq.out.kept hb)
    replace HFx := Lib.hid (HFx.out.kept hb)
    replace HQq := Lib.hid (HQq.out.next hb)
    replace HQx := Lib.hid (HQx.out.next hb)
    replace HB := Lib.hid (below_next HB.out hb)
    have HWl := Lib.hid hA
    clear hb hA HL
    have qc0 := HFq.out.c0
    have qc1 := HFq.out.c1
    have qc2 := HFq.out.c2
    have qc3 := HFq.out.c3
    have xc0 := HFx.out.c0
    have xc1 := HFx.out.c1
    have xc2 := HFx.out.c2
    have xc3 := HFx.out.c3
    have HL := Lib.hid (DQRight_any HQq.out HFi.out.sets HFi.out.each HFi.out.opn)
    rw [HR.out] at HL
    unfold QuV.val at HL
    go_wp2_with fail
    refine (HL.out).mono ?_
    rintro e w5 ⟨rfl, hb⟩
    clear qc0 qc1 qc2 qc3 xc0 xc1 xc2 xc3
    replace HFq := Lib.hid (HFq.out.kept hb)
    replace HFx := Lib.hid (HFx.out.kept hb)
    replace HQq := Lib.hid (HQq.out.next hb)
    replace HQx := Lib.hid (HQx.out.next hb)
    replace HWl := Lib.hid (HWl.out.next hb)
    replace HB := Lib.hid (below_next HB.out hb)
    clear hb
    clear HL
    have qc0 := HFq.out.c0
    have qc1 := HFq.out.c1
    have qc2 := HFq.out.c2
    have qc3 := HFq.out.c3
    have xc0 := HFx.out.c0
    have xc1 := HFx.out.c1
    have xc2 := HFx.out.c2
    have xc3 := HFx.out.c3
    have HSq := Lib.hid (smU_none 20 60)
    have HL := Lib.hid (QEq_same (qb := quvNone) HQx.out (quvNone_at _ _) HEx.out (Nat.le_trans (HSq.out.sets HEx.out) (by omega)) (fun x hx => Nat.le_trans (HSq.out.each HEx.out x hx) (by omega)) (Nat.le_trans (HSq.out.opn HEx.out) (by omega)))
    unfold QuV.val quvNone at HL
    simp only [List.length_nil] at HL
    go_wp2_with fail
    refine (HL.out).mono ?_
    rintro e w6 ⟨rfl, hb⟩
    clear qc0 qc1 qc2 qc3 xc0 xc1 xc2 xc3
    replace HFq := Lib.hid (HFq.out.kept hb)
    replace HFx := Lib.hid (HFx.out.kept hb)
    replace HQq := Lib.hid (HQq.out.next hb)
    replace HQx := Lib.hid (HQx.out.next hb)
    replace HWl := Lib.hid (HWl.out.next hb)
    replace HB := Lib.hid (below_next HB.out hb)
    clear hb
    clear HL
    have qc0 := HFq.out.c0
    have qc1 := HFq.out.c1
    have qc2 := HFq.out.c2
    have qc3 := HFq.out.c3
    have xc0 := HFx.out.c0
    have xc1 := HFx.out.c1
    have xc2 := HFx.out.c2
    have xc3 := HFx.out.c3
    have HL := Lib.hid (QTail_any HQq.out HFi.out)
    rw [HTl.out] at HL
    unfold QuV.val at HL
    go_wp2_with fail
    refine (HL.out).mono ?_
    rintro e w7 ⟨rfl, hb⟩
    clear qc0 qc1 qc2 qc3 xc0 xc1 xc2 xc3
    replace HFq := Lib.hid (HFq.out.kept hb)
    replace HFx := Lib.hid (HFx.out.kept hb)
    replace HQq := Lib.hid (HQq.out.next hb)
    replace HQx := Lib.hid (HQx.out.next hb)
    replace HWl := Lib.hid (HWl.out.next hb)
    replace HB := Lib.hid (below_next HB.out hb)
    clear hb
    clear HL
    have qc0 := HFq.out.c0
    have qc1 := HFq.out.c1
    have qc2 := HFq.out.c2
    have qc3 := HFq.out.c3
    have xc0 := HFx.out.c0
    have xc1 := HFx.out.c1
    have xc2 := HFx.out.c2
    have xc3 := HFx.out.c3
    go_wp2_with fail
    refine (awake12_any _).mono ?_
    rintro e w8 ⟨rfl, hb⟩
    clear qc0 qc1 qc2 qc3 xc0 xc1 xc2 xc3
    replace HFq := Lib.hid (HFq.out.kept hb)
    replace HFx := Lib.hid (HFx.out.kept hb)
    replace HQq := Lib.hid (HQq.out.next hb)
    replace HQx := Lib.hid (HQx.out.next hb)
    replace HWl := Lib.hid (HWl.out.next hb)
    replace HB := Lib.hid (below_next HB.out hb)
    clear hb
    go_wp2_with fail
    go_ret
    exact ⟨rfl, HB.out⟩
  | true =>
  have HR := Lib.hid hr
  have HOk := Lib.hid ((quRight_iff _).1 hr)
  have HC := Lib.hid ((quRight_code _).1 hr)
  clear hr
  have HLd : Hid (qLoadN q.qu = q.to_ - quTail q.qu ∧ qLoadB q.qu = bytesW (quJoined q.qu)) := Lib.hid ⟨by unfold qLoadN; rw [if_pos HR.out]; rfl, by unfold qLoadB; rw [if_pos HR.out]⟩
  have HAl : Hid (qAll q.qu = quAll q.qu) := Lib.hid (by unfold qAll; rw [if_pos HR.out])
  have HTl : Hid (qTail q.qu = quTail q.qu) := Lib.hid (by unfold qTail; rw [if_pos HR.out])
  have HWr : Hid (IntKind.i64.wrap (q.to_ - quTail q.qu) = q.to_ - quTail q.qu) := Lib.hid (by have h1 := HC.out.1; have h2 := waits_ok HOk.out; have h3 := HC.out.2.2.1; have e : q.qu.to_ = q.to_ := rfl; rw [IntKind.wrap_i64]; omega)
  unfold QuV.val
  go_enter Try.func4, Try.ntmps4
  go_wp2_with fail
  obtain ⟨w1, hw1⟩ : ∃ V, V = w.alloc (.cells #[.slice q.A q.sets.length q.c, .slice q.A2 q.opn.length q.c2, .int .i64 q.frm, .int .i64 q.to_] 25 (0, 0)) := ⟨_, rfl⟩
  have hb : Below w.heap.size w w1 := by rw [hw1]; exact below_one _ _
  have HFq : Hid (Four w1 w.heap.size (.slice q.A q.sets.length q.c) (.slice q.A2 q.opn.length q.c2) (.int .i64 q.frm) (.int .i64 q.to_) 25) := Lib.hid (by rw [hw1]; exact Four.new _ _ _ _ _ _)
  rw [← hw1]
  replace HQq := Lib.hid (HQq.out.next hb)
  replace HB := Lib.hid (below_next HB.out hb)
  clear hb hw1
  generalize w.heap.size = Pq at HFq ⊢
  have qc0 := HFq.out.c0
  have qc1 := HFq.out.c1
  have qc2 := HFq.out.c2
  have qc3 := HFq.out.c3
  have HL := Lib.hid (SmallQ_any HQq.out hs HSx.out ho.1)
  rw [HSm.out] at HL
  refine (HL.out).mono ?_
  rintro e w2 ⟨rfl, hb⟩
  clear qc0 qc1 qc2 qc3
  replace HFq := Lib.hid (HFq.out.kept hb)
  replace HQq := Lib.hid (HQq.out.next hb)
  replace HB := Lib.hid (below_next HB.out hb)
  clear hb
  have qc0 := HFq.out.c0
  have qc1 := HFq.out.c1
  have qc2 := HFq.out.c2
  have qc3 := HFq.out.c3
  have HL := Lib.hid (QDone_any seq HQq.out HFi.out HS5.out)
  rw [(qdone_yes HR.out seq).1, (qdone_yes HR.out seq).2] at HL
  unfold QuV.val at HL
  go_wp2_with fail
  refine HL.out.mono ?_
  rintro e wx ⟨x, hqx, rfl, hA, hb⟩
  clear qc0 qc1 qc2 qc3
  replace HFq := Lib.hid (HFq.out.kept hb)
  replace HQq := Lib.hid (HQq.out.next hb)
  replace HB := Lib.hid (below_next HB.out hb)
  have HQx := Lib.hid hA
  have HEx := Lib.hid hqx
  clear hb hA hqx HL
  unfold QuV.val
  have qc0 := HFq.out.c0
  have qc1 := HFq.out.c1
  have qc2 := HFq.out.c2
  have qc3 := HFq.out.c3
  have qa0 := (HFq.out.kept (below_one wx (.cells #[.slice x.A x.sets.length x.c, .slice x.A2 x.opn.length x.c2, .int .i64 x.frm, .int .i64 x.to_] 25 (0, 0)))).c0
  have qa1 := (HFq.out.kept (below_one wx (.cells #[.slice x.A x.sets.length x.c, .slice x.A2 x.opn.length x.c2, .int .i64 x.frm, .int .i64 x.to_] 25 (0, 0)))).c1
  have qa2 := (HFq.out.kept (below_one wx (.cells #[.slice x.A x.sets.length x.c, .slice x.A2 x.opn.length x.c2, .int .i64 x.frm, .int .i64 x.to_] 25 (0, 0)))).c2
  have qa3 := (HFq.out.kept (below_one wx (.cells #[.slice x.A x.sets.length x.c, .slice x.A2 x.opn.length x.c2, .int .i64 x.frm, .int .i64 x.to_] 25 (0, 0)))).c3
  go_wp2_with fail
  clear qc0 qc1 qc2 qc3 qa0 qa1 qa2 qa3
  obtain ⟨w3, hw3⟩ : ∃ V, V = wx.alloc (.cells #[.slice x.A x.sets.length x.c, .slice x.A2 x.opn.length x.c2, .int .i64 x.frm, .int .i64 x.to_] 25 (0, 0)) := ⟨_, rfl⟩
  have hb : Below wx.heap.size wx w3 := by rw [hw3]; exact below_one _ _
  have HFx : Hid (Four w3 wx.heap.size (.slice x.A x.sets.length x.c) (.slice x.A2 x.opn.length x.c2) (.int .i64 x.frm) (.int .i64 x.to_) 25) := Lib.hid (by rw [hw3]; exact Four.new _ _ _ _ _ _)
  rw [← hw3]
  replace HFq := Lib.hid (HFq.out.kept hb)
  replace HQq := Lib.hid (HQq.out.next hb)
  replace HQx := Lib.hid (HQx.out.next hb)
  replace HB := Lib.hid (below_next HB.out hb)
  clear hb hw3
  generalize wx.heap.size = Px at HFx ⊢
  have qc0 := HFq.out.c0
  have qc1 := HFq.out.c1
  have qc2 := HFq.out.c2
  have qc3 := HFq.out.c3
  have xc0 := HFx.out.c0
  have xc1 := HFx.out.c1
  have xc2 := HFx.out.c2
  have xc3 := HFx.out.c3
  have HL := Lib.hid (QLoad_any HQq.out HFi.out HJl.out HBy.out)
  rw [HLd.out.1, HLd.out.2] at HL
  unfold QuV.val at HL
  refine (HL.out).mono ?_
  rintro e w4 ⟨rfl, hb⟩
  clear qc0 qc1 qc2 qc3 xc0 xc1 xc2 xc3
  replace HFq := Lib.hid (HFq.out.kept hb)
  replace HFx := Lib.hid (HFx.out.kept hb)
  replace HQq := Lib.hid (HQq.out.next hb)
  replace HQx := Lib.hid (HQx.out.next hb)
  replace HB := Lib.hid (below_next HB.out hb)
  clear hb
  clear HL
  have qc0 := HFq.out.c0
  have qc1 := HFq.out.c1
  have qc2 := HFq.out.c2
  have qc3 := HFq.out.c3
  have xc0 := HFx.out.c0
  have xc1 := HFx.out.c1
  have xc2 := HFx.out.c2
  have xc3 := HFx.out.c3
  have HL := Lib.hid (QAll_any HQq.out HFi.out HJl.out)
  rw [HAl.out] at HL
  unfold QuV.val at HL
  go_wp2_with fail
  refine HL.out.mono ?_
  rintro e wl ⟨Al, cl, rfl, hA, _, hb⟩
  clear qc0 qc1 qc2 qc3 xc0 xc1 xc2 xc3
  replace HFq := Lib.hid (HFq.out.kept hb)
  replace HFx := Lib.hid (HFx.out.kept hb)
  replace HQq := Lib.hid (HQq.out.next hb)
  replace HQx := Lib.hid (HQx.out.next hb)
  replace HB := Lib.hid (below_next HB.out hb)
  have HWl := Lib.hid hA
  clear hb hA HL
  have qc0 := HFq.out.c0
  have qc1 := HFq.out.c1
  have qc2 := HFq.out.c2
  have qc3 := HFq.out.c3
  have xc0 := HFx.out.c0
  have xc1 := HFx.out.c1
  have xc2 := HFx.out.c2
  have xc3 := HFx.out.c3
  have HL := Lib.hid (DQRight_any HQq.out HFi.out.sets HFi.out.each HFi.out.opn)
  rw [HR.out] at HL
  unfold QuV.val at HL
  go_wp2_with fail
  refine (HL.out).mono ?_
  rintro e w5 ⟨rfl, hb⟩
  clear qc0 qc1 qc2 qc3 xc0 xc1 xc2 xc3
  replace HFq := Lib.hid (HFq.out.kept hb)
  replace HFx := Lib.hid (HFx.out.kept hb)
  replace HQq := Lib.hid (HQq.out.next hb)
  replace HQx := Lib.hid (HQx.out.next hb)
  replace HWl := Lib.hid (HWl.out.next hb)
  replace HB := Lib.hid (below_next HB.out hb)
  clear hb
  clear HL
  have qc0 := HFq.out.c0
  have qc1 := HFq.out.c1
  have qc2 := HFq.out.c2
  have qc3 := HFq.out.c3
  have xc0 := HFx.out.c0
  have xc1 := HFx.out.c1
  have xc2 := HFx.out.c2
  have xc3 := HFx.out.c3
  have HL := Lib.hid (QJoined_any HQq.out HFi.out.sets HJl.out)
  unfold QuV.val at HL
  go_wp2_with fail
  refine HL.out.mono ?_
  rintro e wj ⟨Aj, cj, rfl, hA, _, hb⟩
  clear qc0 qc1 qc2 qc3 xc0 xc1 xc2 xc3
  replace HFq := Lib.hid (HFq.out.kept hb)
  replace HFx := Lib.hid (HFx.out.kept hb)
  replace HQq := Lib.hid (HQq.out.next hb)
  replace HQx := Lib.hid (HQx.out.next hb)
  replace HWl := Lib.hid (HWl.out.next hb)
  replace HB := Lib.hid (below_next HB.out hb)
  have HWj := Lib.hid hA
  clear hb hA HL
  have qc0 := HFq.out.c0
  have qc1 := HFq.out.c1
  have qc2 := HFq.out.c2
  have qc3 := HFq.out.c3
  have xc0 := HFx.out.c0
  have xc1 := HFx.out.c1
  have xc2 := HFx.out.c2
  have xc3 := HFx.out.c3
  have HL := Lib.hid (DTail_any HQq.out)
  unfold QuV.val at HL
  go_wp2_with fail
  refine (HL.out).mono ?_
  rintro e w6 ⟨rfl, hb⟩
  clear qc0 qc1 qc2 qc3 xc0 xc1 xc2 xc3
  replace HFq := Lib.hid (HFq.out.kept hb)
  replace HFx := Lib.hid (HFx.out.kept hb)
  replace HQq := Lib.hid (HQq.out.next hb)
  replace HQx := Lib.hid (HQx.out.next hb)
  replace HWl := Lib.hid (HWl.out.next hb)
  replace HWj := Lib.hid (HWj.out.next hb)
  replace HB := Lib.hid (below_next HB.out hb)
  clear hb
  clear HL
  go_wp2_with fail
  have Hx := fun z : LatW w6 => (HFx.out.lat z)
  have Hq := fun z : LatW w6 => (HFq.out.lat z)
  have x0 := fun z : LatW w6 => (Hx z).c0
  have x1 := fun z : LatW w6 => (Hx z).c1
  have x2 := fun z : LatW w6 => (Hx z).c2
  have x3 := fun z : LatW w6 => (Hx z).c3
  have q0 := fun z : LatW w6 => (Hq z).c0
  have q1 := fun z : LatW w6 => (Hq z).c1
  have q2 := fun z : LatW w6 => (Hq z).c2
  have q3 := fun z : LatW w6 => (Hq z).c3
  clear Hx Hq
  have HDd : Hid (∀ z : LatW w6, Calls Try.prog 23 #[q.val, .int .i64 seq] z.wd (QuEnd (quDone q.qu seq) z.wd)) := Lib.hid (fun z => DQDone_any seq (HQq.out.next z.bel) HS5.out)
  unfold QuEnd QuV.val at HDd
  have HSy := Lib.hid (smU_done HU.out seq)
  have HEq : Hid (∀ (z : LatW w6) (d : QuV), d.qu = quDone q.qu seq → QuAt z.wd z.wd.heap.size d → Calls Try.prog 14 #[x.val, d.val] z.wd fun e w' => e = .returned (.bool true) ∧ Below z.wd.heap.size z.wd w') := Lib.hid (fun z d hd hA => QEq_same (HQx.out.next z.bel) hA (HEx.out.trans hd.symm) (Nat.le_trans (HSy.out.sets HEx.out) (by omega)) (fun x hx => Nat.le_trans (HSy.out.each HEx.out x hx) (by omega)) (Nat.le_trans (HSy.out.opn HEx.out) (by omega)))
  unfold QuV.val at HEq
  have HTa : Hid (∀ z : LatW w6, Calls Try.prog 20 #[q.val] z.wd fun e w' => e = .returned (.int .i64 (quTail q.qu)) ∧ Below z.wd.heap.size z.wd w') := Lib.hid (fun z => by have := QTail_any (HQq.out.next z.bel) HFi.out; rw [HTl.out] at this; exact this)
  unfold QuV.val at HTa
  have HBt := Lib.hid (fun z : LatW w6 => RefBytes_any (c := cj) (HWj.out.next z.bel) (Nat.le_trans HJn.out (by omega)) HBy.out)
  have HRf := Lib.hid (fun z : LatW w6 => RefFold_any (c := cj) (HWj.out.next z.bel) HJn.out)
  have HE8 : Hid (∀ (z : LatW w6) (A8 : Option Addr) (c8 : Nat), WrsAt z.wd z.wd.heap.size A8 (quAll q.qu) → Calls Try.prog 25 #[.slice Al (quAll q.qu).length cl, .slice A8 (quAll q.qu).length c8] z.wd fun e w' => e = .returned (.bool true) ∧ Below z.wd.heap.size z.wd w') := Lib.hid (fun z A8 c8 h8 => by
    have := RefEqW_any (c1 := cl) (c2 := c8) (HWl.out.next z.bel) h8 (Nat.le_trans (Nat.le_trans (foldW_len (quJoined q.qu)) HJn.out) (by omega))
    rw [eqW_self] at this; exact this)
  change Hid (∀ z : LatW w6, Calls _ _ _ z.wd (WrsEnd (quAll q.qu) z.wd)) at HRf
  have HAw := Lib.hid (fun z : LatW w6 => awake12_any z.wd)
  have HEnd : Hid (∀ z : LatW w6, Below w.heap.size w z.wd) := Lib.hid (fun z => below_next HB.out z.bel)
  have hT : (quTail q.qu == quTail q.qu) = true := by simp
  have hW := HWr.out
  generalize quTail q.qu = T at hT hW HTa ⊢
  generalize quAll q.qu = us at HRf HE8 ⊢
  have hN : (q.to_ - T == q.to_ - T) = true := by simp
  obtain ⟨Y, hY⟩ : ∃ Y, bytesW (quJoined q.qu) = Y := ⟨_, rfl⟩
  rw [hY] at HBt ⊢
  clear hY
  have hYY : ((Y : Int) == (Y : Int)) = true := by simp
  generalize (quJoined q.qu).length = nj at HBt HRf ⊢
  clear HB HQq HQx HFq HFx HWl HWj HLd HAl HTl HJl HJn HBy HSx HC HOk HWr
  go_region_held3 (fun w' => w'.cell? ⟨Px, 0, none⟩ = some (.slice x.A x.sets.length x.c) ∧ w'.cell? ⟨Px, 1, none⟩ = some (.slice x.A2 x.opn.length x.c2) ∧ w'.cell? ⟨Px, 2, none⟩ = some (.int .i64 x.frm) ∧ w'.cell? ⟨Px, 3, none⟩ = some (.int .i64 x.to_) ∧ w'.cell? ⟨Pq, 0, none⟩ = some (.slice q.A q.sets.length q.c) ∧ w'.cell? ⟨Pq, 1, none⟩ = some (.slice q.A2 q.opn.length q.c2) ∧ w'.cell? ⟨Pq, 2, none⟩ = some (.int .i64 q.frm) ∧ w'.cell? ⟨Pq, 3, none⟩ = some (.int .i64 q.to_)) (first | with_reducible exact ⟨x0 z7, x1 z7, x2 z7, x3 z7, q0 z7, q1 z7, q2 z7, q3 z7⟩ | with_reducible exact ⟨x0 z6, x1 z6, x2 z6, x3 z6, q0 z6, q1 z6, q2 z6, q3 z6⟩ | with_reducible exact ⟨x0 z5, x1 z5, x2 z5, x3 z5, q0 z5, q1 z5, q2 z5, q3 z5⟩ | with_reducible exact ⟨x0 z4, x1 z4, x2 z4, x3 z4, q0 z4, q1 z4, q2 z4, q3 z4⟩ | with_reducible exact ⟨x0 z3, x1 z3, x2 z3, x3 z3, q0 z3, q1 z3, q2 z3, q3 z3⟩ | with_reducible exact ⟨x0 z2, x1 z2, x2 z2, x3 z2, q0 z2, q1 z2, q2 z2, q3 z2⟩ | with_reducible exact ⟨x0 z1, x1 z1, x2 z1, x3 z1, q0 z1, q1 z1, q2 z1, q3 z1⟩ | exact ⟨x0 (LatW.mkd (⟨w6, Below.refl _ _⟩ : LatW w6)), x1 (LatW.mkd (⟨w6, Below.refl _ _⟩ : LatW w6)), x2 (LatW.mkd (⟨w6, Below.refl _ _⟩ : LatW w6)), x3 (LatW.mkd (⟨w6, Below.refl _ _⟩ : LatW w6)), q0 (LatW.mkd (⟨w6, Below.refl _ _⟩ : LatW w6)), q1 (LatW.mkd (⟨w6, Below.refl _ _⟩ : LatW w6)), q2 (LatW.mkd (⟨w6, Below.refl _ _⟩ : LatW w6)), q3 (LatW.mkd (⟨w6, Below.refl _ _⟩ : LatW w6))⟩) (first | (go_at_call 23; refine (HDd.out (LatW.mkd (⟨w6, Below.refl _ _⟩ : LatW w6))).mono ?_; rintro e wz ⟨d, hd, rfl, hA, hb⟩; replace hd := Lib.hid hd; replace hA := Lib.hid hA; obtain ⟨z1, hz⟩ := LatW.later (LatW.mkd (⟨w6, Below.refl _ _⟩ : LatW w6)) hb; subst hz; clear hb) | (go_at_call 14; refine (HEq.out z1 d hd.out hA.out).mono ?_; rintro e wz ⟨rfl, hb⟩;  obtain ⟨z2, hz⟩ := LatW.later z1 hb; subst hz; clear hb) | (go_at_call 20; refine (HTa.out z2).mono ?_; rintro e wz ⟨rfl, hb⟩;  obtain ⟨z3, hz⟩ := LatW.later z2 hb; subst hz; clear hb) | (go_at_call 24; refine (HBt.out z3).mono ?_; rintro e wz ⟨rfl, hb⟩;  obtain ⟨z4, hz⟩ := LatW.later z3 hb; subst hz; clear hb) | (go_at_call 26; refine (HRf.out z4).mono ?_; rintro e wz ⟨A8, c8, rfl, h8, _, hb⟩; replace h8 := Lib.hid h8; obtain ⟨z5, hz⟩ := LatW.later z4 hb; subst hz; clear hb) | (go_at_call 25; refine (HE8.out z5 A8 c8 h8.out).mono ?_; rintro e wz ⟨rfl, hb⟩;  obtain ⟨z6, hz⟩ := LatW.later z5 hb; subst hz; clear hb) | (go_at_call 9; refine (HAw.out z6).mono ?_; rintro e wz ⟨rfl, hb⟩;  obtain ⟨z7, hz⟩ := LatW.later z6 hb; subst hz; clear hb))
  all_goals (go_wp2_with fail; go_ret; exact ⟨rfl, HEnd.out _⟩)
end Go.Proofs.Ytpmllckfijfehaa
