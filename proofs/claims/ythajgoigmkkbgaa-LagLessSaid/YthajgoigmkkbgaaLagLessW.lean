/- The walk of LagLess. -/
import Derived.Test.YthajgoigmkkbgaaLagJudgesW
namespace Go.Proofs.Ythajgoigmkkbgaa
open Go.Shelf Go.RowKit Go.Lib Go.Sort

set_option maxHeartbeats 8000000 in
set_option maxRecDepth 100000 in
theorem LagLess_walk {w : World} (b : Bd) (seq : Int) {q : QuV} {A3 : Option Addr} {c3 : Nat} {ws : List Wr} (h : QuAt w w.heap.size q) (hs : q.sets.length ≤ 9223372036854775807) (hx : ∀ x ∈ q.sets, x.ws.length ≤ 9223372036854775807 ∧ ∀ u ∈ x.ws, u.data.size ≤ 140737488351232) (ho : q.opn.length ≤ 9223372036854775807 ∧ ∀ u ∈ q.opn, u.data.size ≤ 140737488351232) (hw : WrsAt w w.heap.size A3 ws) (hy : ws.length ≤ 9223372036854775807 ∧ (A3 = none → c3 = 0)) (hd : ∀ x ∈ ws, x.data.size ≤ 140737488351232) :
    Calls Try.prog 5 #[b.val, q.val, .slice A3 ws.length c3, .int .i64 seq] w fun e w' => e = .returned (.bool true) ∧ Below w.heap.size w w' := by
  obtain ⟨V1, V, hV1, hV, hs1, hb, hX, hF, hQ⟩ := boxed2 b h
  have HV1 := Lib.hid hV1
  have HV := Lib.hid hV
  have HBV := Lib.hid hb
  have HX := Lib.hid hX
  have HF := Lib.hid hF
  have HSm : Hid (LatCalls Try.prog V 8 #[q.val] (.bool (smallQ q))) := Lib.hid (LatCalls.of fun z => SmallQ_any (hQ z) hs (fun x h => (hx x h).1) ho.1)
  have HAw : Hid (LatCalls Try.prog V 9 #[] (.bool true)) := Lib.hid (LatCalls.of fun z => awake13_any z.wd)
  have HJ : Hid (smallQ q = true → ws.length ≤ 60 → LatCalls Try.prog V 10 #[b.val, q.val, .slice A3 ws.length c3] (.int .i64 (judgeB b q.qu ws))) := Lib.hid (fun e h60 => by
    have hI := LagIn.of e (fun x h => (hx x h).2) ho.2
    have h2 := bytes_lot (Nat.le_trans h60 (by omega)) hd
    have h1 := hI.bytes
    exact LatCalls.of fun z => Judge_any b (hQ z) hI.fine hI.joined ((hw.next hb).next z.bel) hy.1 (by omega))
  have HD : Hid (smallQ q = true → judgeB b q.qu ws = 1 → ∀ z : LatW V, Calls Try.prog 17 #[q.val, .int .i64 seq] z.wd (QuErr (quDone q.qu seq) 0 z.wd)) := Lib.hid (fun e h1 z => by
    have hI := LagIn.of e (fun x h => (hx x h).2) ho.2
    have t := QDone_any seq (hQ z) hI.fine hI.sets
    rw [(qdone_yes (judge_one h1).2.1 seq).1, (qdone_yes (judge_one h1).2.1 seq).2] at t
    exact t)
  have HL : Hid (smallQ q = true → ws.length ≤ 60 → judgeB b q.qu ws = 1 → ∀ (w5 : World) (r : QuV), Below V.heap.size V w5 → r.qu = quDone q.qu seq → QuAt w5 w5.heap.size r → Calls Try.prog 10 #[b.val, r.val, .slice A3 ws.length c3] w5 (fun e w' => e = .returned (.int .i64 1) ∧ Below w5.heap.size w5 w') ∧ Calls Try.prog 10 #[b.val, r.val, .slice none 0 0] w5 (fun e w' => e = .returned (.int .i64 1) ∧ Below w5.heap.size w5 w')) := Lib.hid (fun e h60 h1 w5 r hb5 hr hq5 => by
    have hI := LagIn.of e (fun x h => (hx x h).2) ho.2
    have h2 := bytes_lot (Nat.le_trans h60 (by omega)) hd
    have h3 := hI.bytes
    have hdj := quJoined_done q.qu seq
    have hU := smU_done (smU_small e) seq
    have hj : (joinS r.sets).length + r.opn.length ≤ 4000 := by
      have hjj := hI.joined
      have e1 : (quJoined r.qu).length = (joinS r.sets).length + r.opn.length := by rw [quJoined_is, List.length_append]
      have e2 : (quJoined q.qu).length = (joinS q.sets).length + q.opn.length := by rw [quJoined_is, List.length_append]
      rw [hr] at e1
      omega
    have t1 := Judge_any (c3 := c3) b hq5 (hU.fine hr (by omega) (by omega)) hj ((hw.next hb).next hb5) hy.1 (by rw [hr]; omega)
    have t2 := Judge_any (A3 := none) (c3 := 0) (ws := []) b hq5 (hU.fine hr (by omega) (by omega)) hj (.inl rfl) (by simp) (by rw [hr]; have e0 : bytesW [] = 0 := rfl; omega)
    rw [hr, judge_less h1 seq (Nat.le_refl _)] at t1
    rw [hr, judge_less h1 seq (by simp [bytesW])] at t2
    exact ⟨t1, t2⟩)
  have HEnd : Hid (∀ z : LatW V, Below w.heap.size w z.wd) := Lib.hid (fun z => lat_end HBV.out z)
  clear hV1 hV hs1 hb hX hF hQ h hs hx ho hw hy hd HBV
  unfold QuV.val Bd.val at *
  generalize judgeB b q.qu ws = J at HJ HD HL
  generalize smallQ q = S at HSm HJ HD HL
  generalize quDone q.qu seq = D at HD HL
  generalize q.sets.length = n at HV HF HSm HJ HD ⊢
  generalize q.opn.length = m at HV HF HSm HJ HD ⊢
  generalize ws.length = m3 at HJ HL ⊢
  obtain ⟨A, c, l, A2, c2, us, f, tt⟩ := q
  obtain ⟨t, y, hd⟩ := b
  simp only at HV1 HV HF HX HSm HJ HD HL ⊢
  have x0 := fun z : LatW V => (HX.out.lat z).c0
  have x1 := fun z : LatW V => (HX.out.lat z).c1
  have x2 := fun z : LatW V => (HX.out.lat z).c2
  have y0 := fun z : LatW V => (HF.out.lat z).c0
  have y1 := fun z : LatW V => (HF.out.lat z).c1
  have y2 := fun z : LatW V => (HF.out.lat z).c2
  have y3 := fun z : LatW V => (HF.out.lat z).c3
  have HEn := HEnd
  cases S with
  | false =>
    clear HJ HD HL
    go_enter Try.func5, Try.ntmps5
    go_wp2_with fail
    rw [← HV1.out, ← HV.out]
    obtain ⟨z0, hzs⟩ := LatW.start V
    rw [← hzs]
    clear hzs
    generalize w.heap.size = H at x0 x1 x2 y0 y1 y2 y3 ⊢
    refine (HSm.out.at_ _).mono ?_
    rintro e w9 ⟨rfl, z9, rfl⟩
    go_wp2_with (first | (go_at_call 9; refine (HAw.out.at_ _).mono ?_; rintro e w9 ⟨rfl, z8, rfl⟩))
    go_ret
    exact ⟨rfl, HEn.out _⟩
  | true =>
    by_cases h60 : m3 ≤ 60
    · have HJ1 := Lib.hid (HJ.out rfl h60)
      have h60z : ¬ (60 : Int) < (m3 : Int) := by omega
      by_cases hj1 : J = 1
      · have HD1 := Lib.hid (HD.out rfl hj1)
        have HL1 := Lib.hid (HL.out rfl h60 hj1)
        subst hj1
        clear HJ HD HL h60
        go_enter Try.func5, Try.ntmps5
        go_wp2_with fail
        rw [← HV1.out, ← HV.out]
        obtain ⟨z0, hzs⟩ := LatW.start V
        rw [← hzs]
        clear hzs
        generalize w.heap.size = H at x0 x1 x2 y0 y1 y2 y3 ⊢
        refine (HSm.out.at_ _).mono ?_
        rintro e w9 ⟨rfl, z9, rfl⟩
        go_wp2_with (first | (go_at_call 10; refine (HJ1.out.at_ _).mono ?_; rintro e w9 ⟨rfl, z8, rfl⟩))
        refine (HD1.out _).mono ?_
        rintro e w5 ⟨r, hr, rfl, hA, hb5⟩
        have HB5 : Hid (Below V.heap.size V w5) := Lib.hid (z8.bel.trans (hb5.mono z8.bel.size))
        obtain ⟨V2, hV2⟩ : ∃ V2, V2 = w5.alloc (.cells #[.slice r.A r.sets.length r.c, .slice r.A2 r.opn.length r.c2, .int .i64 r.frm, .int .i64 r.to_] 27 (0, 0)) := ⟨_, rfl⟩
        have hb6 : Below w5.heap.size w5 V2 := by rw [hV2]; exact below_one _ _
        have HB6 : Hid (Below V.heap.size V V2) := Lib.hid (HB5.out.trans (hb6.mono HB5.out.size))
        have HR6 : Hid (Four V2 w5.heap.size (.slice r.A r.sets.length r.c) (.slice r.A2 r.opn.length r.c2) (.int .i64 r.frm) (.int .i64 r.to_) 27) := Lib.hid (by rw [hV2]; exact Four.new _ _ _ _ _ _)
        have hA6 := hA.next hb6
        have HL2 : Hid (∀ z : LatW V2, Calls Try.prog 10 #[.agg #[.int .i64 t, .int .i64 y, .bool hd], .agg #[.slice r.A r.sets.length r.c, .slice r.A2 r.opn.length r.c2, .int .i64 r.frm, .int .i64 r.to_], .slice A3 m3 c3] z.wd (fun e w' => e = .returned (.int .i64 1) ∧ Below z.wd.heap.size z.wd w') ∧ Calls Try.prog 10 #[.agg #[.int .i64 t, .int .i64 y, .bool hd], .agg #[.slice r.A r.sets.length r.c, .slice r.A2 r.opn.length r.c2, .int .i64 r.frm, .int .i64 r.to_], .slice none 0 0] z.wd (fun e w' => e = .returned (.int .i64 1) ∧ Below z.wd.heap.size z.wd w')) := Lib.hid (fun z => HL1.out z.wd r (HB6.out.trans (z.bel.mono HB6.out.size)) hr (hA6.next z.bel))
        have HL3 : Hid (LatCalls Try.prog V2 10 #[.agg #[.int .i64 t, .int .i64 y, .bool hd], .agg #[.slice r.A r.sets.length r.c, .slice r.A2 r.opn.length r.c2, .int .i64 r.frm, .int .i64 r.to_], .slice A3 m3 c3] (.int .i64 1)) := Lib.hid (LatCalls.of fun z => (HL2.out z).1)
        have HL4 : Hid (LatCalls Try.prog V2 10 #[.agg #[.int .i64 t, .int .i64 y, .bool hd], .agg #[.slice r.A r.sets.length r.c, .slice r.A2 r.opn.length r.c2, .int .i64 r.frm, .int .i64 r.to_], .slice none 0 0] (.int .i64 1)) := Lib.hid (LatCalls.of fun z => (HL2.out z).2)
        have HAw2 : Hid (LatCalls Try.prog V2 9 #[] (.bool true)) := Lib.hid (LatCalls.of fun z => awake13_any z.wd)
        have HEn2 : Hid (∀ z : LatW V2, Below w.heap.size w z.wd) := Lib.hid (fun z => HEn.out ⟨z.wd, HB6.out.trans (z.bel.mono HB6.out.size)⟩)
        have u0 := fun z : LatW V2 => x0 ⟨z.wd, HB6.out.trans (z.bel.mono HB6.out.size)⟩
        have u1 := fun z : LatW V2 => x1 ⟨z.wd, HB6.out.trans (z.bel.mono HB6.out.size)⟩
        have u2 := fun z : LatW V2 => x2 ⟨z.wd, HB6.out.trans (z.bel.mono HB6.out.size)⟩
        have v0 := fun z : LatW V2 => (HR6.out.lat z).c0
        have v1 := fun z : LatW V2 => (HR6.out.lat z).c1
        have v2 := fun z : LatW V2 => (HR6.out.lat z).c2
        have v3 := fun z : LatW V2 => (HR6.out.lat z).c3
        simp only at u0 u1 u2
        have a0 := u0 ⟨V2, Below.refl _ _⟩
        have a1 := u1 ⟨V2, Below.refl _ _⟩
        have a2 := u2 ⟨V2, Below.refl _ _⟩
        simp only at a0 a1 a2
        rw [hV2] at a0 a1 a2
        have HV2 := Lib.hid hV2
        clear hA6 hb6 hA hb5 hr hV2 HL2 HL1 HD1 HB5 HJ1 HSm HAw y0 y1 y2 y3 x0 x1 x2
        unfold QuV.val
        go_wp2_with fail
        rw [← HV2.out]
        obtain ⟨z5, hz5⟩ := LatW.start V2
        rw [← hz5]
        clear hz5 HV2 a0 a1 a2
        refine (HL3.out.at_ _).mono ?_
        rintro e w9 ⟨rfl, z6, rfl⟩
        go_wp2_with (first | (go_at_call 10; refine (HL4.out.at_ _).mono ?_; rintro e w9 ⟨rfl, z7, rfl⟩) | (go_at_call 9; refine (HAw2.out.at_ _).mono ?_; rintro e w9 ⟨rfl, z4, rfl⟩))
        go_ret
        exact ⟨rfl, HEn2.out _⟩
      · have hj1b : (J == 1) = false := by rw [beq_eq_false_iff_ne]; exact hj1
        have hj1c : (J != 1) = true := by rw [bne_iff_ne]; exact hj1
        clear HJ HD HL h60 hj1
        go_enter Try.func5, Try.ntmps5
        go_wp2_with fail
        rw [← HV1.out, ← HV.out]
        obtain ⟨z0, hzs⟩ := LatW.start V
        rw [← hzs]
        clear hzs
        generalize w.heap.size = H at x0 x1 x2 y0 y1 y2 y3 ⊢
        refine (HSm.out.at_ _).mono ?_
        rintro e w9 ⟨rfl, z9, rfl⟩
        go_wp2_with (first | (go_at_call 10; refine (HJ1.out.at_ _).mono ?_; rintro e w9 ⟨rfl, z8, rfl⟩) | (go_at_call 9; refine (HAw.out.at_ _).mono ?_; rintro e w9 ⟨rfl, z8, rfl⟩))
        go_ret
        exact ⟨rfl, HEn.out _⟩
    · have h60z : (60 : Int) < (m3 : Int) := by omega
      clear HJ HD HL h60
      go_enter Try.func5, Try.ntmps5
      go_wp2_with fail
      rw [← HV1.out, ← HV.out]
      obtain ⟨z0, hzs⟩ := LatW.start V
      rw [← hzs]
      clear hzs
      generalize w.heap.size = H at x0 x1 x2 y0 y1 y2 y3 ⊢
      refine (HSm.out.at_ _).mono ?_
      rintro e w9 ⟨rfl, z9, rfl⟩
      go_wp2_with (first | (go_at_call 9; refine (HAw.out.at_ _).mono ?_; rintro e w9 ⟨rfl, z8, rfl⟩))
      go_ret
      exact ⟨rfl, HEn.out _⟩
end Go.Proofs.Ythajgoigmkkbgaa
