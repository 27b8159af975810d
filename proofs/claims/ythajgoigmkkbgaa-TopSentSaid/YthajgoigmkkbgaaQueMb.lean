/- Queues: contracts of writes and All, of the document's Joined and Tail. Queues: contracts of All, Tail and Load. Queues: the fixed answer. Queues, the document's answer: contracts of fits, folded, Small, Right and Tail. Queues: contract of the document's Equal at equal queues. Queues: contracts of slices.Clone of sets and of Cut. Queues: contracts of the test of Done, of slices.IndexFunc and slices.DeleteFunc of sets. Queues: contract of Done. Queues: how great they are behind calls; a box that is kept. -/
import Derived.Test.YthajgoigmkkbgaaQueMa
namespace Go.Proofs.Ythajgoigmkkbgaa
open Go.Shelf Go.RowKit Go.Lib Go.Sort

def joinS (l : List SetV) : List Wr := (plainS l).flatMap (·.ws)
theorem joinS_take {l : List SetV} {k : Nat} (hk : k < l.length) : joinS (l.take (k + 1)) = joinS (l.take k) ++ l[k].ws := by
  unfold joinS
  rw [List.take_succ_eq_append_getElem hk, plainS_append, List.flatMap_append]
  simp [plainS, SetV.set]
theorem joinS_le (l : List SetV) (k : Nat) : (joinS (l.take k)).length ≤ (joinS l).length := by
  have e : joinS l = joinS (l.take k) ++ joinS (l.drop k) := by
    unfold joinS; rw [← List.flatMap_append, ← plainS_append, List.take_append_drop]
  rw [e, List.length_append]; omega
theorem joinS_all (l : List SetV) : joinS (l.take l.length) = joinS l := by rw [List.take_length]
theorem quJoined_is (q : QuV) : quJoined q.qu = joinS q.sets ++ q.opn := rfl

set_option maxHeartbeats 8000000 in
set_option maxRecDepth 100000 in
theorem Qwrites_any {w : World} {q : QuV} (h : QuAt w w.heap.size q) (hs : q.sets.length ≤ 9223372036854775807) (hj : (joinS q.sets).length + q.opn.length ≤ 4000) :
    Calls Try.prog 42 #[q.val] w (WrsEnd (quJoined q.qu) w) := by
  rw [quJoined_is]
  obtain ⟨A, c, l, A2, c2, ws, f, t⟩ := q
  show Calls _ _ #[.agg #[.slice A l.length c, .slice A2 ws.length c2, .int .i64 f, .int .i64 t]] w _
  simp only at hs hj ⊢
  have HBV := Lib.hid (below_one w (.cells #[.slice A l.length c, .slice A2 ws.length c2, .int .i64 f, .int .i64 t] 27 (0, 0)))
  have HX := Lib.hid (Four.new w (.slice A l.length c) (.slice A2 ws.length c2) (.int .i64 f) (.int .i64 t) 27)
  have HS := Lib.hid (fun z => (h.lat HBV.out z).sets)
  have HO := Lib.hid (fun z => (h.lat HBV.out z).opn)
  have HNil2 := Lib.hid h.nil2
  simp only at HNil2
  obtain ⟨i0, hi0, hz0, hz1, hz2⟩ := info_parts Try.infoWr
  obtain ⟨n, hn⟩ : ∃ n, l.length = n := ⟨_, rfl⟩
  have HN := Lib.hid hn
  have HJl := Lib.hid (joinS_le l)
  rw [hn] at HBV HX HS HO hs ⊢
  clear h hn
  go_enter Try.func42, Try.ntmps42
  go_wp2_with fail
  generalize w.alloc (.cells #[.slice A n c, .slice A2 ws.length c2, .int .i64 f, .int .i64 t] 27) = V at HBV HX HS HO ⊢
  have x0 := fun z : LatW V => (HX.out.lat z).c0
  have x1 := fun z : LatW V => (HX.out.lat z).c1
  have HEnd : Hid (∀ z : LatW V, Below w.heap.size w z.wd) := Lib.hid (fun z => lat_end HBV.out z)
  clear HBV
  generalize w.heap.size = H at x0 x1 ⊢
  obtain ⟨z0, hzs⟩ := LatW.start V
  rw [← hzs]
  clear hzs
  go_loopg [3, 9] n (fun kx s3 s9 wr => ∃ k m : Nat, s9 = .int .i64 k ∧ k ≤ n ∧ n - k ≤ kx ∧ Hid ((joinS (l.take k)).length = m) ∧ Hid (wr.ownsRow V.heap.size 74 3 s3 m (wrCells (joinS (l.take k)))) ∧ Hid (∃ z : LatW V, wr = z.wd))
  case atStart => exact ⟨0, 0, rfl, Nat.zero_le _, by omega, Lib.hid rfl, Lib.hid (World.ownsRow_nil _ _ _ _), Lib.hid ⟨_, rfl⟩⟩
  case round =>
    obtain ⟨k, m, rfl, hk, hkx, HM, HO3, HZ⟩ := hrel
    obtain ⟨z, rfl⟩ := HZ.out
    clear HZ
    obtain ⟨A4, c4, h4, -⟩ := own_lies HO3.out
    subst h4
    have HMl : m ≤ (joinS l).length := by have := HJl.out k; have := HM.out; omega
    have hVz : V.heap.size ≤ z.wd.heap.size := z.bel.size
    by_cases hlt : k < n
    · have hltz : (k : Int) < (n : Int) := by omega
      have hkl : k < l.length := by rw [HN.out]; exact hlt
      obtain ⟨b, off, hA, hbl, y1, y2, y3, y4, y5⟩ := (HS.out z).at_ (Below.refl _ _) hkl
      have HT := Lib.hid (joinS_take hkl)
      have HJk := Lib.hid (HJl.out (k + 1))
      rw [HT.out, List.length_append, HM.out] at HJk
      obtain ⟨x, hx⟩ : ∃ x, l[k] = x := ⟨_, rfl⟩
      rw [hx] at y1 y2 y3 y4 y5 HT HJk
      clear hx hkl
      obtain ⟨xf, xt, xw, xa, xc⟩ := x
      simp only at y1 y2 y3 y4 y5 HT HJk
      have HY := Lib.hid y4
      have HY5 := Lib.hid y5
      try simp only at hA
      subst hA
      have hjk := HJk.out
      have HOa := Lib.hid (HO3.out.alloc (.cells #[.int .i64 xf, .int .i64 xt, .slice xa xw.length xc] 42 (0, 0)))
      have HYa := Lib.hid (HY.out.next (below_one z.wd (.cells #[.int .i64 xf, .int .i64 xt, .slice xa xw.length xc] 42 (0, 0))))
      have HBa := Lib.hid (z.bel.alloc hVz (.cells #[.int .i64 xf, .int .i64 xt, .slice xa xw.length xc] 42 (0, 0)))
      have hza : V.heap.size ≤ (z.wd.alloc (.cells #[.int .i64 xf, .int .i64 xt, .slice xa xw.length xc] 42 (0, 0))).heap.size := HBa.out.size
      clear y4 y5 HJk
      go_wp2_with (at_builtin; refine wpList_append_rows rfl (.tmp 13) (.tmp 15) 25 rfl V.heap.size 74 i0 (.agg #[.int .i64 0, .int .i64 0, .string ByteArray.empty]) 3 32 Try.underlying25 hi0 hz0 hz1 hz2 rfl (by decide) (.slice A4 m c4) m (wrCells (joinS (l.take k))) rfl HOa.out xa xw.length xc (wrCells xw) rfl (wrCells_length _) _ HYa.out.lies HY5.out (wrCells_one _) ?c1 ?c2 hza ?_)
      case c1 => unfold maxLen; omega
      case c2 => omega
      intro v5 w5 ho5 hg5
      have HB5 : Hid (Below V.heap.size V w5) := Lib.hid (HBa.out.grown hg5 hza (fun q hq => (HOa.out.lt q hq).1))
      have HO5 : Hid (w5.ownsRow V.heap.size 74 3 v5 (m + xw.length) (wrCells (joinS (l.take (k + 1))))) := Lib.hid (by rw [HT.out, wrCells_append]; exact ho5)
      clear ho5 hg5
      go_wp2_with fail
      go_roundg (n - (k + 1))
      case measure => omega
      case rel => exact ⟨k + 1, m + xw.length, by go_num, by omega, Nat.le_refl _, Lib.hid (by rw [HT.out, List.length_append, HM.out]), HO5, Lib.hid ⟨⟨w5, HB5.out⟩, rfl⟩⟩
    · have hltz : ¬ (k : Int) < (n : Int) := by omega
      have hkn : k = l.length := by rw [HN.out]; omega
      have HA2 : Hid (joinS (l.take k) = joinS l) := Lib.hid (by rw [hkn]; exact joinS_all l)
      clear hkn
      go_wp2_with (at_builtin; refine wpList_append_rows rfl (.tmp 18) (.tmp 20) 25 rfl V.heap.size 74 i0 (.agg #[.int .i64 0, .int .i64 0, .string ByteArray.empty]) 3 32 Try.underlying25 hi0 hz0 hz1 hz2 rfl (by decide) (.slice A4 m c4) m (wrCells (joinS (l.take k))) rfl HO3.out A2 ws.length c2 (wrCells ws) rfl (wrCells_length _) _ (HO.out z).lies HNil2.out (wrCells_one _) ?c1 ?c2 hVz ?_)
      case c1 => unfold maxLen; omega
      case c2 => omega
      intro v5 w5 ho5 hg5
      have HB5 : Hid (Below V.heap.size V w5) := Lib.hid (z.bel.grown hg5 hVz (fun q hq => (HO3.out.lt q hq).1))
      have HEE : Hid (WrsEnd (joinS l ++ ws) w (.returned v5) w5) := Lib.hid (by
        refine own_end (t := 74) (base := V.heap.size) ?_ (HEnd.out ⟨w5, HB5.out⟩)
        rw [wrCells_append, List.length_append, ← HA2.out, HM.out]; exact ho5)
      clear ho5 hg5
      go_wp2_with fail
      go_ret
      exact HEE.out
set_option maxHeartbeats 8000000 in
set_option maxRecDepth 100000 in
theorem QJoined_any {w : World} {q : QuV} (h : QuAt w w.heap.size q) (hs : q.sets.length ≤ 9223372036854775807) (hj : (joinS q.sets).length + q.opn.length ≤ 4000) :
    Calls Try.prog 34 #[q.val] w (WrsEnd (quJoined q.qu) w) := by
  rw [quJoined_is]
  obtain ⟨A, c, l, A2, c2, ws, f, t⟩ := q
  show Calls _ _ #[.agg #[.slice A l.length c, .slice A2 ws.length c2, .int .i64 f, .int .i64 t]] w _
  simp only at hs hj ⊢
  have HBV := Lib.hid (below_one w (.cells #[.slice A l.length c, .slice A2 ws.length c2, .int .i64 f, .int .i64 t] 27 (0, 0)))
  have HX := Lib.hid (Four.new w (.slice A l.length c) (.slice A2 ws.length c2) (.int .i64 f) (.int .i64 t) 27)
  have HS := Lib.hid (fun z => (h.lat HBV.out z).sets)
  have HO := Lib.hid (fun z => (h.lat HBV.out z).opn)
  have HNil2 := Lib.hid h.nil2
  simp only at HNil2
  obtain ⟨i0, hi0, hz0, hz1, hz2⟩ := info_parts Try.infoWr
  obtain ⟨n, hn⟩ : ∃ n, l.length = n := ⟨_, rfl⟩
  have HN := Lib.hid hn
  have HJl := Lib.hid (joinS_le l)
  rw [hn] at HBV HX HS HO hs ⊢
  clear h hn
  go_enter Try.func34, Try.ntmps34
  go_wp2_with fail
  generalize w.alloc (.cells #[.slice A n c, .slice A2 ws.length c2, .int .i64 f, .int .i64 t] 27) = V at HBV HX HS HO ⊢
  have x0 := fun z : LatW V => (HX.out.lat z).c0
  have x1 := fun z : LatW V => (HX.out.lat z).c1
  have HEnd : Hid (∀ z : LatW V, Below w.heap.size w z.wd) := Lib.hid (fun z => lat_end HBV.out z)
  clear HBV
  generalize w.heap.size = H at x0 x1 ⊢
  obtain ⟨z0, hzs⟩ := LatW.start V
  rw [← hzs]
  clear hzs
  go_loopg [3, 4] n (fun kx s3 s4 wr => ∃ k m : Nat, s4 = .int .i64 k ∧ k ≤ n ∧ n - k ≤ kx ∧ Hid ((joinS (l.take k)).length = m) ∧ Hid (wr.ownsRow V.heap.size 74 3 s3 m (wrCells (joinS (l.take k)))) ∧ Hid (∃ z : LatW V, wr = z.wd))
  case atStart => exact ⟨0, 0, rfl, Nat.zero_le _, by omega, Lib.hid rfl, Lib.hid (World.ownsRow_nil _ _ _ _), Lib.hid ⟨_, rfl⟩⟩
  case round =>
    obtain ⟨k, m, rfl, hk, hkx, HM, HO3, HZ⟩ := hrel
    obtain ⟨z, rfl⟩ := HZ.out
    clear HZ
    obtain ⟨A4, c4, h4, -⟩ := own_lies HO3.out
    subst h4
    have HMl : m ≤ (joinS l).length := by have := HJl.out k; have := HM.out; omega
    have hVz : V.heap.size ≤ z.wd.heap.size := z.bel.size
    by_cases hlt : k < n
    · have hltz : (k : Int) < (n : Int) := by omega
      have hkl : k < l.length := by rw [HN.out]; exact hlt
      obtain ⟨b, off, hA, hbl, y1, y2, y3, y4, y5⟩ := (HS.out z).at_ (Below.refl _ _) hkl
      have HT := Lib.hid (joinS_take hkl)
      have HJk := Lib.hid (HJl.out (k + 1))
      rw [HT.out, List.length_append, HM.out] at HJk
      obtain ⟨x, hx⟩ : ∃ x, l[k] = x := ⟨_, rfl⟩
      rw [hx] at y1 y2 y3 y4 y5 HT HJk
      clear hx hkl
      obtain ⟨xf, xt, xw, xa, xc⟩ := x
      simp only at y1 y2 y3 y4 y5 HT HJk
      have HY := Lib.hid y4
      have HY5 := Lib.hid y5
      try simp only at hA
      subst hA
      have hjk := HJk.out
      clear y4 y5 HJk
      go_wp2_with (at_builtin; refine wpList_append_rows rfl (.tmp 12) (.tmp 18) 25 rfl V.heap.size 74 i0 (.agg #[.int .i64 0, .int .i64 0, .string ByteArray.empty]) 3 32 Try.underlying25 hi0 hz0 hz1 hz2 rfl (by decide) (.slice A4 m c4) m (wrCells (joinS (l.take k))) rfl HO3.out xa xw.length xc (wrCells xw) rfl (wrCells_length _) _ HY.out.lies HY5.out (wrCells_one _) ?c1 ?c2 hVz ?_)
      case c1 => unfold maxLen; omega
      case c2 => omega
      intro v5 w5 ho5 hg5
      have HB5 : Hid (Below V.heap.size V w5) := Lib.hid (z.bel.grown hg5 hVz (fun q hq => (HO3.out.lt q hq).1))
      have HO5 : Hid (w5.ownsRow V.heap.size 74 3 v5 (m + xw.length) (wrCells (joinS (l.take (k + 1))))) := Lib.hid (by rw [HT.out, wrCells_append]; exact ho5)
      clear ho5 hg5
      go_wp2_with fail
      go_roundg (n - (k + 1))
      case measure => omega
      case rel => exact ⟨k + 1, m + xw.length, by go_num, by omega, Nat.le_refl _, Lib.hid (by rw [HT.out, List.length_append, HM.out]), HO5, Lib.hid ⟨⟨w5, HB5.out⟩, rfl⟩⟩
    · have hltz : ¬ (k : Int) < (n : Int) := by omega
      have hkn : k = l.length := by rw [HN.out]; omega
      have HA2 : Hid (joinS (l.take k) = joinS l) := Lib.hid (by rw [hkn]; exact joinS_all l)
      clear hkn
      go_wp2_with (at_builtin; refine wpList_append_rows rfl (.tmp 20) (.tmp 22) 25 rfl V.heap.size 74 i0 (.agg #[.int .i64 0, .int .i64 0, .string ByteArray.empty]) 3 32 Try.underlying25 hi0 hz0 hz1 hz2 rfl (by decide) (.slice A4 m c4) m (wrCells (joinS (l.take k))) rfl HO3.out A2 ws.length c2 (wrCells ws) rfl (wrCells_length _) _ (HO.out z).lies HNil2.out (wrCells_one _) ?c1 ?c2 hVz ?_)
      case c1 => unfold maxLen; omega
      case c2 => omega
      intro v5 w5 ho5 hg5
      have HB5 : Hid (Below V.heap.size V w5) := Lib.hid (z.bel.grown hg5 hVz (fun q hq => (HO3.out.lt q hq).1))
      have HEE : Hid (WrsEnd (joinS l ++ ws) w (.returned v5) w5) := Lib.hid (by
        refine own_end (t := 74) (base := V.heap.size) ?_ (HEnd.out ⟨w5, HB5.out⟩)
        rw [wrCells_append, List.length_append, ← HA2.out, HM.out]; exact ho5)
      clear ho5 hg5
      go_wp2_with fail
      go_ret
      exact HEE.out

set_option maxRecDepth 100000 in
theorem DTail_any {w : World} {q : QuV} (h : QuAt w w.heap.size q) : Calls Try.prog 31 #[q.val] w fun e w' => e = .returned (.int .i64 (quTail q.qu)) ∧ Below w.heap.size w w' := by
  obtain ⟨A, c, l, A2, c2, ws, f, t⟩ := q
  have HBV := Lib.hid (below_one w (.cells #[.slice A l.length c, .slice A2 ws.length c2, .int .i64 f, .int .i64 t] 27 (0, 0)))
  show Calls _ _ #[.agg #[.slice A l.length c, .slice A2 ws.length c2, .int .i64 f, .int .i64 t]] w _
  cases l with
  | nil =>
    rw [show quTail (QuV.qu ⟨A, c, [], A2, c2, ws, f, t⟩) = f from rfl]
    go_enter Try.func31, Try.ntmps31
    go_wp2_with fail
    go_ret
    exact ⟨rfl, HBV.out⟩
  | cons x l =>
    rw [show quTail (QuV.qu ⟨A, c, x :: l, A2, c2, ws, f, t⟩) = x.frm from rfl]
    obtain ⟨b, off, hA, hlt, x1, -⟩ := h.sets.at_ HBV.out (i := 0) (by simp)
    simp only [Nat.zero_mul, Nat.add_zero, List.getElem_cons_zero] at x1 hA
    subst hA
    obtain ⟨n, hn⟩ : ∃ n, (x :: l).length = n + 1 := ⟨l.length, rfl⟩
    rw [hn] at x1 HBV ⊢
    have hz : ((n : Int) + 1 == 0) = false := by rw [beq_eq_false_iff_ne]; omega
    have hp : (0 : Int) < (n : Int) + 1 := by omega
    clear h hn hlt
    go_enter Try.func31, Try.ntmps31
    go_wp2_with fail
    go_ret
    exact ⟨rfl, HBV.out⟩

noncomputable def qAll (q : Qu) : List Wr := if quRight q = true then quAll q else []
noncomputable def qTail (q : Qu) : Int := if quRight q = true then quTail q else 0
noncomputable def qLoadN (q : Qu) : Int := if quRight q = true then q.to_ - quTail q else 0
noncomputable def qLoadB (q : Qu) : Int := if quRight q = true then bytesW (quJoined q) else 0
end Go.Proofs.Ythajgoigmkkbgaa

namespace Go.Proofs.Ythajgoigmkkbgaa
open Go.Shelf Go.RowKit Go.Lib Go.Sort

/-- A queue in a box, its world: what the calls at its value answer there. -/
theorem boxed {w : World} {q : QuV} (h : QuAt w w.heap.size q) : ∃ V : World, V = w.alloc (.cells #[.slice q.A q.sets.length q.c, .slice q.A2 q.opn.length q.c2, .int .i64 q.frm, .int .i64 q.to_] 27 (0, 0)) ∧ Below w.heap.size w V ∧ Four V w.heap.size (.slice q.A q.sets.length q.c) (.slice q.A2 q.opn.length q.c2) (.int .i64 q.frm) (.int .i64 q.to_) 27 ∧ ∀ z : LatW V, QuAt z.wd z.wd.heap.size q :=
  ⟨_, rfl, below_one _ _, Four.new _ _ _ _ _ _, fun z => h.lat (below_one _ _) z⟩

set_option maxHeartbeats 4000000 in
set_option maxRecDepth 100000 in
theorem QAll_any {w : World} {q : QuV} (h : QuAt w w.heap.size q) (hf : QuFine q) (hj : (joinS q.sets).length + q.opn.length ≤ 4000) : Calls Try.prog 24 #[q.val] w (WrsEnd (qAll q.qu) w) := by
  obtain ⟨V, hV, hb, hX, hQ⟩ := boxed h
  have HV := Lib.hid hV
  have HBV := Lib.hid hb
  have HX := Lib.hid hX
  have HR : Hid (LatCalls Try.prog V 19 #[q.val] (.bool (quRight q.qu))) := Lib.hid (LatCalls.of fun z => QRight_any (hQ z) hf.sets hf.each hf.opn)
  have HT := Lib.hid (fun z : LatW V => Qwrites_any (hQ z) hf.sets hj)
  have HFo : Hid (∀ (z : LatW V) (A9 : Option Addr) (c9 : Nat), WrsAt z.wd z.wd.heap.size A9 (quJoined q.qu) → Calls Try.prog 52 #[.slice A9 (quJoined q.qu).length c9] z.wd (WrsEnd (quAll q.qu) z.wd)) := Lib.hid (fun z A9 c9 h9 => Fold_any h9 (by rw [quJoined_is, List.length_append]; exact hj))
  have HE1 : Hid (quRight q.qu = true → qAll q.qu = quAll q.qu) := Lib.hid (fun e => by unfold qAll; rw [if_pos e])
  have HE2 : Hid (quRight q.qu = false → qAll q.qu = []) := Lib.hid (fun e => by unfold qAll; rw [if_neg (by rw [e]; simp)])
  clear hV hb hX hQ h hf hj
  unfold QuV.val at HR HT ⊢
  generalize quRight q.qu = R at HR HE1 HE2
  generalize quJoined q.qu = J at HT HFo
  generalize quAll q.qu = T at HFo HE1
  generalize qAll q.qu = T9 at HE1 HE2 ⊢
  generalize q.sets.length = n at HV HX HR HT ⊢
  generalize q.opn.length = m at HV HX HR HT ⊢
  obtain ⟨A, c, l, A2, c2, ws, f, t⟩ := q
  simp only at HV HX HR HT ⊢
  have x0 := fun z : LatW V => (HX.out.lat z).c0
  have x1 := fun z : LatW V => (HX.out.lat z).c1
  have x2 := fun z : LatW V => (HX.out.lat z).c2
  have x3 := fun z : LatW V => (HX.out.lat z).c3
  cases R with
  | false =>
    rw [HE2.out rfl]
    go_enter Try.func24, Try.ntmps24
    go_wp2_with fail
    rw [← HV.out]
    obtain ⟨z0, hzs⟩ := LatW.start V
    rw [← hzs]
    clear hzs
    go_wp2_with (first | (go_at_call 19; refine (HR.out.at_ _).mono ?_; rintro e w9 ⟨rfl, z9, rfl⟩))
    go_ret
    exact ⟨none, 0, rfl, .inl rfl, fun _ => rfl, lat_end HBV.out _⟩
  | true =>
    rw [HE1.out rfl]
    go_enter Try.func24, Try.ntmps24
    go_wp2_with fail
    rw [← HV.out]
    obtain ⟨z0, hzs⟩ := LatW.start V
    rw [← hzs]
    clear hzs
    go_wp2_with (first | (go_at_call 19; refine (HR.out.at_ _).mono ?_; rintro e w9 ⟨rfl, z9, rfl⟩) | (go_at_call 42; refine (HT.out _).mono ?_; rintro e w9 ⟨A5, c5, rfl, h5, _, hb5⟩; replace h5 := Lib.hid h5; obtain ⟨z5, hz5⟩ := LatW.later _ hb5; subst hz5; clear hb5) | (go_at_call 52; refine (HFo.out _ _ _ h5.out).mono ?_; rintro e w9 ⟨A6, c6, rfl, h6, n6, hb6⟩; have HEE := Lib.hid (show WrsEnd T w (.returned (.slice A6 T.length c6)) w9 from ⟨A6, c6, rfl, h6, n6, (lat_end HBV.out _).trans (hb6.mono (lat_end HBV.out _).size)⟩); clear h6 n6 hb6))
    go_ret
    exact HEE.out

set_option maxHeartbeats 8000000 in
set_option maxRecDepth 100000 in
theorem QLoad_any {w : World} {q : QuV} (h : QuAt w w.heap.size q) (hf : QuFine q) (hj : (joinS q.sets).length + q.opn.length ≤ 4000) (hby : bytesW (quJoined q.qu) ≤ 4611686018427387904) : Calls Try.prog 18 #[q.val] w fun e w' => e = .returned (.tuple #[.int .i64 (qLoadN q.qu), .int .i64 (qLoadB q.qu)]) ∧ Below w.heap.size w w' := by
  obtain ⟨V, hV, hb, hX, hQ⟩ := boxed h
  have HV := Lib.hid hV
  have HBV := Lib.hid hb
  have HX := Lib.hid hX
  have HR : Hid (LatCalls Try.prog V 19 #[q.val] (.bool (quRight q.qu))) := Lib.hid (LatCalls.of fun z => QRight_any (hQ z) hf.sets hf.each hf.opn)
  have HTa := Lib.hid (fun z : LatW V => tail_any (hQ z))
  have HT := Lib.hid (fun z : LatW V => Qwrites_any (hQ z) hf.sets hj)
  have HBy : Hid (∀ (z : LatW V) (A9 : Option Addr) (c9 : Nat), WrsAt z.wd z.wd.heap.size A9 (quJoined q.qu) → Calls Try.prog 41 #[.slice A9 (quJoined q.qu).length c9] z.wd fun e w' => e = .returned (.int .i64 (bytesW (quJoined q.qu))) ∧ Below z.wd.heap.size z.wd w') := Lib.hid (fun z A9 c9 h9 => Bytes_any h9 (by rw [quJoined_is, List.length_append]; omega) hby)
  have HE1 : Hid (quRight q.qu = true → qLoadN q.qu = q.to_ - quTail q.qu ∧ qLoadB q.qu = bytesW (quJoined q.qu) ∧ (0 ≤ quTail q.qu ∧ quTail q.qu ≤ q.to_ ∧ q.to_ ≤ 1099511627776)) := Lib.hid (fun e => ⟨by unfold qLoadN; rw [if_pos e]; rfl, by unfold qLoadB; rw [if_pos e], ((quRight_code _).1 e).1, waits_ok ((quRight_iff _).1 e), ((quRight_code _).1 e).2.2.1⟩)
  have HE2 : Hid (quRight q.qu = false → qLoadN q.qu = 0 ∧ qLoadB q.qu = 0) := Lib.hid (fun e => ⟨by unfold qLoadN; rw [if_neg (by rw [e]; simp)], by unfold qLoadB; rw [if_neg (by rw [e]; simp)]⟩)
  clear hV hb hX hQ h hf hj hby
  unfold QuV.val at HR HT HTa ⊢
  generalize quRight q.qu = R at HR HE1 HE2
  generalize bytesW (quJoined q.qu) = Y at HBy HE1
  generalize quJoined q.qu = J at HT HBy
  generalize quTail q.qu = T at HTa HE1
  generalize qLoadN q.qu = L1 at HE1 HE2 ⊢
  generalize qLoadB q.qu = L2 at HE1 HE2 ⊢
  generalize q.sets.length = n at HV HX HR HT HTa ⊢
  generalize q.opn.length = m at HV HX HR HT HTa ⊢
  obtain ⟨A, c, l, A2, c2, ws, f, t⟩ := q
  simp only at HV HX HR HT HTa HE1 ⊢
  have x0 := fun z : LatW V => (HX.out.lat z).c0
  have x1 := fun z : LatW V => (HX.out.lat z).c1
  have x2 := fun z : LatW V => (HX.out.lat z).c2
  have x3 := fun z : LatW V => (HX.out.lat z).c3
  cases R with
  | false =>
    rw [(HE2.out rfl).1, (HE2.out rfl).2]
    go_enter Try.func18, Try.ntmps18
    go_wp2_with fail
    rw [← HV.out]
    obtain ⟨z0, hzs⟩ := LatW.start V
    rw [← hzs]
    clear hzs
    go_wp2_with (first | (go_at_call 19; refine (HR.out.at_ _).mono ?_; rintro e w9 ⟨rfl, z9, rfl⟩))
    go_ret2
    exact ⟨rfl, lat_end HBV.out _⟩
  | true =>
    obtain ⟨e1, e2, e3⟩ := HE1.out rfl
    rw [e1, e2]
    have hw : IntKind.i64.wrap (t - T) = t - T := by rw [IntKind.wrap_i64]; omega
    clear e1 e2 e3 HE1 HE2
    go_enter Try.func18, Try.ntmps18
    go_wp2_with fail
    rw [← HV.out]
    obtain ⟨z0, hzs⟩ := LatW.start V
    rw [← hzs]
    clear hzs
    go_wp2_with (first | (go_at_call 19; refine (HR.out.at_ _).mono ?_; rintro e w9 ⟨rfl, z9, rfl⟩))
    have HEnd : Hid (∀ z : LatW V, Below w.heap.size w z.wd) := Lib.hid (fun z => lat_end HBV.out z)
    generalize w.heap.size = H at x0 x1 x2 x3 ⊢
    have H5 := Lib.hid trivial
    obtain ⟨zd, hzd⟩ := LatW.drawn z9
    go_region_held3 (fun w' => w'.cell? ⟨H, 0, none⟩ = some (.slice A n c) ∧ w'.cell? ⟨H, 1, none⟩ = some (.slice A2 m c2) ∧ w'.cell? ⟨H, 2, none⟩ = some (.int .i64 f) ∧ w'.cell? ⟨H, 3, none⟩ = some (.int .i64 t)) (first | exact ⟨x0 _, x1 _, x2 _, x3 _⟩ | (rw [hzd]; exact ⟨x0 _, x1 _, x2 _, x3 _⟩)) (first | (go_at_call 40; (try rw [hzd]); refine (HTa.out _).mono ?_; rintro e w9 ⟨rfl, hb9⟩; (try replace H5 := Lib.hid (WrsAt.next H5.out hb9)); obtain ⟨z8, hz8⟩ := LatW.later _ hb9; subst hz8; clear hb9) | (go_at_call 42; (try rw [hzd]); refine (HT.out _).mono ?_; rintro e w9 ⟨A5, c5, rfl, h5, _, hb5⟩; replace H5 := Lib.hid h5; obtain ⟨z7, hz7⟩ := LatW.later _ hb5; subst hz7; clear hb5 h5) | (go_at_call 41; refine (HBy.out _ _ _ H5.out).mono ?_; rintro e w9 ⟨rfl, hb9⟩; obtain ⟨z6, hz6⟩ := LatW.later _ hb9; subst hz6; clear hb9))
    all_goals (go_wp2_with fail; go_ret2; exact ⟨rfl, HEnd.out _⟩)
end Go.Proofs.Ythajgoigmkkbgaa

namespace Go.Proofs.Ythajgoigmkkbgaa
open Go.Shelf Go.RowKit Go.Lib Go.Sort

def wakeX : Wr := ⟨1, 0, ⟨#[97]⟩⟩
theorem wakeQ_add : quAdd (quNew 3) [wakeX] = ⟨[], [wakeX], 3, 4⟩ := by
  unfold quAdd quNew
  simp [foldW, insW]
theorem wakeQ_ok0 : quRight (quNew 3) = true := (quRight_iff _).2 (new_ok (by rw [okN_iff]; omega))
theorem wakeQ_ok1 : quRight ⟨[], [wakeX], 3, 4⟩ = true := by
  rw [← wakeQ_add]
  exact (quRight_iff _).2 (add_ok (new_ok (by rw [okN_iff]; omega)) (by show (3 : Int) < 1099511627776; omega) _)
theorem wakeQ_bytes : bytesW (quJoined ⟨[], [wakeX], 3, 4⟩) = 9 := by decide
theorem wakeQ_load : qLoadN ⟨[], [wakeX], 3, 4⟩ = 1 ∧ qLoadB ⟨[], [wakeX], 3, 4⟩ = 9 := by
  refine ⟨?_, ?_⟩
  · unfold qLoadN; rw [if_pos wakeQ_ok1]; rfl
  · unfold qLoadB; rw [if_pos wakeQ_ok1, wakeQ_bytes]; rfl
theorem wakeQ_new : newQ 3 = quNew 3 ∧ newE 3 = 0 := by
  have : okN 3 = true := by rw [okN_iff]; omega
  exact ⟨by unfold newQ; rw [if_pos this], by unfold newE; rw [if_pos this]⟩
/-- A queue without sets. -/
theorem quv_bare {q : QuV} {ws : List Wr} {f t : Int} (h : q.qu = ⟨[], ws, f, t⟩) : ∃ A c A2 c2, q = ⟨A, c, [], A2, c2, ws, f, t⟩ := by
  obtain ⟨A, c, l, A2, c2, ws', f', t'⟩ := q
  simp only [QuV.qu, Qu.mk.injEq] at h
  obtain ⟨h1, rfl, rfl, rfl⟩ := h
  have : l = [] := by cases l with
    | nil => rfl
    | cons x l => simp [plainS] at h1
  subst this
  exact ⟨A, c, A2, c2, rfl⟩

end Go.Proofs.Ythajgoigmkkbgaa

namespace Go.Proofs.Ythajgoigmkkbgaa
open Go.Shelf Go.RowKit Go.Lib Go.Sort

theorem fits_any (n : Int) (w : World) : Calls Try.prog 54 #[.int .i64 n] w fun e w' => e = .returned (.bool (okN n)) ∧ w = w' := by
  by_cases h1 : 0 ≤ n
  · by_cases h2 : n ≤ 1099511627776
    · rw [show okN n = true from (okN_iff n).2 ⟨h1, h2⟩]
      have d2 : decide (n ≤ 1099511627776) = true := decide_eq_true h2
      go_enter Try.func54, Try.ntmps54
      go_wp2_with fail
      go_ret
      exact ⟨rfl, rfl⟩
    · rw [show okN n = false from by rw [Bool.eq_false_iff]; exact fun e => h2 ((okN_iff n).1 e).2]
      have d2 : decide (n ≤ 1099511627776) = false := decide_eq_false h2
      go_enter Try.func54, Try.ntmps54
      go_wp2_with fail
      go_ret
      exact ⟨rfl, rfl⟩
  · rw [show okN n = false from by rw [Bool.eq_false_iff]; exact fun e => h1 ((okN_iff n).1 e).1]
    have d1 : decide (0 ≤ n) = false := decide_eq_false h1
    go_enter Try.func54, Try.ntmps54
    go_wp2_with fail
    go_ret
    exact ⟨rfl, rfl⟩

set_option maxRecDepth 100000 in
theorem folded_any {w : World} {A : Option Addr} {c : Nat} {ws : List Wr} (h : WrsAt w w.heap.size A ws) (hn : ws.length ≤ 4000) :
    Calls Try.prog 55 #[.slice A ws.length c] w fun e w' => e = .returned (.bool (eqW ws (foldW ws))) ∧ Below w.heap.size w w' := by
  have H1 := Lib.hid h
  have hl : ws.length ≤ 9223372036854775807 := by omega
  go_enter Try.func55, Try.ntmps55
  go_wp2_with fail
  refine (RefFold_any H1.out hn).mono ?_
  rintro e w1 ⟨A3, c3, rfl, hA3, _, hb1⟩
  have H3 := Lib.hid hA3
  have HB1 := Lib.hid hb1
  clear hA3 hb1
  go_wp2_with fail
  refine (RefEqW_any (H1.out.next HB1.out) H3.out hl).mono ?_
  rintro e w2 ⟨rfl, hb2⟩
  have HB2 : Hid (Below w.heap.size w w2) := Lib.hid (below_next HB1.out hb2)
  clear hb2
  go_wp2_with fail
  go_ret
  exact ⟨rfl, HB2.out⟩

/-! ### Small -/

def smallQ (q : QuV) : Bool := decide (q.sets.length ≤ 20) && (decide (q.opn.length ≤ 60) && q.sets.all (fun x => decide (x.ws.length ≤ 60)))
theorem smallQ_iff (q : QuV) : smallQ q = true ↔ q.sets.length ≤ 20 ∧ q.opn.length ≤ 60 ∧ ∀ x ∈ q.sets, x.ws.length ≤ 60 := by simp [smallQ]
theorem smallQ_no {q : QuV} (h : ¬ (q.sets.length ≤ 20 ∧ q.opn.length ≤ 60 ∧ ∀ x ∈ q.sets, x.ws.length ≤ 60)) : smallQ q = false := by rw [Bool.eq_false_iff]; exact fun e => h ((smallQ_iff q).1 e)

set_option maxHeartbeats 4000000 in
set_option maxRecDepth 100000 in
theorem SmallQ_any {w : World} {q : QuV} (h : QuAt w w.heap.size q) (hs : q.sets.length ≤ 9223372036854775807) (hx : ∀ x ∈ q.sets, x.ws.length ≤ 9223372036854775807) (ho : q.opn.length ≤ 9223372036854775807) :
    Calls Try.prog 8 #[q.val] w fun e w' => e = .returned (.bool (smallQ q)) ∧ Below w.heap.size w w' := by
  have HY := Lib.hid (smallQ_iff q)
  have HNo := Lib.hid (@smallQ_no q)
  obtain ⟨A, c, l, A2, c2, ws, f, t⟩ := q
  show Calls _ _ #[.agg #[.slice A l.length c, .slice A2 ws.length c2, .int .i64 f, .int .i64 t]] w _
  have HBV := Lib.hid (below_one w (.cells #[.slice A l.length c, .slice A2 ws.length c2, .int .i64 f, .int .i64 t] 27 (0, 0)))
  have HX := Lib.hid (Four.new w (.slice A l.length c) (.slice A2 ws.length c2) (.int .i64 f) (.int .i64 t) 27)
  have HS := Lib.hid (fun z => (h.lat HBV.out z).sets)
  have HE := Lib.hid hx
  simp only at hs ho
  change Hid (smallQ ⟨A, c, l, A2, c2, ws, f, t⟩ = true ↔ l.length ≤ 20 ∧ ws.length ≤ 60 ∧ ∀ x ∈ l, x.ws.length ≤ 60) at HY
  change Hid (¬ (l.length ≤ 20 ∧ ws.length ≤ 60 ∧ ∀ x ∈ l, x.ws.length ≤ 60) → smallQ ⟨A, c, l, A2, c2, ws, f, t⟩ = false) at HNo
  generalize smallQ ⟨A, c, l, A2, c2, ws, f, t⟩ = G at HY HNo ⊢
  obtain ⟨n, hn⟩ : ∃ n, l.length = n := ⟨_, rfl⟩
  have HN := Lib.hid hn
  obtain ⟨m, hm⟩ : ∃ m, ws.length = m := ⟨_, rfl⟩
  rw [hn, hm] at HBV HX HS HY HNo ⊢
  rw [hn] at hs
  rw [hm] at ho
  clear h hx hn hm
  cases g1 : decide ((20 : Int) < (n : Int)) with
  | true =>
    have hG : G = false := HNo.out (fun e => by have := of_decide_eq_true g1; omega)
    go_enter Try.func8, Try.ntmps8
    go_wp2_with fail
    go_ret
    exact ⟨by first | (rw [hG]; rfl) | rfl, HBV.out⟩
  | false =>
  cases g2 : decide ((60 : Int) < (m : Int)) with
  | true =>
    have hG : G = false := HNo.out (fun e => by have := of_decide_eq_true g2; omega)
    go_enter Try.func8, Try.ntmps8
    go_wp2_with fail
    go_ret
    exact ⟨by first | (rw [hG]; rfl) | rfl, HBV.out⟩
  | false =>
  have h1 : n ≤ 20 := by have := of_decide_eq_false g1; omega
  have h2 : m ≤ 60 := by have := of_decide_eq_false g2; omega
  have HY2 : Hid ((∀ x ∈ l, x.ws.length ≤ 60) → G = true) := Lib.hid (fun e => HY.out.2 ⟨h1, h2, e⟩)
  have HN2 : Hid (∀ x ∈ l, ¬ x.ws.length ≤ 60 → G = false) := Lib.hid (fun x hx e => HNo.out (fun k => e (k.2.2 x hx)))
  clear HY HNo
  go_enter Try.func8, Try.ntmps8
  go_wp2_with fail
  clear g1 g2
  generalize w.alloc (.cells #[.slice A n c, .slice A2 m c2, .int .i64 f, .int .i64 t] 27) = V at HBV HX HS ⊢
  have x0 := HX.out.c0
  have x1 := HX.out.c1
  generalize w.heap.size = H at x0 x1 ⊢
  go_loopg [3] n (fun kx s3 wr => ∃ k : Nat, s3 = .int .i64 k ∧ k ≤ n ∧ n - k ≤ kx ∧ Hid (∀ i, (h : i < l.length) → i < k → l[i].ws.length ≤ 60) ∧ Hid (wr = V))
  case atStart => exact ⟨0, rfl, Nat.zero_le _, by omega, Lib.hid (fun i _ h => by omega), Lib.hid rfl⟩
  case round =>
    obtain ⟨k, rfl, hk, hkx, HG, HZ⟩ := hrel
    have hz := HZ.out
    subst hz
    clear HZ
    by_cases hlt : k < n
    · have hltz : (k : Int) < (n : Int) := by omega
      have hkl : k < l.length := by rw [HN.out]; exact hlt
      obtain ⟨b, off, hA, hbl, -, -, y3, -, -⟩ := (HS.out ⟨_, Below.refl _ _⟩).at_ (Below.refl _ _) hkl
      simp only at y3
      have HL := Lib.hid (HE.out l[k] (List.getElem_mem hkl))
      have HN3 := Lib.hid (HN2.out l[k] (List.getElem_mem hkl))
      obtain ⟨j, hj⟩ : ∃ j, l[k].ws.length = j := ⟨_, rfl⟩
      have HJ := Lib.hid hj
      rw [hj] at y3 HL HN3
      subst hA
      have hla := HL.out
      clear hj hbl
      cases e1 : decide ((60 : Int) < (j : Int)) with
      | true =>
        have hG : G = false := HN3.out (by have := of_decide_eq_true e1; omega)
        go_wp2_with fail
        go_ret
        exact ⟨by first | (rw [hG]; rfl) | rfl, HBV.out⟩
      | false =>
        have HG2 : Hid (∀ i, (h : i < l.length) → i < k + 1 → l[i].ws.length ≤ 60) := Lib.hid (fun i h hi => by
          by_cases e : i = k
          · subst e; rw [HJ.out]; have := of_decide_eq_false e1; omega
          · exact HG.out i h (by omega))
        go_wp2_with fail
        go_roundg (n - (k + 1))
        case measure => omega
        case rel => exact ⟨k + 1, by go_num, by omega, Nat.le_refl _, HG2, Lib.hid rfl⟩
    · have hltz : ¬ (k : Int) < (n : Int) := by omega
      have hG : G = true := HY2.out (fun x hx => by obtain ⟨i, hi, rfl⟩ := List.getElem_of_mem hx; exact HG.out i hi (by have := HN.out; omega))
      go_wp2_with fail
      go_ret
      exact ⟨by first | (rw [hG]; rfl) | rfl, HBV.out⟩
end Go.Proofs.Ythajgoigmkkbgaa

namespace Go.Proofs.Ythajgoigmkkbgaa
open Go.Shelf Go.RowKit Go.Lib Go.Sort

theorem LatW.still2 {V : World} {p : Addr} {v : Value} (h : ∀ z : LatW V, z.wd.cell? p = some v) (z : LatW V) : ∀ y : LatW z.wd, y.wd.cell? p = some v := fun y => h ⟨y.wd, z.bel.trans (y.bel.mono z.bel.size)⟩
end Go.Proofs.Ythajgoigmkkbgaa

namespace Go.Proofs.Ythajgoigmkkbgaa
open Go.Shelf Go.RowKit Go.Lib Go.Sort

def LatW.mk1 {V : World} (z : LatW V) (o : Obj) : LatW V := ⟨z.wd.alloc o, z.bel.alloc z.bel.size o⟩
def LatW.mkd {V : World} (z : LatW V) : LatW V := ⟨z.wd.drew, z.bel.drew⟩
theorem Try.infoSet : (Try.prog.info? 42).map (fun i => (i.zero, i.size, i.bytes)) = some (some (.agg #[.int .i64 0, .int .i64 0, .slice none 0 0]), 3, 40) := by kernel_rfl

set_option maxHeartbeats 800000 in
theorem CloneQ_any {w : World} {A : Option Addr} {n c : Nat} {cs : List Value} (h : Lies w w.heap.size A cs) (hl : cs.length = n * 3) (hn : n ≤ 1000) (h1 : ∀ u ∈ cs, u.oneCell' = true) :
    Calls Try.prog 37 #[.slice A n c] w (OwnEnd 42 3 n cs w) := by
  obtain ⟨i0, hi0, hz0, hz1, hz2⟩ := info_parts Try.infoSet
  have hnil := run_eql_slice_nil (P := Try.prog) w 24 42 A n c Try.underlying24
  have HL := Lib.hid h
  have HLen := Lib.hid hl
  cases A with
  | none =>
    have h0 : cs = [] := by
      rcases h with h | ⟨b, off, hA, _⟩
      · exact h
      · cases hA
    have h00 : n = 0 := by rw [h0] at hl; simp at hl; omega
    have HE : Hid (OwnEnd 42 3 n cs w (.returned (.slice none 0 0)) w) := Lib.hid ⟨_, rfl, by rw [h0, h00]; exact World.ownsRow_nil _ _ _ _, Below.refl _ _⟩
    clear h hl h0 h00 hi0 hz0 hz1 hz2
    go_enter Try.func37, Try.ntmps37
    go_wp2
    go_ret
    exact HE.out
  | some x =>
    have HC : Hid (∀ j u, cs[j]? = some u → (w.alloc (.cells #[] 42)).cell? (x.add j) = some u) := Lib.hid (fun j u hj => by
      rcases h with h | ⟨b, off, hA, hb, hc⟩
      · rw [h] at hj; simp at hj
      · cases hA
        obtain ⟨hj1, hj2⟩ := List.getElem?_eq_some_iff.1 hj
        rw [WideShapes.add_plain, ((Below.refl w.heap.size w).alloc (Nat.le_refl _) _).cell (p := ⟨b, off + j, none⟩) hb, hc j hj1, hj2])
    clear h hl
    go_enter Try.func37, Try.ntmps37
    go_wp2_with (at_builtin; refine wpList_append_own _ rfl (.tmp 5) (.tmp 6) 24 rfl w.heap.size 42 i0 (.agg #[.int .i64 0, .int .i64 0, .slice none 0 0]) 3 40 Try.underlying24 hi0 hz0 hz1 hz2 rfl (by decide) (.slice (some ⟨w.heap.size, 0, none⟩) 0 0) 0 [] rfl (World.ownsRow_made w #[] 0 (Nat.le_refl _) (Nat.zero_le _) rfl) x n c cs rfl HLen.out HC.out h1 ?c4 ?c5 ?c6 ?_)
    case c4 => unfold maxLen; omega
    case c5 => omega
    case c6 => simp
    intro v' w2 hown hg _
    have HE : Hid (OwnEnd 42 3 n cs w (.returned v') w2) := by
      refine Lib.hid ⟨_, rfl, by simpa using hown, ?_⟩
      refine ((Below.refl w.heap.size w).alloc (Nat.le_refl _) _).grown hg (by simp) (fun k hk => ?_)
      simp only [Value.ownBlock, Option.some.injEq] at hk
      omega
    clear hown hg
    go_wp2
    go_ret
    exact HE.out

noncomputable def qcutE (q : Qu) : Int := if quRight q = true then (if q.to_ = q.frm then 8 else 0) else 1
noncomputable def qcutQ (q : Qu) : Qu := if qcutE q = 0 then quCut q else quNone
theorem qcut_no {q : Qu} (h : quRight q = false) : qcutE q = 1 ∧ qcutQ q = quNone := by
  have e : qcutE q = 1 := by unfold qcutE; rw [if_neg (by rw [h]; simp)]
  exact ⟨e, by unfold qcutQ; rw [e, if_neg (by decide)]⟩
theorem qcut_none {q : Qu} (h : quRight q = true) (h2 : q.to_ = q.frm) : qcutE q = 8 ∧ qcutQ q = quNone := by
  have e : qcutE q = 8 := by unfold qcutE; rw [if_pos h, if_pos h2]
  exact ⟨e, by unfold qcutQ; rw [e, if_neg (by decide)]⟩
theorem qcut_yes {q : Qu} (h : quRight q = true) (h2 : q.to_ ≠ q.frm) : qcutE q = 0 ∧ qcutQ q = quCut q := by
  have e : qcutE q = 0 := by unfold qcutE; rw [if_pos h, if_neg h2]
  exact ⟨e, by unfold qcutQ; rw [e, if_pos rfl]⟩

set_option maxHeartbeats 8000000 in
set_option maxRecDepth 100000 in
theorem QCut_any {w : World} {q : QuV} (h : QuAt w w.heap.size q) (hf : QuFine q) (hs : q.sets.length ≤ 500) :
    Calls Try.prog 16 #[q.val] w (QuErr (qcutQ q.qu) (qcutE q.qu) w) := by
  have HN := Lib.hid (@qcut_no q.qu)
  have HN8 := Lib.hid (@qcut_none q.qu)
  have HY := Lib.hid (@qcut_yes q.qu)
  obtain ⟨A, c, l, A2, c2, ws, f, t⟩ := q
  show Calls _ _ #[.agg #[.slice A l.length c, .slice A2 ws.length c2, .int .i64 f, .int .i64 t]] w _
  simp only at hs
  obtain ⟨V, hV⟩ : ∃ V, V = (w.alloc (.cells #[.slice A l.length c, .slice A2 ws.length c2, .int .i64 f, .int .i64 t] 27 (0, 0))).alloc (.cells #[.slice none 0 0, .slice none 0 0, .int .i64 0, .int .i64 0] 27 (0, 0)) := ⟨_, rfl⟩
  have HBV : Hid (Below w.heap.size w V) := Lib.hid (by rw [hV]; exact (below_one _ _).trans ((below_one _ _).mono (by simp)))
  have HF0 : Hid (Four V w.heap.size (.slice A l.length c) (.slice A2 ws.length c2) (.int .i64 f) (.int .i64 t) 27) := Lib.hid (by
    rw [hV]; exact ⟨by rw [(below_one _ _).block _ (by simp)]; exact heap_new _ _⟩)
  have HF1 : Hid (Four V (w.heap.size + 1) (.slice none 0 0) (.slice none 0 0) (.int .i64 0) (.int .i64 0) 27) := Lib.hid (by
    rw [hV]; have := Four.new (w.alloc (.cells #[.slice A l.length c, .slice A2 ws.length c2, .int .i64 f, .int .i64 t] 27 (0, 0))) (.slice none 0 0) (.slice none 0 0) (.int .i64 0) (.int .i64 0) 27
    simpa using this)
  have HV := Lib.hid hV
  have HR : Hid (LatCalls Try.prog V 19 #[.agg #[.slice A l.length c, .slice A2 ws.length c2, .int .i64 f, .int .i64 t]] (.bool (quRight (QuV.qu ⟨A, c, l, A2, c2, ws, f, t⟩)))) := Lib.hid (LatCalls.of fun z => QRight_any (h.lat HBV.out z) hf.sets hf.each hf.opn)
  have HCl := Lib.hid (fun z : LatW V => CloneQ_any (c := c) (h.lat HBV.out z).sets.1 (svCells_length l) (by omega) (svCells_one l))
  have HQ := Lib.hid (fun z : LatW V => h.lat HBV.out z)
  clear hV h hf
  change Hid (quRight (QuV.qu ⟨A, c, l, A2, c2, ws, f, t⟩) = false → _) at HN
  change Hid (quRight (QuV.qu ⟨A, c, l, A2, c2, ws, f, t⟩) = true → t = f → _) at HN8
  change Hid (quRight (QuV.qu ⟨A, c, l, A2, c2, ws, f, t⟩) = true → t ≠ f → _) at HY
  obtain ⟨U, hU⟩ : ∃ U, QuV.qu ⟨A, c, l, A2, c2, ws, f, t⟩ = U := ⟨_, rfl⟩
  have HU := Lib.hid hU
  rw [hU] at HN HN8 HY HR ⊢
  clear hU
  obtain ⟨n, hn⟩ : ∃ n, l.length = n := ⟨_, rfl⟩
  obtain ⟨m, hm⟩ : ∃ m, ws.length = m := ⟨_, rfl⟩
  have HLn := Lib.hid hn
  have HLm := Lib.hid hm
  rw [hn] at HF0 HR HV HCl hs ⊢
  rw [hm] at HF0 HR HV ⊢
  clear hn hm
  cases ok : quRight U with
  | false =>
    rw [ok] at HR
    rw [(HN.out ok).1, (HN.out ok).2]
    go_enter Try.func16, Try.ntmps16
    go_wp2_with fail
    rw [← HV.out]
    have x0 := fun z : LatW V => (HF0.out.lat z).c0
    have x1 := fun z : LatW V => (HF0.out.lat z).c1
    have x2 := fun z : LatW V => (HF0.out.lat z).c2
    have x3 := fun z : LatW V => (HF0.out.lat z).c3
    have xf := fun z : LatW V => (HF0.out.lat z).fr
    have y0 := fun z : LatW V => (HF1.out.lat z).c0
    have y1 := fun z : LatW V => (HF1.out.lat z).c1
    have y2 := fun z : LatW V => (HF1.out.lat z).c2
    have y3 := fun z : LatW V => (HF1.out.lat z).c3
    have yf := fun z : LatW V => (HF1.out.lat z).fr
    obtain ⟨z0, hzs⟩ := LatW.start V
    rw [← hzs]
    clear hzs
    go_wp2_with (first | (go_at_call 19; refine (HR.out.at_ _).mono ?_; rintro e w9 ⟨rfl, z9, rfl⟩))
    have HR1 := Lib.hid ((HF1.out.lat z9).set (.slice none 0 0) (.slice none 0 0) (.int .i64 0) (.int .i64 0))
    have HBl := Lib.hid (Below.four (lat_end HBV.out z9) (H := w.heap.size + 1) (by omega) (.slice none 0 0) (.slice none 0 0) (.int .i64 0) (.int .i64 0))
    generalize ((((z9.wd.setCell ⟨w.heap.size + 1, 0, none⟩ (.slice none 0 0)).setCell ⟨w.heap.size + 1, 1, none⟩ (.slice none 0 0)).setCell ⟨w.heap.size + 1, 2, none⟩ (.int .i64 0)).setCell ⟨w.heap.size + 1, 3, none⟩ (.int .i64 0)) = W3 at HR1 HBl ⊢
    have r0 := HR1.out.c0
    have r1 := HR1.out.c1
    have r2 := HR1.out.c2
    have r3 := HR1.out.c3
    exact bodyPost_ret (v := .tuple #[.agg #[.slice none 0 0, .slice none 0 0, .int .i64 0, .int .i64 0], .int .i64 1]) (by simp [results, Try.results16, go_sem, r0, r1, r2, r3]) rfl (QuErr.none_ _ HBl.out)
  | true =>
  rw [ok] at HR
  cases g1 : (t == f) with
  | true =>
    have h9 : t = f := by simpa using g1
    rw [(HN8.out ok h9).1, (HN8.out ok h9).2]
    clear h9
    go_enter Try.func16, Try.ntmps16
    go_wp2_with fail
    rw [← HV.out]
    have x0 := fun z : LatW V => (HF0.out.lat z).c0
    have x1 := fun z : LatW V => (HF0.out.lat z).c1
    have x2 := fun z : LatW V => (HF0.out.lat z).c2
    have x3 := fun z : LatW V => (HF0.out.lat z).c3
    have xf := fun z : LatW V => (HF0.out.lat z).fr
    have y0 := fun z : LatW V => (HF1.out.lat z).c0
    have y1 := fun z : LatW V => (HF1.out.lat z).c1
    have y2 := fun z : LatW V => (HF1.out.lat z).c2
    have y3 := fun z : LatW V => (HF1.out.lat z).c3
    have yf := fun z : LatW V => (HF1.out.lat z).fr
    obtain ⟨z0, hzs⟩ := LatW.start V
    rw [← hzs]
    clear hzs
    go_wp2_with (first | (go_at_call 19; refine (HR.out.at_ _).mono ?_; rintro e w9 ⟨rfl, z9, rfl⟩))
    have HR1 := Lib.hid ((HF1.out.lat z9).set (.slice none 0 0) (.slice none 0 0) (.int .i64 0) (.int .i64 0))
    have HBl := Lib.hid (Below.four (lat_end HBV.out z9) (H := w.heap.size + 1) (by omega) (.slice none 0 0) (.slice none 0 0) (.int .i64 0) (.int .i64 0))
    generalize ((((z9.wd.setCell ⟨w.heap.size + 1, 0, none⟩ (.slice none 0 0)).setCell ⟨w.heap.size + 1, 1, none⟩ (.slice none 0 0)).setCell ⟨w.heap.size + 1, 2, none⟩ (.int .i64 0)).setCell ⟨w.heap.size + 1, 3, none⟩ (.int .i64 0)) = W3 at HR1 HBl ⊢
    have r0 := HR1.out.c0
    have r1 := HR1.out.c1
    have r2 := HR1.out.c2
    have r3 := HR1.out.c3
    exact bodyPost_ret (v := .tuple #[.agg #[.slice none 0 0, .slice none 0 0, .int .i64 0, .int .i64 0], .int .i64 8]) (by simp [results, Try.results16, go_sem, r0, r1, r2, r3]) rfl (QuErr.none_ _ HBl.out)
  | false =>
    have h9 : t ≠ f := by simpa using g1
    rw [(HY.out ok h9).1, (HY.out ok h9).2]
    clear h9 HN HN8 HY
    have hne : w.heap.size + 1 ≠ w.heap.size := by omega
    have hne2 : w.heap.size ≠ w.heap.size + 1 := by omega
    go_enter Try.func16, Try.ntmps16
    go_wp2_with fail
    rw [← HV.out]
    have x0 := fun z : LatW V => (HF0.out.lat z).c0
    have x1 := fun z : LatW V => (HF0.out.lat z).c1
    have x2 := fun z : LatW V => (HF0.out.lat z).c2
    have x3 := fun z : LatW V => (HF0.out.lat z).c3
    have xf := fun z : LatW V => (HF0.out.lat z).fr
    have y0 := fun z : LatW V => (HF1.out.lat z).c0
    have y1 := fun z : LatW V => (HF1.out.lat z).c1
    have y2 := fun z : LatW V => (HF1.out.lat z).c2
    have y3 := fun z : LatW V => (HF1.out.lat z).c3
    have yf := fun z : LatW V => (HF1.out.lat z).fr
    obtain ⟨z0, hzs⟩ := LatW.start V
    rw [← hzs]
    clear hzs
    go_wp2_with (first | (go_at_call 19; refine (HR.out.at_ _).mono ?_; rintro e w9 ⟨rfl, z9, rfl⟩))
    obtain ⟨zn, hzn⟩ := z9.made (.cells #[.int .i64 f, .int .i64 t, .slice A2 m c2] 42 (0, 0))
    have b0 : ∀ y : LatW zn.wd, y.wd.cell? ⟨z9.wd.heap.size, 0, none⟩ = some (.int .i64 f) := by
      rw [← hzn]; exact fun y => y.cell (by rw [Lib.cell_of_heap (heap_new _ _)]; rfl) (by simp)
    have b1 : ∀ y : LatW zn.wd, y.wd.cell? ⟨z9.wd.heap.size, 1, none⟩ = some (.int .i64 t) := by
      rw [← hzn]; exact fun y => y.cell (by rw [Lib.cell_of_heap (heap_new _ _)]; rfl) (by simp)
    have b2 : ∀ y : LatW zn.wd, y.wd.cell? ⟨z9.wd.heap.size, 2, none⟩ = some (.slice A2 m c2) := by
      rw [← hzn]; exact fun y => y.cell (by rw [Lib.cell_of_heap (heap_new _ _)]; rfl) (by simp)
    rw [hzn]
    generalize z9.wd.heap.size = B at b0 b1 b2 ⊢
    clear hzn
    have q0 : ∀ y : LatW zn.wd, y.wd.cell? ⟨w.heap.size, 0, none⟩ = some (.slice A n c) := fun y => x0 ⟨y.wd, zn.bel.trans (y.bel.mono zn.bel.size)⟩
    have q1 : ∀ y : LatW zn.wd, y.wd.cell? ⟨w.heap.size, 1, none⟩ = some (.slice A2 m c2) := fun y => x1 ⟨y.wd, zn.bel.trans (y.bel.mono zn.bel.size)⟩
    have q2 : ∀ y : LatW zn.wd, y.wd.cell? ⟨w.heap.size, 2, none⟩ = some (.int .i64 f) := fun y => x2 ⟨y.wd, zn.bel.trans (y.bel.mono zn.bel.size)⟩
    have q3 : ∀ y : LatW zn.wd, y.wd.cell? ⟨w.heap.size, 3, none⟩ = some (.int .i64 t) := fun y => x3 ⟨y.wd, zn.bel.trans (y.bel.mono zn.bel.size)⟩
    have qf : ∀ (y : LatW zn.wd) j, y.wd.frozen? ⟨w.heap.size, j, none⟩ = false := fun y => xf ⟨y.wd, zn.bel.trans (y.bel.mono zn.bel.size)⟩
    have p0 : ∀ y : LatW zn.wd, y.wd.cell? ⟨w.heap.size + 1, 0, none⟩ = some (.slice none 0 0) := fun y => y0 ⟨y.wd, zn.bel.trans (y.bel.mono zn.bel.size)⟩
    have p1 : ∀ y : LatW zn.wd, y.wd.cell? ⟨w.heap.size + 1, 1, none⟩ = some (.slice none 0 0) := fun y => y1 ⟨y.wd, zn.bel.trans (y.bel.mono zn.bel.size)⟩
    have p2 : ∀ y : LatW zn.wd, y.wd.cell? ⟨w.heap.size + 1, 2, none⟩ = some (.int .i64 0) := fun y => y2 ⟨y.wd, zn.bel.trans (y.bel.mono zn.bel.size)⟩
    have p3 : ∀ y : LatW zn.wd, y.wd.cell? ⟨w.heap.size + 1, 3, none⟩ = some (.int .i64 0) := fun y => y3 ⟨y.wd, zn.bel.trans (y.bel.mono zn.bel.size)⟩
    have pf : ∀ (y : LatW zn.wd) j, y.wd.frozen? ⟨w.heap.size + 1, j, none⟩ = false := fun y => yf ⟨y.wd, zn.bel.trans (y.bel.mono zn.bel.size)⟩
    have HFl : Hid (∀ y : LatW zn.wd, Four y.wd (w.heap.size + 1) (.slice none 0 0) (.slice none 0 0) (.int .i64 0) (.int .i64 0) 27) := Lib.hid (fun y => HF1.out.lat ⟨y.wd, zn.bel.trans (y.bel.mono zn.bel.size)⟩)
    have HEnd : Hid (∀ (y : LatW zn.wd) (g cap : Nat) (w' : World), y.wd.ownsRow zn.wd.heap.size 42 3 (.slice (some ⟨g, 0, none⟩) (n + 1) cap) (n + 1) (svCells l ++ [.int .i64 f, .int .i64 t, .slice A2 m c2]) → Moves (fun k => k = w.heap.size ∨ k = w.heap.size + 1) y.wd w' → QuErr (quCut U) 0 w (.returned (.tuple #[.agg #[.slice (some ⟨g, 0, none⟩) (n + 1) cap, .slice none 0 0, .int .i64 t, .int .i64 t], .int .i64 0])) w') := Lib.hid (fun y g cap w' ho hm => by
      obtain ⟨yz, hyz⟩ : ∃ yz : LatW V, yz.wd = y.wd := ⟨⟨y.wd, zn.bel.trans (y.bel.mono zn.bel.size)⟩, rfl⟩
      have hq0 := HQ.out yz
      have hF0 := HF0.out.lat yz
      have hF1 := HF1.out.lat yz
      have hz := lat_end HBV.out yz
      rw [hyz] at hq0 hF0 hF1 hz
      obtain ⟨A9, c9, h9, _, hl9⟩ := own_lies ho
      simp only [Value.slice.injEq] at h9
      obtain ⟨rfl, _, rfl⟩ := h9
      have hsv : svCells (l ++ [⟨f, t, ws, A2, c2⟩]) = svCells l ++ [.int .i64 f, .int .i64 t, .slice A2 m c2] := by rw [svCells_append, ← HLm.out]; rfl
      have hq : QuAt y.wd y.wd.heap.size ⟨some ⟨g, 0, none⟩, cap, l ++ [⟨f, t, ws, A2, c2⟩], none, 0, [], t, t⟩ := ⟨⟨by rw [hsv]; exact hl9, fun x hx => by
        rcases List.mem_append.1 hx with hx | hx
        · exact hq0.sets.2 x hx
        · obtain rfl := List.mem_singleton.1 hx
          exact ⟨hq0.opn, hq0.nil2⟩⟩, .inl rfl, fun e => (by cases e), fun _ => rfl⟩
      have hq2 := (hq.turned hm (by rintro k (rfl | rfl); exact QBlk.of hF0.blk; exact QBlk.of hF1.blk)).more hm.size
      refine ⟨_, ?_, ?_, hq2, hz.trans (hm.below hz.size (by rintro k (rfl | rfl) <;> omega))⟩
      · rw [← HU.out]; simp [QuV.qu, quCut, plainS, SetV.set]
      · simp [QuV.val, HLn.out])
    clear x0 x1 x2 x3 xf y0 y1 y2 y3 yf
    have HCl2 : Hid (∀ y : LatW zn.wd, Calls Try.prog 37 #[.slice A n c] y.wd (OwnEnd 42 3 n (svCells l) y.wd)) := Lib.hid (fun y => HCl.out ⟨y.wd, zn.bel.trans (y.bel.mono zn.bel.size)⟩)
    obtain ⟨i0, hi0, hz0, hz1, hz2⟩ := info_parts Try.infoSet
    have HNws : Hid (∀ w5, Below (zn.wd.alloc (.cells #[.int .i64 f, .int .i64 t, .slice A2 m c2] 42 (0, 0))).heap.size (zn.wd.alloc (.cells #[.int .i64 f, .int .i64 t, .slice A2 m c2] 42 (0, 0))).drew w5 → ∀ j u, ([.int .i64 f, .int .i64 t, .slice A2 m c2] : List Value)[j]? = some u → w5.cell? (Addr.add ⟨zn.wd.heap.size, 0, none⟩ j) = some u) := Lib.hid (fun w5 hb j u hj => by
      rw [hb.cell (p := Addr.add ⟨zn.wd.heap.size, 0, none⟩ j) (by rw [WideShapes.add_plain]; simp)]
      exact cell_three_new zn.wd _ _ _ _ j u hj)
    have q0d := q0 (LatW.mkd (⟨zn.wd, Below.refl _ _⟩ : LatW zn.wd))
    have q0a := q0 (LatW.mkd (LatW.mk1 (⟨zn.wd, Below.refl _ _⟩ : LatW zn.wd) (.cells #[.int .i64 f, .int .i64 t, .slice A2 m c2] 42 (0, 0))))
    simp only [LatW.mkd, LatW.mk1] at q0d q0a
    have b0d := b0 (LatW.mkd (⟨zn.wd, Below.refl _ _⟩ : LatW zn.wd))
    have b0a := b0 (LatW.mkd (LatW.mk1 (⟨zn.wd, Below.refl _ _⟩ : LatW zn.wd) (.cells #[.int .i64 f, .int .i64 t, .slice A2 m c2] 42 (0, 0))))
    simp only [LatW.mkd, LatW.mk1] at b0d b0a
    have b1d := b1 (LatW.mkd (⟨zn.wd, Below.refl _ _⟩ : LatW zn.wd))
    have b1a := b1 (LatW.mkd (LatW.mk1 (⟨zn.wd, Below.refl _ _⟩ : LatW zn.wd) (.cells #[.int .i64 f, .int .i64 t, .slice A2 m c2] 42 (0, 0))))
    simp only [LatW.mkd, LatW.mk1] at b1d b1a
    have b2d := b2 (LatW.mkd (⟨zn.wd, Below.refl _ _⟩ : LatW zn.wd))
    have b2a := b2 (LatW.mkd (LatW.mk1 (⟨zn.wd, Below.refl _ _⟩ : LatW zn.wd) (.cells #[.int .i64 f, .int .i64 t, .slice A2 m c2] 42 (0, 0))))
    simp only [LatW.mkd, LatW.mk1] at b2d b2a
    go_region_law (first
      | (go_simp; go_at_call 37; refine (HCl2.out (LatW.mkd (⟨zn.wd, Below.refl _ _⟩ : LatW zn.wd))).mono ?_; rintro e w5 ⟨v5, rfl, ho5, hb5⟩; have HO5 := Lib.hid (own_base ho5 ((LatW.mkd (⟨zn.wd, Below.refl _ _⟩ : LatW zn.wd))).bel.size); obtain ⟨y5, hy5⟩ := LatW.later (LatW.mkd (⟨zn.wd, Below.refl _ _⟩ : LatW zn.wd)) hb5; subst hy5; clear hb5 ho5; dsimp only)
      | (go_simp; go_at_call 37; refine (HCl2.out (LatW.mkd (LatW.mk1 (⟨zn.wd, Below.refl _ _⟩ : LatW zn.wd) (.cells #[.int .i64 f, .int .i64 t, .slice A2 m c2] 42 (0, 0))))).mono ?_; rintro e w5 ⟨v5, rfl, ho5, hb5⟩; have HO5 := Lib.hid (own_base ho5 ((LatW.mkd (LatW.mk1 (⟨zn.wd, Below.refl _ _⟩ : LatW zn.wd) (.cells #[.int .i64 f, .int .i64 t, .slice A2 m c2] 42 (0, 0))))).bel.size); have HNw := Lib.hid (HNws.out _ hb5); obtain ⟨y5, hy5⟩ := LatW.later (LatW.mkd (LatW.mk1 (⟨zn.wd, Below.refl _ _⟩ : LatW zn.wd) (.cells #[.int .i64 f, .int .i64 t, .slice A2 m c2] 42 (0, 0)))) hb5; subst hy5; clear hb5 ho5; dsimp only)
      | (refine step_append_lies _ (by rfl) _ _ _ (by rfl) zn.wd.heap.size 42 i0 (.agg #[.int .i64 0, .int .i64 0, .slice none 0 0]) 3 40 Try.underlying24 hi0 hz0 hz1 hz2 rfl (by decide) v5 n (svCells l) (by rfl) (HO5.out.alloc _) ⟨y5.wd.heap.size, 0, none⟩ 1 1 [.int .i64 f, .int .i64 t, .slice A2 m c2] (by rfl) (by rfl) (cell_three_new _ _ _ _ _) (by simp [Value.oneCell']) (by omega) (by unfold maxLen; omega) (by omega) (LatW.mk1 y5 _).bel.size _ rfl ?_; intro g cap w7 hown hg hat hlt; have HO7 := Lib.hid hown; obtain ⟨y7, hy7⟩ : ∃ y7 : LatW zn.wd, w7 = y7.wd := ⟨⟨w7, (LatW.mk1 y5 _).bel.grown hg (LatW.mk1 y5 _).bel.size (fun k hk => (HO5.out.lt k hk).1)⟩, rfl⟩; subst hy7; clear hown hg hat hlt)
      | (refine step_append_lies _ (by rfl) _ _ _ (by rfl) zn.wd.heap.size 42 i0 (.agg #[.int .i64 0, .int .i64 0, .slice none 0 0]) 3 40 Try.underlying24 hi0 hz0 hz1 hz2 rfl (by decide) v5 n (svCells l) (by rfl) HO5.out ⟨zn.wd.heap.size, 0, none⟩ 1 1 [.int .i64 f, .int .i64 t, .slice A2 m c2] (by rfl) (by rfl) HNw.out (by simp [Value.oneCell']) (by omega) (by unfold maxLen; omega) (by omega) y5.bel.size _ rfl ?_; intro g cap w7 hown hg hat hlt; have HO7 := Lib.hid hown; obtain ⟨y7, hy7⟩ : ∃ y7 : LatW zn.wd, w7 = y7.wd := ⟨⟨w7, y5.bel.grown hg y5.bel.size (fun k hk => (HO5.out.lt k hk).1)⟩, rfl⟩; subst hy7; clear hown hg hat hlt))
    all_goals
      go_wp2_with fail
      have HF9 : Hid (Four y7.wd (w.heap.size + 1) (.slice none 0 0) (.slice none 0 0) (.int .i64 0) (.int .i64 0) 27) := Lib.hid (HFl.out y7)
      have HR1 := Lib.hid ((((HF9.out.far (p := ⟨w.heap.size, 0, none⟩) hne (.slice (some ⟨g, 0, none⟩) (n + 1) cap)).far (p := ⟨w.heap.size, 1, none⟩) hne (.slice none 0 0)).far (p := ⟨w.heap.size, 2, none⟩) hne (.int .i64 t)).set (.slice (some ⟨g, 0, none⟩) (n + 1) cap) (.slice none 0 0) (.int .i64 t) (.int .i64 t))
      have HMv := Lib.hid (((((Moves.refl (fun k => k = w.heap.size ∨ k = w.heap.size + 1) y7.wd).setCell (p := ⟨w.heap.size, 0, none⟩) (Or.inl rfl) (.slice (some ⟨g, 0, none⟩) (n + 1) cap)).setCell (p := ⟨w.heap.size, 1, none⟩) (Or.inl rfl) (.slice none 0 0)).setCell (p := ⟨w.heap.size, 2, none⟩) (Or.inl rfl) (.int .i64 t)).four (H := w.heap.size + 1) (Or.inr rfl) (.slice (some ⟨g, 0, none⟩) (n + 1) cap) (.slice none 0 0) (.int .i64 t) (.int .i64 t))
      have HEE := Lib.hid (HEnd.out y7 g cap _ HO7.out HMv.out)
      generalize (((((((y7.wd.setCell ⟨w.heap.size, 0, none⟩ (.slice (some ⟨g, 0, none⟩) (n + 1) cap)).setCell ⟨w.heap.size, 1, none⟩ (.slice none 0 0)).setCell ⟨w.heap.size, 2, none⟩ (.int .i64 t)).setCell ⟨w.heap.size + 1, 0, none⟩ (.slice (some ⟨g, 0, none⟩) (n + 1) cap)).setCell ⟨w.heap.size + 1, 1, none⟩ (.slice none 0 0)).setCell ⟨w.heap.size + 1, 2, none⟩ (.int .i64 t)).setCell ⟨w.heap.size + 1, 3, none⟩ (.int .i64 t)) = W3 at HR1 HMv HEE ⊢
      have r0 := HR1.out.c0
      have r1 := HR1.out.c1
      have r2 := HR1.out.c2
      have r3 := HR1.out.c3
      exact bodyPost_ret (v := .tuple #[.agg #[.slice (some ⟨g, 0, none⟩) (n + 1) cap, .slice none 0 0, .int .i64 t, .int .i64 t], .int .i64 0]) (by simp [results, Try.results16, go_sem, r0, r1, r2, r3]) rfl HEE.out
end Go.Proofs.Ythajgoigmkkbgaa

namespace Go.Proofs.Ythajgoigmkkbgaa
open Go.Shelf Go.RowKit Go.Lib Go.Sort

def keepS (seq : Int) (x : SetV) : Bool := decide (seq < x.to_)
theorem keepS_no (seq : Int) (x : SetV) : decide (x.to_ ≤ seq) = !keepS seq x := by
  unfold keepS
  by_cases h : seq < x.to_
  · rw [decide_eq_true h, decide_eq_false (by omega)]; rfl
  · rw [decide_eq_false h, decide_eq_true (by omega)]; rfl
abbrev delFn (P : Nat) : Value := .func (.func 38) #[] #[.pointer (some ⟨P, 0, none⟩)]

theorem arrived_any {w : World} {P : Nat} {seq : Int} (x : SetV) (hP : P < w.heap.size) (hc : w.cell? ⟨P, 0, none⟩ = some (.int .i64 seq)) :
    Calls Try.prog 38 #[.agg #[.int .i64 x.frm, .int .i64 x.to_, .slice x.a x.ws.length x.c], .pointer (some ⟨P, 0, none⟩)] w fun e w' => e = .returned (.bool (!keepS seq x)) ∧ Below w.heap.size w w' := by
  obtain ⟨xf, xt, xw, xa, xc⟩ := x
  rw [← keepS_no]
  simp only
  generalize xw.length = nx
  have HB := Lib.hid (below_one w (.cells #[.int .i64 xf, .int .i64 xt, .slice xa nx xc] 42 (0, 0)))
  have hc2 : (w.alloc (.cells #[.int .i64 xf, .int .i64 xt, .slice xa nx xc] 42 (0, 0))).cell? ⟨P, 0, none⟩ = some (.int .i64 seq) := by rw [HB.out.cell (p := ⟨P, 0, none⟩) hP]; exact hc
  go_enter Try.func38, Try.ntmps38
  go_wp2_with fail
  go_ret
  exact ⟨rfl, HB.out⟩

def IdxS (l : List SetV) (seq : Int) (k : Int) : Prop := (k = -1 ∧ ∀ x ∈ l, keepS seq x = true) ∨ ∃ i, ∃ h : i < l.length, k = (i : Int) ∧ (∀ x ∈ l.take i, keepS seq x = true) ∧ keepS seq l[i] = false
set_option maxHeartbeats 4000000 in
set_option maxRecDepth 100000 in
theorem IdxS_any {w : World} {A : Option Addr} {c P : Nat} {l : List SetV} {seq : Int} (h : Lies w w.heap.size A (svCells l)) (hl : l.length ≤ 1000) (hP : P < w.heap.size) (hc : w.cell? ⟨P, 0, none⟩ = some (.int .i64 seq)) :
    Calls Try.prog 57 #[.slice A l.length c, delFn P] w fun e w' => ∃ k : Int, e = .returned (.int .i64 k) ∧ IdxS l seq k ∧ Below w.heap.size w w' := by
  have HS := Lib.hid (fun z : LatW w => h.next z.bel)
  have HArr := Lib.hid (fun (z : LatW w) (x : SetV) => arrived_any (w := z.wd) (P := P) (seq := seq) x (Nat.lt_of_lt_of_le hP z.bel.size) (z.cell hc hP))
  obtain ⟨n, hn⟩ : ∃ n, l.length = n := ⟨_, rfl⟩
  have HN := Lib.hid hn
  rw [hn] at hl ⊢
  clear h hn hc
  unfold delFn
  go_enter Try.func57, Try.ntmps57
  go_wp2_with fail
  go_loopg [5, 8] n (fun kx s5 s8 wr => ∃ k : Nat, s8 = .int .i64 k ∧ k ≤ n ∧ n - k ≤ kx ∧ Hid (∀ x ∈ l.take k, keepS seq x = true) ∧ Hid (∃ z : LatW w, wr = z.wd))
  case atStart => exact ⟨0, rfl, Nat.zero_le _, by omega, Lib.hid (by simp), Lib.hid ⟨⟨w, Below.refl _ _⟩, rfl⟩⟩
  case round =>
    obtain ⟨k, rfl, hk, hkx, HK, HZ⟩ := hrel
    obtain ⟨z, rfl⟩ := HZ.out
    clear HZ
    by_cases hlt : k < n
    · have hltz : (k : Int) < (n : Int) := by omega
      have hkl : k < l.length := by rw [HN.out]; exact hlt
      have hl0 := svCells_length l
      obtain ⟨b, off, hA, hbl, hcs⟩ := (HS.out z).at_ (by intro e; rw [e] at hl0; simp at hl0; omega)
      obtain ⟨g1, g2, g3⟩ := svCells_at hkl
      rw [List.getElem?_eq_getElem (by omega)] at g1 g2 g3
      have y1 : z.wd.cell? ⟨b, off + k * 3, none⟩ = some (.int .i64 l[k].frm) := by rw [hcs (k * 3) (by omega)]; exact g1
      have y2 : z.wd.cell? ⟨b, off + k * 3 + 1, none⟩ = some (.int .i64 l[k].to_) := by rw [Nat.add_assoc, hcs (k * 3 + 1) (by omega)]; exact g2
      have y3 : z.wd.cell? ⟨b, off + k * 3 + 2, none⟩ = some (.slice l[k].a l[k].ws.length l[k].c) := by rw [Nat.add_assoc, hcs (k * 3 + 2) (by omega)]; exact g3
      have HAr := Lib.hid (HArr.out z l[k])
      have HT := Lib.hid (List.take_succ_eq_append_getElem hkl)
      have HEi : Hid (keepS seq l[k] = false → IdxS l seq (k : Int)) := Lib.hid (fun e => Or.inr ⟨k, hkl, rfl, HK.out, e⟩)
      obtain ⟨x, hx⟩ : ∃ x, l[k] = x := ⟨_, rfl⟩
      rw [hx] at y1 y2 y3 HAr HT HEi
      subst hA
      clear hx hkl hcs g1 g2 g3 hl0 hbl
      obtain ⟨xf, xt, xw, xa, xc⟩ := x
      simp only at y1 y2 y3
      cases hq : keepS seq ⟨xf, xt, xw, xa, xc⟩ with
      | true =>
        rw [hq] at HAr
        have HK2 : Hid (∀ x ∈ l.take (k + 1), keepS seq x = true) := Lib.hid (fun x hx => by
          rw [HT.out] at hx
          rcases List.mem_append.1 hx with hx | hx
          · exact HK.out x hx
          · rw [List.mem_singleton.1 hx]; exact hq)
        simp only at HAr
        generalize xw.length = nx at y3 HAr
        go_wp2_with (first | (go_at_call 38; refine (HAr.out).mono ?_; rintro e w5 ⟨rfl, hb5⟩; obtain ⟨z5, hz5⟩ := LatW.later z hb5; subst hz5; clear hb5))
        go_roundg (n - (k + 1))
        case measure => omega
        case rel => exact ⟨k + 1, by go_num, by omega, Nat.le_refl _, HK2, Lib.hid ⟨_, rfl⟩⟩
      | false =>
        rw [hq] at HAr
        have HR := Lib.hid (HEi.out hq)
        simp only at HAr
        generalize xw.length = nx at y3 HAr
        go_wp2_with (first | (go_at_call 38; refine (HAr.out).mono ?_; rintro e w5 ⟨rfl, hb5⟩; obtain ⟨z5, hz5⟩ := LatW.later z hb5; subst hz5; clear hb5))
        go_ret
        exact ⟨_, rfl, HR.out, z5.bel⟩
    · have hltz : ¬ (k : Int) < (n : Int) := by omega
      have HR : Hid (IdxS l seq (-1)) := Lib.hid (Or.inl ⟨rfl, fun x hx => HK.out x (by rw [List.take_of_length_le (by rw [HN.out]; omega)]; exact hx)⟩)
      go_wp2_with fail
      go_ret
      exact ⟨_, rfl, HR.out, z.bel⟩

/-! ### DeleteFunc -/

/-- A row of sets of the call's own: its block is g, the sets m stand at its beginning. -/
structure RowS (w : World) (g cap : Nat) (m : List SetV) : Prop where
  blk : ∃ cur : Array Value, w.heap[g]? = some (.cells cur 42 (0, 0)) ∧ cur.size = cap * 3 ∧ ∀ i, (h : i < (svCells m).length) → cur[i]? = some (svCells m)[i]
  len : m.length ≤ cap
theorem RowS.cell {w : World} {g cap : Nat} {m : List SetV} (h : RowS w g cap m) {i : Nat} (hi : i < (svCells m).length) : w.cell? ⟨g, i, none⟩ = some (svCells m)[i] := by
  obtain ⟨cur, h1, _, h3⟩ := h.blk
  rw [Lib.cell_of_heap h1]; exact h3 i hi
theorem RowS.fr {w : World} {g cap : Nat} {m : List SetV} (h : RowS w g cap m) (j : Nat) : w.frozen? ⟨g, j, none⟩ = false := by
  obtain ⟨cur, h1, _, _⟩ := h.blk
  exact Lib.frozen_of_heap h1 j
theorem RowS.some_ {w : World} {g cap : Nat} {m : List SetV} (h : RowS w g cap m) {j : Nat} (hj : j < cap * 3) : (w.cell? ⟨g, j, none⟩).isSome = true := by
  obtain ⟨cur, h1, h2, _⟩ := h.blk
  rw [Lib.cell_of_heap h1, Array.getElem?_eq_getElem (by omega)]; rfl
theorem RowS.kept {w w' : World} {g cap : Nat} {m : List SetV} (h : RowS w g cap m) (hb : Below w.heap.size w w') : RowS w' g cap m := by
  obtain ⟨cur, h1, h2, h3⟩ := h.blk
  exact ⟨⟨cur, (hb.block g (Array.getElem?_eq_some_iff.1 h1).1).trans h1, h2, h3⟩, h.len⟩
theorem RowS.three {w : World} {g cap : Nat} {m : List SetV} (h : RowS w g cap m) {k : Nat} (hk : k < m.length) : w.cell? ⟨g, k * 3, none⟩ = some (.int .i64 m[k].frm) ∧ w.cell? ⟨g, k * 3 + 1, none⟩ = some (.int .i64 m[k].to_) ∧ w.cell? ⟨g, k * 3 + 2, none⟩ = some (.slice m[k].a m[k].ws.length m[k].c) := by
  have hl := svCells_length m
  obtain ⟨g1, g2, g3⟩ := svCells_at hk
  rw [List.getElem?_eq_getElem (by omega)] at g1 g2 g3
  exact ⟨by rw [h.cell (by omega)]; exact g1, by rw [h.cell (by omega)]; exact g2, by rw [h.cell (by omega)]; exact g3⟩
theorem svCells_set {m : List SetV} {k : Nat} (x : SetV) : svCells (m.set k x) = (((svCells m).set (k * 3) (.int .i64 x.frm)).set (k * 3 + 1) (.int .i64 x.to_)).set (k * 3 + 2) (.slice x.a x.ws.length x.c) := by
  induction m generalizing k with
  | nil => simp [svCells]
  | cons y m ih =>
    cases k with
    | zero => rfl
    | succ k => rw [show (k + 1) * 3 = k * 3 + 1 + 1 + 1 from by omega]; simp [svCells, ih (k := k)]
theorem RowS.set {w : World} {g cap : Nat} {m : List SetV} (h : RowS w g cap m) (k : Nat) (x : SetV) : RowS (((w.setCell ⟨g, k * 3, none⟩ (.int .i64 x.frm)).setCell ⟨g, k * 3 + 1, none⟩ (.int .i64 x.to_)).setCell ⟨g, k * 3 + 2, none⟩ (.slice x.a x.ws.length x.c)) g cap (m.set k x) := by
  obtain ⟨cur, h1, h2, h3⟩ := h.blk
  refine ⟨⟨_, row_set (row_set (row_set h1 _ _) _ _) _ _, by simp [h2], fun i hi => ?_⟩, by rw [List.length_set]; exact h.len⟩
  have hi' : i < (svCells m).length := by rw [svCells_length] at hi ⊢; rw [List.length_set] at hi; exact hi
  have e : (svCells (m.set k x))[i]? = some (svCells (m.set k x))[i] := List.getElem?_eq_getElem _
  rw [← e, svCells_set]
  have g := h3 i hi'
  rw [← List.getElem?_eq_getElem] at g
  simp only [Array.getElem?_setIfInBounds, List.getElem?_set, Array.size_setIfInBounds, List.length_set]
  have hc : i < cur.size := by
    rcases Nat.lt_or_ge i cur.size with h | h
    · exact h
    · rw [Array.getElem?_eq_none h, List.getElem?_eq_getElem hi'] at g; cases g
  by_cases e2 : k * 3 + 2 = i
  · subst e2; simp [hc, hi']
  · by_cases e1 : k * 3 + 1 = i
    · subst e1; simp [hc, hi']
    · by_cases e0 : k * 3 = i
      · subst e0; simp [hc, hi']
      · simp [e2, e1, e0]; exact g
theorem RowS.of_own {w : World} {base n g cap : Nat} {m : List SetV} (h : w.ownsRow base 42 3 (.slice (some ⟨g, 0, none⟩) n cap) n (svCells m)) (hn : m.length = n) : RowS w g cap m := by
  have hcs := fun (j : Nat) (u : Value) (hu : (svCells m)[j]? = some u) => h.cells (g := g) rfl j u hu
  rcases h.2 with ⟨h0, _⟩ | ⟨g', cap', cur, h0, _, hg, hnc, _, hs, _⟩
  · cases h0
  · simp only [Value.slice.injEq, Option.some.injEq, Addr.mk.injEq, and_true, true_and] at h0
    obtain ⟨rfl, rfl⟩ := h0
    refine ⟨⟨cur, hg, hs, fun i hi => ?_⟩, by omega⟩
    have := hcs i _ (List.getElem?_eq_getElem hi)
    rw [WideShapes.add_plain, Nat.zero_add, Lib.cell_of_heap hg] at this
    exact this
theorem RowS.lies {w : World} {g cap : Nat} {m : List SetV} (h : RowS w g cap m) (k : Nat) : Lies w w.heap.size (some ⟨g, 0, none⟩) (svCells (m.take k)) := by
  obtain ⟨cur, h1, h2, h3⟩ := h.blk
  refine .inr ⟨g, 0, rfl, (Array.getElem?_eq_some_iff.1 h1).1, fun i hi => ?_⟩
  have e : svCells m = svCells (m.take k) ++ svCells (m.drop k) := by rw [← svCells_append, List.take_append_drop]
  have hi' : i < (svCells m).length := by rw [e, List.length_append]; omega
  rw [Nat.zero_add, h.cell hi']
  congr 1
  have : (svCells m)[i]? = (svCells (m.take k))[i]? := by rw [e, List.getElem?_append_left hi]
  rw [List.getElem?_eq_getElem hi', List.getElem?_eq_getElem hi] at this
  exact Option.some.inj this

/-- What has been kept, and what is still to come. -/
structure DelInv (seq : Int) (l m : List SetV) (i j : Nat) : Prop where
  len : m.length = l.length
  lt : i < j
  le : j ≤ l.length
  head : m.take i = (l.take j).filter (keepS seq)
  tail : m.drop j = l.drop j
theorem DelInv.start {seq : Int} {l : List SetV} {i : Nat} (hi : i < l.length) (h : ∀ x ∈ l.take i, keepS seq x = true) (h2 : keepS seq l[i] = false) : DelInv seq l l i (i + 1) := by
  refine ⟨rfl, by omega, by omega, ?_, rfl⟩
  rw [List.take_succ_eq_append_getElem hi, List.filter_append, List.filter_eq_self.2 h]
  simp [h2]
theorem DelInv.at_ {seq : Int} {l m : List SetV} {i j : Nat} (h : DelInv seq l m i j) (hj : j < l.length) : ∃ hm : j < m.length, m[j] = l[j] := by
  have hm : j < m.length := by rw [h.len]; exact hj
  refine ⟨hm, ?_⟩
  have := h.tail
  rw [List.drop_eq_getElem_cons hj, List.drop_eq_getElem_cons hm] at this
  exact (List.cons.inj this).1
theorem DelInv.skip {seq : Int} {l m : List SetV} {i j : Nat} (h : DelInv seq l m i j) (hj : j < l.length) (hk : keepS seq l[j] = false) : DelInv seq l m i (j + 1) := by
  refine ⟨h.len, by have := h.lt; omega, by omega, ?_, ?_⟩
  · rw [List.take_succ_eq_append_getElem hj, List.filter_append, ← h.head]; simp [hk]
  · rw [← List.drop_drop, h.tail, List.drop_drop]
theorem DelInv.move {seq : Int} {l m : List SetV} {i j : Nat} (h : DelInv seq l m i j) (hj : j < l.length) (hk : keepS seq l[j] = true) : DelInv seq l (m.set i l[j]) (i + 1) (j + 1) := by
  have hlt := h.lt
  have hm : i < m.length := by rw [h.len]; omega
  refine ⟨by rw [List.length_set]; exact h.len, by omega, by omega, ?_, ?_⟩
  · rw [List.take_succ_eq_append_getElem hj, List.filter_append, ← h.head, List.take_succ_eq_append_getElem (by rw [List.length_set]; exact hm)]
    simp [hk, List.take_set]
    exact List.set_eq_of_length_le (by rw [List.length_take]; omega)
  · rw [List.drop_set_of_lt (by omega), ← List.drop_drop, h.tail, List.drop_drop]
theorem DelInv.end_ {seq : Int} {l m : List SetV} {i : Nat} (h : DelInv seq l m i l.length) : m.take i = l.filter (keepS seq) := by
  have := h.head
  rwa [List.take_length] at this

theorem infoSet2 : (Try.prog.info? 42).map (fun i => (i.zero, i.size)) = some (some (.agg #[.int .i64 0, .int .i64 0, .slice none 0 0]), 3) := by kernel_rfl
theorem setCells_moves (g : Nat) {F : Nat → Prop} (hg : F g) : ∀ (vs : List Value) (o : Nat) {a w : World}, Moves F a w → Moves F a (w.setCells g o vs)
  | [], _, _, _, h => h
  | v :: r, o, _, _, h => by rw [World.setCells]; exact setCells_moves g hg r (o + 1) (h.setCell (p := ⟨g, o, none⟩) hg v)
theorem setCells_size (g : Nat) : ∀ (vs : List Value) (o : Nat) (w : World), (w.setCells g o vs).heap.size = w.heap.size
  | [], _, _ => rfl
  | v :: r, o, w => by rw [World.setCells, setCells_size g r]; simp [World.setCell]
theorem zero3_one (n : Nat) : ∀ v ∈ (Builtin.zeroCells (Value.agg #[.int .i64 0, .int .i64 0, .slice none 0 0]).cells n).toList, v.oneCell' = true := by
  intro v hv
  simp [Builtin.zeroCells, Value.cells] at hv
  obtain ⟨a, _, rfl⟩ := hv
  have h3 : a % 3 = 0 ∨ a % 3 = 1 ∨ a % 3 = 2 := by omega
  rcases h3 with h | h | h <;> rw [h] <;> rfl
theorem zero3_len (n : Nat) : (Builtin.zeroCells (Value.agg #[.int .i64 0, .int .i64 0, .slice none 0 0]).cells n).toList.length = n * 3 := by
  simp [Builtin.zeroCells, Value.cells]

/-- What is left of a row. -/
def DelQ (base : Nat) (l : List SetV) (w : World) (e : Ending) (w' : World) : Prop :=
  ∃ A c, e = .returned (.slice A l.length c) ∧ Lies w' w'.heap.size A (svCells l) ∧ (A = none → c = 0) ∧ Below base w w'

set_option maxHeartbeats 8000000 in
set_option maxRecDepth 100000 in
theorem DelFunc_any {w : World} {base n P : Nat} {v : Value} {l : List SetV} {seq : Int} (ho : w.ownsRow base 42 3 v n (svCells l)) (hl : l.length = n) (hn : n ≤ 1000) (hbase : base ≤ w.heap.size) (hP : P < base) (hc : w.cell? ⟨P, 0, none⟩ = some (.int .i64 seq)) :
    Calls Try.prog 39 #[v, delFn P] w (DelQ base (l.filter (keepS seq)) w) := by
  obtain ⟨A, c, rfl, _, hlies⟩ := own_lies ho
  have HI := Lib.hid (IdxS_any (c := c) hlies (by omega) (by omega) hc)
  have HNil : Hid (A = none → c = 0) := Lib.hid (fun e => by
    subst e
    rcases ho.2 with ⟨e, _⟩ | ⟨g, cap, cur, e, _⟩
    · simp only [Value.slice.injEq] at e; exact e.2.2
    · simp only [Value.slice.injEq] at e; exact absurd e.1 (by simp))
  have HAll : Hid ((∀ x ∈ l, keepS seq x = true) → ∀ w', Below w.heap.size w w' → DelQ base (l.filter (keepS seq)) w (.returned (.slice A n c)) w') := Lib.hid (fun hk w' hb => by
    rw [List.filter_eq_self.2 hk]
    exact ⟨A, c, by rw [hl], hlies.next hb, HNil.out, hb.mono hbase⟩)
  rw [hl] at HI
  unfold delFn at HI ⊢
  have HO := Lib.hid ho
  have HL := Lib.hid hl
  have HC := Lib.hid hc
  clear ho hlies hl hc
  go_enter Try.func39, Try.ntmps39
  go_wp2_with fail
  refine HI.out.mono ?_
  rintro e w1 ⟨k, rfl, hk, hb1⟩
  rcases hk with ⟨rfl, hk⟩ | ⟨i, hil, rfl, hk1, hk2⟩
  · have HE := Lib.hid (HAll.out hk w1 hb1)
    clear hk hb1
    go_wp2_with fail
    go_ret
    exact HE.out
  · have HD0 := Lib.hid (DelInv.start hil hk1 hk2)
    have hin : i < n := by have := HL.out; omega
    have hnp : 0 < n := by omega
    obtain ⟨g, cap, hgv, hgb, hgw⟩ := HO.out.form hnp
    simp only [Value.slice.injEq] at hgv
    obtain ⟨rfl, -, rfl⟩ := hgv
    have hR0 := RowS.of_own HO.out HL.out
    have hncap : n ≤ c := by have := hR0.len; have := HL.out; omega
    have HR1 := Lib.hid (hR0.kept hb1)
    have hgw1 : g < w1.heap.size := Nat.lt_of_lt_of_le hgw hb1.size
    have hPg : P ≠ g := by omega
    have HP1 : Hid (w1.cell? ⟨P, 0, none⟩ = some (.int .i64 seq)) := Lib.hid (by rw [hb1.cell (p := ⟨P, 0, none⟩) (by show P < _; omega)]; exact HC.out)
    have HPw : Hid (P < w1.heap.size) := Lib.hid (by have := hb1.size; omega)
    have HBB : Hid (Below base w w1) := Lib.hid (hb1.mono hbase)
    have hne : ((i : Int) == -1) = false := by rw [beq_eq_false_iff_ne]; omega
    have hw1 : IntKind.i64.wrap ((i : Int) + 1) = (i : Int) + 1 := by rw [IntKind.wrap_i64]; omega
    clear hk1 hk2 hil hR0 hb1 HI HAll
    go_wp2_with fail
    clear hne
    go_loopg [5, 6] n (fun kx s5 s6 wr => ∃ (i j : Nat) (m : List SetV), s5 = .int .i64 i ∧ s6 = .int .i64 j ∧ j ≤ n ∧ n - j ≤ kx ∧ Hid (DelInv seq l m i j) ∧ Hid (RowS wr g c m) ∧ Hid (Moves (fun k => k = g) w1 wr))
    case atStart => exact ⟨i, i + 1, l, rfl, by first | rfl | go_num, by omega, by omega, HD0, HR1, Lib.hid (Moves.refl _ _)⟩
    case round =>
      clear hw1 hin HD0
      obtain ⟨i, j, m, rfl, rfl, hj, hkx, HD, HR, HM⟩ := hrel
      have hlen := HL.out
      have hwr : w1.heap.size ≤ wr.heap.size := HM.out.size
      have hPr : P < wr.heap.size := Nat.lt_of_lt_of_le HPw.out hwr
      have hcP : wr.cell? ⟨P, 0, none⟩ = some (.int .i64 seq) := by rw [World.cell?_of_block (w := w1) (a := ⟨P, 0, none⟩) (HM.out.block P HPw.out hPg)]; exact HP1.out
      by_cases hlt : j < n
      · have hltz : (j : Int) < (n : Int) := by omega
        have hjl : j < l.length := by omega
        obtain ⟨hjm, hmj⟩ := HD.out.at_ hjl
        obtain ⟨y1, y2, y3⟩ := HR.out.three hjm
        rw [hmj] at y1 y2 y3
        have HSk := Lib.hid (fun e => HD.out.skip hjl e)
        have HMo := Lib.hid (fun e => HD.out.move hjl e)
        have him : i < m.length := by have := HD.out.lt; have := HD.out.len; omega
        obtain ⟨s1, s2, s3⟩ := HR.out.three him
        obtain ⟨x, hx⟩ : ∃ x, l[j] = x := ⟨_, rfl⟩
        rw [hx] at y1 y2 y3 HSk HMo
        have hin : (i : Int) < (n : Int) := by have := HD.out.len; omega
        clear hx hmj hjm
        generalize m[i].frm = sa at s1
        generalize m[i].to_ = sb at s2
        generalize (Value.slice m[i].a m[i].ws.length m[i].c) = sc at s3
        clear him
        obtain ⟨xf, xt, xw, xa, xc⟩ := x
        simp only at y1 y2 y3
        have HSet := Lib.hid (fun (w5 : World) (h : RowS w5 g c m) => h.set i ⟨xf, xt, xw, xa, xc⟩)
        simp only at HSet
        obtain ⟨nx, hnx⟩ : ∃ nx, xw.length = nx := ⟨_, rfl⟩
        have HAr := Lib.hid (arrived_any (w := wr.alloc (.cells #[.int .i64 xf, .int .i64 xt, .slice xa nx xc] 42 (0, 0))) (P := P) (seq := seq) ⟨xf, xt, xw, xa, xc⟩ (by simp; omega) (by rw [(below_one wr _).cell (p := ⟨P, 0, none⟩) hPr]; exact hcP))
        simp only at HAr
        rw [hnx] at y3 HAr HSet
        have hgr : g < wr.heap.size := by omega
        have HAft : Hid (∀ w5, Below (wr.alloc (.cells #[.int .i64 xf, .int .i64 xt, .slice xa nx xc] 42 (0, 0))).heap.size (wr.alloc (.cells #[.int .i64 xf, .int .i64 xt, .slice xa nx xc] 42 (0, 0))) w5 → Below wr.heap.size wr w5 ∧ w5.cell? ⟨wr.heap.size, 0, none⟩ = some (.int .i64 xf) ∧ w5.cell? ⟨wr.heap.size, 1, none⟩ = some (.int .i64 xt) ∧ w5.cell? ⟨wr.heap.size, 2, none⟩ = some (.slice xa nx xc)) := Lib.hid (fun w5 hb => ⟨(below_one wr _).trans (hb.mono (by simp)), by rw [hb.cell (p := ⟨wr.heap.size, 0, none⟩) (by simp), Lib.cell_of_heap (heap_new _ _)]; rfl, by rw [hb.cell (p := ⟨wr.heap.size, 1, none⟩) (by simp), Lib.cell_of_heap (heap_new _ _)]; rfl, by rw [hb.cell (p := ⟨wr.heap.size, 2, none⟩) (by simp), Lib.cell_of_heap (heap_new _ _)]; rfl⟩)
        have S1 := Lib.hid s1
        have S2 := Lib.hid s2
        have S3 := Lib.hid s3
        have HRf := Lib.hid (fun j => HR.out.fr j)
        have hi0 : (0 : Int) ≤ (i : Int) := Int.natCast_nonneg _
        have hwj : IntKind.i64.wrap ((j : Int) + 1) = (j : Int) + 1 := by rw [IntKind.wrap_i64]; omega
        have hwi : IntKind.i64.wrap ((i : Int) + 1) = (i : Int) + 1 := by rw [IntKind.wrap_i64]; omega
        clear s1 s2 s3 hnx hcP hPr hlen hjl
        cases hq : keepS seq ⟨xf, xt, xw, xa, xc⟩ with
        | false =>
          rw [hq] at HAr
          have HD2 := Lib.hid (HSk.out hq)
          go_wp2_with (first | (go_at_call 38; refine (HAr.out).mono ?_; rintro e w5 ⟨rfl, hb5⟩; have hb6 := Lib.hid (HAft.out _ hb5); clear hb5))
          go_roundg (n - (j + 1))
          case measure => omega
          case rel => exact ⟨i, j + 1, m, rfl, by go_num, by omega, Nat.le_refl _, HD2, Lib.hid (HR.out.kept hb6.out.1), Lib.hid (HM.out.trans (Moves.of_below (F := fun _ => False) hb6.out.1) (fun _ h => h.elim))⟩
        | true =>
          rw [hq] at HAr
          have HD2 := Lib.hid (HMo.out hq)
          have hb1w : (g : Nat) ≠ wr.heap.size := by omega
          have hb2w : wr.heap.size ≠ g := by omega
          go_wp2_with (first | (go_at_call 38; refine (HAr.out).mono ?_; rintro e w5 ⟨rfl, hb5⟩; have hb6 := Lib.hid (HAft.out _ hb5); have v1 := hb6.out.2.1; have v2 := hb6.out.2.2.1; have v3 := hb6.out.2.2.2; have u1 : w5.cell? ⟨g, i * 3, none⟩ = _ := (hb6.out.1.cell (p := ⟨g, i * 3, none⟩) hgr).trans S1.out; have u2 : w5.cell? ⟨g, i * 3 + 1, none⟩ = _ := (hb6.out.1.cell (p := ⟨g, i * 3 + 1, none⟩) hgr).trans S2.out; have u3 : w5.cell? ⟨g, i * 3 + 2, none⟩ = _ := (hb6.out.1.cell (p := ⟨g, i * 3 + 2, none⟩) hgr).trans S3.out; have uf := (HR.out.kept hb6.out.1).fr; clear hb5))
          go_roundg (n - (j + 1))
          case measure => omega
          case rel => exact ⟨i + 1, j + 1, _, by go_num, by go_num, by omega, Nat.le_refl _, HD2, Lib.hid (HSet.out _ (HR.out.kept hb6.out.1)), Lib.hid ((((HM.out.trans (Moves.of_below (F := fun _ => False) hb6.out.1) (fun _ h => h.elim)).setCell (p := ⟨g, i * 3, none⟩) rfl _).setCell (p := ⟨g, i * 3 + 1, none⟩) rfl _).setCell (p := ⟨g, i * 3 + 2, none⟩) rfl _)⟩
      · have hltz : ¬ (j : Int) < (n : Int) := by omega
        have hjn : j = l.length := by omega
        have hil : i < n := by have := HD.out.lt; omega
        have HFil : Hid (m.take i = l.filter (keepS seq)) := Lib.hid (by have := HD.out; rw [hjn] at this; exact this.end_)
        have hml : m.length = n := by have := HD.out.len; omega
        obtain ⟨zs, hzs⟩ : ∃ zs, (Builtin.zeroCells (Value.agg #[.int .i64 0, .int .i64 0, .slice none 0 0]).cells (n - i)).toList = zs := ⟨_, rfl⟩
        have hzl : zs.length = (n - i) * 3 := by rw [← hzs]; exact zero3_len _
        have hz1 : ∀ v ∈ zs, v.oneCell' = true := by rw [← hzs]; exact zero3_one _
        have HCL : Hid (∀ ty, (Builtin.clear_ #[24] ty #[.slice (some ⟨g, i * 3, none⟩) (n - i) (c - i)]).run Try.prog wr = .ok (.tuple #[]) (wr.setCells g (i * 3) zs)) := Lib.hid (fun ty =>
          run_clear_k wr 24 42 ty (.agg #[.int .i64 0, .int .i64 0, .slice none 0 0]) Try.underlying24 (zero_of_info infoSet2).1 zs g (i * 3) (n - i) _ (by omega) hzs hz1 (fun j hj => HR.out.some_ (by omega)) (fun j hj => HR.out.fr _))
        have HE : Hid (DelQ base (l.filter (keepS seq)) w (.returned (.slice (some ⟨g, 0, none⟩) i c)) (wr.setCells g (i * 3) zs)) := Lib.hid (by
          refine ⟨some ⟨g, 0, none⟩, c, by rw [← HFil.out, List.length_take, Nat.min_eq_left (by omega)], ?_, fun e => (by cases e), ?_⟩
          · rw [← HFil.out, setCells_size]
            rcases HR.out.lies i with h | ⟨b', o', h1, h2, h3⟩
            · exact .inl h
            · cases h1
              refine .inr ⟨g, 0, rfl, h2, fun q hq => ?_⟩
              rw [World.cell?_setCells_out g _ _ _ ⟨g, 0 + q, none⟩ (fun _ _ => Or.inl (by rw [svCells_length, List.length_take] at hq; show 0 + q < i * 3; omega))]
              exact h3 q hq
          · have hm2 := setCells_moves g (F := fun k => k = g) rfl zs (i * 3) HM.out
            exact HBB.out.trans (hm2.below (Nat.le_trans hbase HBB.out.size) (by rintro k rfl; exact hgb)))
        have hq1 : i ≤ n := by omega
        have hq2 : ¬ (c = i) := by omega
        have hcl := HCL.out
        have hi0 : (0 : Int) ≤ (i : Int) := Int.natCast_nonneg _
        have hin : (i : Int) ≤ (n : Int) := by omega
        clear hjn hml hzs hzl hz1 hcP hPr hlen
        go_wp2_with (simp only [hcl])
        go_ret
        exact HE.out
end Go.Proofs.Ythajgoigmkkbgaa

namespace Go.Proofs.Ythajgoigmkkbgaa
open Go.Shelf Go.RowKit Go.Lib Go.Sort

noncomputable def qdoneE (q : Qu) : Int := if quRight q = true then 0 else 1
noncomputable def qdoneQ (q : Qu) (n : Int) : Qu := if quRight q = true then quDone q n else quNone
theorem qdone_no {q : Qu} (h : quRight q = false) (n : Int) : qdoneE q = 1 ∧ qdoneQ q n = quNone := ⟨by unfold qdoneE; rw [if_neg (by rw [h]; simp)], by unfold qdoneQ; rw [if_neg (by rw [h]; simp)]⟩
theorem qdone_yes {q : Qu} (h : quRight q = true) (n : Int) : qdoneE q = 0 ∧ qdoneQ q n = quDone q n := ⟨by unfold qdoneE; rw [if_pos h], by unfold qdoneQ; rw [if_pos h]⟩
theorem plainS_filter (l : List SetV) (seq : Int) : plainS (l.filter (keepS seq)) = (plainS l).filter (fun s => decide (seq < s.to_)) := by
  unfold plainS
  rw [List.filter_map]
  rfl

set_option maxHeartbeats 8000000 in
set_option maxRecDepth 100000 in
theorem QDone_any {w : World} {q : QuV} (seq : Int) (h : QuAt w w.heap.size q) (hf : QuFine q) (hs : q.sets.length ≤ 500) :
    Calls Try.prog 17 #[q.val, .int .i64 seq] w (QuErr (qdoneQ q.qu seq) (qdoneE q.qu) w) := by
  have HN := Lib.hid (@qdone_no q.qu)
  have HY := Lib.hid (@qdone_yes q.qu)
  obtain ⟨A, c, l, A2, c2, ws, f, t⟩ := q
  show Calls _ _ #[.agg #[.slice A l.length c, .slice A2 ws.length c2, .int .i64 f, .int .i64 t], .int .i64 seq] w _
  simp only at hs
  obtain ⟨V1, hV1⟩ : ∃ V1, V1 = w.alloc (.cells #[.slice A l.length c, .slice A2 ws.length c2, .int .i64 f, .int .i64 t] 27 (0, 0)) := ⟨_, rfl⟩
  obtain ⟨V2, hV2⟩ : ∃ V2, V2 = V1.alloc (.cells #[.int .i64 seq] 3 (0, 0)) := ⟨_, rfl⟩
  obtain ⟨V, hV⟩ : ∃ V, V = V2.alloc (.cells #[.slice none 0 0, .slice none 0 0, .int .i64 0, .int .i64 0] 27 (0, 0)) := ⟨_, rfl⟩
  have hb1 : Below w.heap.size w V1 := by rw [hV1]; exact below_one _ _
  have hb2 : Below V1.heap.size V1 V2 := by rw [hV2]; exact below_one _ _
  have hb3 : Below V2.heap.size V2 V := by rw [hV]; exact below_one _ _
  have hs1 : V1.heap.size = w.heap.size + 1 := by rw [hV1]; simp
  have hs2 : V2.heap.size = w.heap.size + 2 := by rw [hV2]; simp [hs1]
  have HBV : Hid (Below w.heap.size w V) := Lib.hid (below_next (below_next hb1 hb2) hb3)
  have HF0 : Hid (Four V w.heap.size (.slice A l.length c) (.slice A2 ws.length c2) (.int .i64 f) (.int .i64 t) 27) := Lib.hid ⟨by
    rw [hb3.block _ (by omega), hb2.block _ (by omega), hV1]; exact heap_new _ _⟩
  have HF1 : Hid (Four V (w.heap.size + 2) (.slice none 0 0) (.slice none 0 0) (.int .i64 0) (.int .i64 0) 27) := Lib.hid ⟨by
    rw [← hs2, hV]; exact heap_new _ _⟩
  have HP : Hid (V.cell? ⟨w.heap.size + 1, 0, none⟩ = some (.int .i64 seq) ∧ w.heap.size + 1 < V.heap.size) := Lib.hid ⟨by
    rw [hb3.cell (p := ⟨w.heap.size + 1, 0, none⟩) (by rw [hs2]; simp), hV2, ← hs1, Lib.cell_of_heap (heap_new _ _)]; rfl, by have := hb3.size; omega⟩
  have HV : Hid (V = ((w.alloc (.cells #[.slice A l.length c, .slice A2 ws.length c2, .int .i64 f, .int .i64 t] 27 (0, 0))).alloc (.cells #[.int .i64 seq] 3 (0, 0))).alloc (.cells #[.slice none 0 0, .slice none 0 0, .int .i64 0, .int .i64 0] 27 (0, 0))) := Lib.hid (by rw [hV, hV2, hV1])
  clear hb1 hb2 hb3 hs1 hs2 hV hV2 hV1
  have HR : Hid (LatCalls Try.prog V 19 #[.agg #[.slice A l.length c, .slice A2 ws.length c2, .int .i64 f, .int .i64 t]] (.bool (quRight (QuV.qu ⟨A, c, l, A2, c2, ws, f, t⟩)))) := Lib.hid (LatCalls.of fun z => QRight_any (h.lat HBV.out z) hf.sets hf.each hf.opn)
  have HCl := Lib.hid (fun z : LatW V => CloneQ_any (n := l.length) (c := c) (h.lat HBV.out z).sets.1 (svCells_length l) (by omega) (svCells_one l))
  have HDl : Hid (∀ (z : LatW V) (w5 : World) (v5 : Value), w5.ownsRow z.wd.heap.size 42 3 v5 l.length (svCells l) → Below z.wd.heap.size z.wd w5 → Calls Try.prog 39 #[v5, .func (.func 38) #[] #[.pointer (some ⟨w.heap.size + 1, 0, none⟩)]] w5 fun e w' => ∃ A c, e = .returned (.slice A (l.filter (keepS seq)).length c) ∧ SetsAt w' w'.heap.size A (l.filter (keepS seq)) ∧ (A = none → c = 0) ∧ Below z.wd.heap.size z.wd w') := Lib.hid (fun z w5 v5 ho hb => by
    have hzz := z.bel.size
    have := DelFunc_any (P := w.heap.size + 1) (seq := seq) ho rfl (by omega) hb.size (by have := HP.out.2; omega) (by rw [hb.cell (p := ⟨w.heap.size + 1, 0, none⟩) (by have := HP.out.2; show w.heap.size + 1 < _; omega)]; exact z.cell HP.out.1 HP.out.2)
    refine this.mono ?_
    rintro e w' ⟨A9, c9, rfl, h1, h2, h3⟩
    have hb9 := hb.trans h3
    refine ⟨A9, c9, rfl, ⟨h1, fun x hx => ?_⟩, h2, hb9⟩
    have := (h.lat HBV.out z).sets.2 x (List.mem_filter.1 hx).1
    exact ⟨this.1.next hb9, this.2⟩)
  have HEnd : Hid (∀ (z : LatW V) (A5 : Option Addr) (c5 : Nat) (w' : World), SetsAt z.wd z.wd.heap.size A5 (l.filter (keepS seq)) → (A5 = none → c5 = 0) → Moves (fun k => k = w.heap.size ∨ k = w.heap.size + 2) z.wd w' → QuErr (quDone (QuV.qu ⟨A, c, l, A2, c2, ws, f, t⟩) seq) 0 w (.returned (.tuple #[.agg #[.slice A5 (l.filter (keepS seq)).length c5, .slice A2 ws.length c2, .int .i64 f, .int .i64 t], .int .i64 0])) w') := Lib.hid (fun z A5 c5 w' h5 n5 hm => by
    have hq : QuAt z.wd z.wd.heap.size ⟨A5, c5, l.filter (keepS seq), A2, c2, ws, f, t⟩ := ⟨h5, (h.lat HBV.out z).opn, n5, (h.lat HBV.out z).nil2⟩
    have hq2 := (hq.turned hm (by rintro k (rfl | rfl); exact QBlk.of (HF0.out.lat z).blk; exact QBlk.of (HF1.out.lat z).blk)).more hm.size
    have hz := lat_end HBV.out z
    exact ⟨_, by simp [QuV.qu, quDone, plainS_filter], rfl, hq2, hz.trans (hm.below hz.size (by rintro k (rfl | rfl) <;> omega))⟩)
  clear h hf hs
  change Hid (quRight (QuV.qu ⟨A, c, l, A2, c2, ws, f, t⟩) = false → ∀ n, _) at HN
  change Hid (quRight (QuV.qu ⟨A, c, l, A2, c2, ws, f, t⟩) = true → ∀ n, _) at HY
  generalize QuV.qu ⟨A, c, l, A2, c2, ws, f, t⟩ = U at HN HY HR HEnd ⊢
  generalize hd : l.filter (keepS seq) = d at HDl HEnd
  clear hd
  obtain ⟨n, hn⟩ : ∃ n, l.length = n := ⟨_, rfl⟩
  rw [hn] at HF0 HR HV HCl HDl ⊢
  generalize ws.length = m at HF0 HR HV HEnd ⊢
  clear hn
  cases ok : quRight U with
  | false =>
    rw [ok] at HR
    rw [(HN.out ok seq).1, (HN.out ok seq).2]
    go_enter Try.func17, Try.ntmps17
    go_wp2_with fail
    rw [← HV.out]
    have x0 := fun z : LatW V => (HF0.out.lat z).c0
    have x1 := fun z : LatW V => (HF0.out.lat z).c1
    have x2 := fun z : LatW V => (HF0.out.lat z).c2
    have x3 := fun z : LatW V => (HF0.out.lat z).c3
    have xf := fun z : LatW V => (HF0.out.lat z).fr
    have y0 := fun z : LatW V => (HF1.out.lat z).c0
    have y1 := fun z : LatW V => (HF1.out.lat z).c1
    have y2 := fun z : LatW V => (HF1.out.lat z).c2
    have y3 := fun z : LatW V => (HF1.out.lat z).c3
    have yf := fun z : LatW V => (HF1.out.lat z).fr
    obtain ⟨z0, hzs⟩ := LatW.start V
    rw [← hzs]
    clear hzs
    go_wp2_with (first | (go_at_call 19; refine (HR.out.at_ _).mono ?_; rintro e w9 ⟨rfl, z9, rfl⟩))
    have HR1 := Lib.hid ((HF1.out.lat z9).set (.slice none 0 0) (.slice none 0 0) (.int .i64 0) (.int .i64 0))
    have HBl := Lib.hid (Below.four (lat_end HBV.out z9) (H := w.heap.size + 2) (by omega) (.slice none 0 0) (.slice none 0 0) (.int .i64 0) (.int .i64 0))
    generalize ((((z9.wd.setCell ⟨w.heap.size + 2, 0, none⟩ (.slice none 0 0)).setCell ⟨w.heap.size + 2, 1, none⟩ (.slice none 0 0)).setCell ⟨w.heap.size + 2, 2, none⟩ (.int .i64 0)).setCell ⟨w.heap.size + 2, 3, none⟩ (.int .i64 0)) = W3 at HR1 HBl ⊢
    have r0 := HR1.out.c0
    have r1 := HR1.out.c1
    have r2 := HR1.out.c2
    have r3 := HR1.out.c3
    exact bodyPost_ret (v := .tuple #[.agg #[.slice none 0 0, .slice none 0 0, .int .i64 0, .int .i64 0], .int .i64 1]) (by simp [results, Try.results17, go_sem, r0, r1, r2, r3]) rfl (QuErr.none_ _ HBl.out)
  | true =>
    rw [ok] at HR
    rw [(HY.out ok seq).1, (HY.out ok seq).2]
    clear HN HY
    have hne : w.heap.size + 2 ≠ w.heap.size := by omega
    have hne2 : w.heap.size ≠ w.heap.size + 2 := by omega
    go_enter Try.func17, Try.ntmps17
    go_wp2_with fail
    rw [← HV.out]
    have x0 := fun z : LatW V => (HF0.out.lat z).c0
    have x1 := fun z : LatW V => (HF0.out.lat z).c1
    have x2 := fun z : LatW V => (HF0.out.lat z).c2
    have x3 := fun z : LatW V => (HF0.out.lat z).c3
    have xf := fun z : LatW V => (HF0.out.lat z).fr
    have y0 := fun z : LatW V => (HF1.out.lat z).c0
    have y1 := fun z : LatW V => (HF1.out.lat z).c1
    have y2 := fun z : LatW V => (HF1.out.lat z).c2
    have y3 := fun z : LatW V => (HF1.out.lat z).c3
    have yf := fun z : LatW V => (HF1.out.lat z).fr
    obtain ⟨z0, hzs⟩ := LatW.start V
    rw [← hzs]
    clear hzs
    go_wp2_with (first | (go_at_call 19; refine (HR.out.at_ _).mono ?_; rintro e w9 ⟨rfl, z9, rfl⟩) | (go_at_call 37; refine (HCl.out _).mono ?_; rintro e w9 ⟨v5, rfl, ho5, hb5⟩; have HD5 := Lib.hid (HDl.out _ _ _ ho5 hb5); clear ho5 hb5) | (go_at_call 39; refine HD5.out.mono ?_; rintro e w9 ⟨A5, c5, rfl, h5, n5, hb5⟩; replace h5 := Lib.hid h5; replace n5 := Lib.hid n5; obtain ⟨z5, hz5⟩ := LatW.later _ hb5; subst hz5; clear hb5))
    have HR1 := Lib.hid (((HF1.out.lat z5).far (p := ⟨w.heap.size, 0, none⟩) hne (.slice A5 d.length c5)).set (.slice A5 d.length c5) (.slice A2 m c2) (.int .i64 f) (.int .i64 t))
    have HMv := Lib.hid (((Moves.refl (fun k => k = w.heap.size ∨ k = w.heap.size + 2) z5.wd).setCell (p := ⟨w.heap.size, 0, none⟩) (Or.inl rfl) (.slice A5 d.length c5)).four (H := w.heap.size + 2) (Or.inr rfl) (.slice A5 d.length c5) (.slice A2 m c2) (.int .i64 f) (.int .i64 t))
    have HEE := Lib.hid (HEnd.out z5 A5 c5 _ h5.out n5.out HMv.out)
    generalize (((((z5.wd.setCell ⟨w.heap.size, 0, none⟩ (.slice A5 d.length c5)).setCell ⟨w.heap.size + 2, 0, none⟩ (.slice A5 d.length c5)).setCell ⟨w.heap.size + 2, 1, none⟩ (.slice A2 m c2)).setCell ⟨w.heap.size + 2, 2, none⟩ (.int .i64 f)).setCell ⟨w.heap.size + 2, 3, none⟩ (.int .i64 t)) = W3 at HR1 HMv HEE ⊢
    have r0 := HR1.out.c0
    have r1 := HR1.out.c1
    have r2 := HR1.out.c2
    have r3 := HR1.out.c3
    exact bodyPost_ret (v := .tuple #[.agg #[.slice A5 d.length c5, .slice A2 m c2, .int .i64 f, .int .i64 t], .int .i64 0]) (by simp [results, Try.results17, go_sem, r0, r1, r2, r3]) rfl HEE.out
end Go.Proofs.Ythajgoigmkkbgaa

namespace Go.Proofs.Ythajgoigmkkbgaa
open Go.Shelf Go.RowKit Go.Lib Go.Sort

def smU (u : Qu) (a b : Nat) : Prop := u.sets.length ≤ a ∧ (∀ s ∈ u.sets, s.ws.length ≤ b) ∧ u.opn.length ≤ b
theorem smU.more {u : Qu} {a b a' b' : Nat} (h : smU u a b) (ha : a ≤ a') (hb : b ≤ b') : smU u a' b' := ⟨Nat.le_trans h.1 ha, fun s hs => Nat.le_trans (h.2.1 s hs) hb, Nat.le_trans h.2.2 hb⟩
theorem smU.fine {q : QuV} {u : Qu} {a b : Nat} (h : smU u a b) (hq : q.qu = u) (ha : a ≤ 9223372036854775807) (hb : b ≤ 4000) : QuFine q := by
  subst hq
  refine ⟨?_, fun x hx => ?_, Nat.le_trans h.2.2 hb⟩
  · have := h.1; rw [show q.qu.sets = plainS q.sets from rfl, plainS_length] at this; omega
  · exact Nat.le_trans (h.2.1 x.set (List.mem_map.2 ⟨x, hx, rfl⟩)) hb
theorem smU.sets {q : QuV} {u : Qu} {a b : Nat} (h : smU u a b) (hq : q.qu = u) : q.sets.length ≤ a := by
  subst hq
  have := h.1; rwa [show q.qu.sets = plainS q.sets from rfl, plainS_length] at this
theorem smU.each {q : QuV} {u : Qu} {a b : Nat} (h : smU u a b) (hq : q.qu = u) : ∀ x ∈ q.sets, x.ws.length ≤ b := by
  subst hq
  exact fun x hx => h.2.1 x.set (List.mem_map.2 ⟨x, hx, rfl⟩)
theorem smU.opn {q : QuV} {u : Qu} {a b : Nat} (h : smU u a b) (hq : q.qu = u) : q.opn.length ≤ b := by subst hq; exact h.2.2
theorem smU_small {q : QuV} (h : smallQ q = true) : smU q.qu 20 60 := by
  obtain ⟨h1, h2, h3⟩ := (smallQ_iff q).1 h
  refine ⟨by rw [show q.qu.sets = plainS q.sets from rfl, plainS_length]; exact h1, fun s hs => ?_, h2⟩
  obtain ⟨x, hx, rfl⟩ := List.mem_map.1 hs
  exact h3 x hx
theorem smU_done {u : Qu} {a b : Nat} (h : smU u a b) (n : Int) : smU (quDone u n) a b := ⟨Nat.le_trans (List.length_filter_le ..) h.1, fun s hs => h.2.1 s (List.mem_filter.1 hs).1, h.2.2⟩
theorem smU_none (a b : Nat) : smU quNone a b := ⟨by simp [quNone], by simp [quNone], by simp [quNone]⟩
theorem smU_add {u : Qu} {a b : Nat} (h : smU u a b) (ws : List Wr) : smU (quAdd u ws) a (b + ws.length) := by
  refine ⟨h.1, fun s hs => Nat.le_trans (h.2.1 s hs) (Nat.le_add_right _ _), ?_⟩
  have := foldW_len (u.opn ++ ws)
  rw [List.length_append] at this
  have := h.2.2
  show (foldW (u.opn ++ ws)).length ≤ _
  omega
theorem smU_cut {u : Qu} {a b : Nat} (h : smU u a b) : smU (quCut u) (a + 1) b := by
  refine ⟨by simp [quCut]; exact h.1, fun s hs => ?_, by simp [quCut]⟩
  rcases List.mem_append.1 hs with hs | hs
  · exact h.2.1 s hs
  · rw [List.mem_singleton.1 hs]; exact h.2.2
theorem Four.kept {w w' : World} {H : Nat} {a b c d : Value} {ty : TypeId} (h : Four w H a b c d ty) (hb : Below w.heap.size w w') : Four w' H a b c d ty := ⟨(hb.block H (Array.getElem?_eq_some_iff.1 h.blk).1).trans h.blk⟩
theorem max_is (a b : Int) : (if a < b then b else a) = max a b := by omega
end Go.Proofs.Ythajgoigmkkbgaa
