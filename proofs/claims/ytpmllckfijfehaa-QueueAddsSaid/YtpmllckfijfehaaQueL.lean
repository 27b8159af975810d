/- Queues, the document's answer: contracts of Add and Cut. -/
import Derived.Test.YtpmllckfijfehaaQueMb
namespace Go.Proofs.Ytpmllckfijfehaa
open Go.Shelf Go.RowKit Go.Lib Go.Sort

/-- append of a whole slice, nil or not, onto a row of the call's own: at a step of a region that draws. -/
theorem step_append_rows {P : Program} {w : World} {ops : Array Oper} {o : Oper} {a : Act} {K : Act → World → Prop} {Q : Exit → Act → World → Prop} {E : Prop} (hgd : o.guard = none) (s x : Operand) (t : TypeId)
    (ho : o.op = .call { callee := .builtin .append, args := #[s, x], argTypes := #[t, t] })
    (base : Nat) (e : TypeId) (i : TypeInfo) (z : Value) (size bytes : Nat) (ht : P.underlying t = some (.slice e)) (hi : P.info? e = some i) (hz : i.zero = some z)
    (hsize : i.size = size) (hby : i.bytes = bytes) (hzs : z.cells.size = size) (hsz : 0 < size)
    (v : Value) (n : Nat) (xs : List Value) (hs : a.eval s = v) (hown : w.ownsRow base e size v n xs)
    (A : Option Addr) (m c : Nat) (news : List Value) (hx : a.eval x = .slice A m c) (hl : news.length = m * size) (B : Nat) (hlies : Lies w B A news) (hnil : A = none → c = 0) (h1 : ∀ u ∈ news, u.oneCell' = true)
    (h63 : n + m ≤ maxLen) (hbytes : (n + m) * bytes ≤ 140737488355328) (hbase : base ≤ w.heap.size)
    (h : ∀ v' w', w'.ownsRow base e size v' (n + m) (xs ++ news) → w.grownBy w' v.ownBlock → K (a.put o.dst v') w') :
    if Region.wanted o (yielded ops a.tmps) = true then Oper.wp P o a w K Q else E := by
  have hw : Region.wanted o (yielded ops a.tmps) = true := by simp [Region.wanted, hgd]
  rw [if_pos hw]
  cases A with
  | none =>
    have hne : news = [] := by
      rcases hlies with h | ⟨b, off, hA, _⟩
      · exact h
      · cases hA
    subst hne
    have hm0 : m = 0 := by
      have : m * size = 0 := by simpa using hl.symm
      rcases Nat.mul_eq_zero.1 this with h | h
      · exact h
      · omega
    subst hm0
    have hc := hnil rfl
    subst hc
    have hrun := run_append_owned_none (P := P) (w := w) base t o.type e i size ht hi v n xs hown
    unfold Oper.wp
    simp [execOp, ho, resolve, invoke, builtin, hs, hx, hrun, Result.andThen]
    exact h v w (by simpa using hown) (grown_refl _ _)
  | some ad =>
    have hnews : ∀ j u, news[j]? = some u → w.cell? (ad.add j) = some u := by
      intro j u hu
      rcases hlies with h | ⟨b, off, hA, _, hc⟩
      · rw [h] at hu; simp at hu
      · cases hA
        obtain ⟨hj1, hj2⟩ := List.getElem?_eq_some_iff.1 hu
        rw [WideShapes.add_plain, hc j hj1, hj2]
    obtain ⟨v', w', hr, h2, h3, _, _⟩ := run_append_own_at (P := P) w base t o.type e i z size bytes ht hi hz hsize hby hzs hsz v n xs hown ad m c news hl hnews h1 h63 hbytes hbase
    unfold Oper.wp execOp
    simp only [ho, resolve, invoke, builtin, Sem.run_bind, Sem.run_pure, Result.andThen_ok, List.map_toArray, List.map_cons, List.map_nil, hs, hx, hr]
    exact h v' w' h2 h3

theorem Four.far4 {w : World} {H H1 : Nat} {a b c d : Value} {ty : TypeId} (h : Four w H a b c d ty) (hn : H ≠ H1) (v0 v1 v2 v3 : Value) :
    ((((w.setCell ⟨H1, 0, none⟩ v0).setCell ⟨H1, 1, none⟩ v1).setCell ⟨H1, 2, none⟩ v2).setCell ⟨H1, 3, none⟩ v3).cell? ⟨H, 0, none⟩ = some a ∧ ((((w.setCell ⟨H1, 0, none⟩ v0).setCell ⟨H1, 1, none⟩ v1).setCell ⟨H1, 2, none⟩ v2).setCell ⟨H1, 3, none⟩ v3).cell? ⟨H, 1, none⟩ = some b ∧ ((((w.setCell ⟨H1, 0, none⟩ v0).setCell ⟨H1, 1, none⟩ v1).setCell ⟨H1, 2, none⟩ v2).setCell ⟨H1, 3, none⟩ v3).cell? ⟨H, 2, none⟩ = some c ∧ ((((w.setCell ⟨H1, 0, none⟩ v0).setCell ⟨H1, 1, none⟩ v1).setCell ⟨H1, 2, none⟩ v2).setCell ⟨H1, 3, none⟩ v3).cell? ⟨H, 3, none⟩ = some d := by
  have hk := (((h.far (p := ⟨H1, 0, none⟩) hn v0).far (p := ⟨H1, 1, none⟩) hn v1).far (p := ⟨H1, 2, none⟩) hn v2).far (p := ⟨H1, 3, none⟩) hn v3
  exact ⟨hk.c0, hk.c1, hk.c2, hk.c3⟩

set_option maxHeartbeats 8000000 in
set_option maxRecDepth 100000 in
theorem DQAdd_any {w : World} {q : QuV} {A3 : Option Addr} {c3 : Nat} {xs : List Wr} (h : QuAt w w.heap.size q) (h3 : WrsAt w w.heap.size A3 xs) (ho : q.opn.length ≤ 400 ∧ (q.A2 = none → q.c2 = 0)) (hx : xs.length ≤ 400 ∧ (A3 = none → c3 = 0)) (ht : 0 ≤ q.to_ ∧ q.to_ ≤ 1099511627776) :
    Calls Try.prog 15 #[q.val, .slice A3 xs.length c3] w (QuEnd (quAdd q.qu xs) w) := by
  obtain ⟨A, c, l, A2, c2, ws, f, t⟩ := q
  show Calls _ _ #[.agg #[.slice A l.length c, .slice A2 ws.length c2, .int .i64 f, .int .i64 t], .slice A3 xs.length c3] w _
  obtain ⟨V, hV⟩ : ∃ V, V = (w.alloc (.cells #[.slice A l.length c, .slice A2 ws.length c2, .int .i64 f, .int .i64 t] 25 (0, 0))).alloc (.cells #[.slice none 0 0, .slice none 0 0, .int .i64 0, .int .i64 0] 25 (0, 0)) := ⟨_, rfl⟩
  have HBV : Hid (Below w.heap.size w V) := Lib.hid (by rw [hV]; exact (below_one _ _).trans ((below_one _ _).mono (by simp)))
  have HF0 : Hid (Four V w.heap.size (.slice A l.length c) (.slice A2 ws.length c2) (.int .i64 f) (.int .i64 t) 25) := Lib.hid (by
    rw [hV]; exact ⟨by rw [(below_one _ _).block _ (by simp)]; exact heap_new _ _⟩)
  have HF1 : Hid (Four V (w.heap.size + 1) (.slice none 0 0) (.slice none 0 0) (.int .i64 0) (.int .i64 0) 25) := Lib.hid (by
    rw [hV]; have := Four.new (w.alloc (.cells #[.slice A l.length c, .slice A2 ws.length c2, .int .i64 f, .int .i64 t] 25 (0, 0))) (.slice none 0 0) (.slice none 0 0) (.int .i64 0) (.int .i64 0) 25
    simpa using this)
  have HV := Lib.hid hV
  have HJ := Lib.hid (fun z : LatW V => Join_any (c1 := c2) (c2 := c3) (h.lat HBV.out z).opn ((h3.next HBV.out).next z.bel) ho hx)
  have HFo : Hid (∀ (z : LatW V) (A9 : Option Addr) (c9 : Nat), WrsAt z.wd z.wd.heap.size A9 (ws ++ xs) → Calls Try.prog 26 #[.slice A9 (ws ++ xs).length c9] z.wd (WrsEnd (foldW (ws ++ xs)) z.wd)) := Lib.hid (fun z A9 c9 h9 => RefFold_any h9 (by rw [List.length_append]; simp only at ho; omega))
  have HEnd : Hid (∀ (z : LatW V) (A5 : Option Addr) (c5 : Nat) (w' : World), WrsAt z.wd z.wd.heap.size A5 (foldW (ws ++ xs)) → (A5 = none → c5 = 0) → Moves (fun k => k = w.heap.size ∨ k = w.heap.size + 1) z.wd w' → QuEnd (quAdd (QuV.qu ⟨A, c, l, A2, c2, ws, f, t⟩) xs) w (.returned (.agg #[.slice A l.length c, .slice A5 (foldW (ws ++ xs)).length c5, .int .i64 f, .int .i64 (t + 1)])) w') := Lib.hid (fun z A5 c5 w' h5 n5 hm => by
    have hq : QuAt z.wd z.wd.heap.size ⟨A, c, l, A5, c5, foldW (ws ++ xs), f, t + 1⟩ := ⟨(h.lat HBV.out z).sets, h5, (h.lat HBV.out z).nil, n5⟩
    have hq2 := (hq.turned hm (by rintro k (rfl | rfl); exact QBlk.of (HF0.out.lat z).blk; exact QBlk.of (HF1.out.lat z).blk)).more hm.size
    have hz := lat_end HBV.out z
    exact ⟨_, rfl, rfl, hq2, hz.trans (hm.below hz.size (by rintro k (rfl | rfl) <;> omega))⟩)
  have hw : IntKind.i64.wrap (t + 1) = t + 1 := by simp only at ht; rw [IntKind.wrap_i64]; omega
  clear hV h h3 ht ho
  generalize QuV.qu ⟨A, c, l, A2, c2, ws, f, t⟩ = U at HEnd ⊢
  generalize foldW (ws ++ xs) = us at HEnd HFo
  generalize ws ++ xs = js at HJ HFo
  generalize l.length = n at HF0 HEnd HV ⊢
  generalize ws.length = m at HF0 HJ HV ⊢
  generalize xs.length = m3 at HJ ⊢
  go_enter Try.func15, Try.ntmps15
  go_wp2_with fail
  rw [← HV.out]
  have x0 := fun z : LatW V => (HF0.out.lat z).c0
  have x1 := fun z : LatW V => (HF0.out.lat z).c1
  have x2 := fun z : LatW V => (HF0.out.lat z).c2
  have x3 := fun z : LatW V => (HF0.out.lat z).c3
  have y0 := fun z : LatW V => (HF1.out.lat z).c0
  have y1 := fun z : LatW V => (HF1.out.lat z).c1
  have y2 := fun z : LatW V => (HF1.out.lat z).c2
  have y3 := fun z : LatW V => (HF1.out.lat z).c3
  have yf := fun z : LatW V => (HF1.out.lat z).fr
  have hne : w.heap.size + 1 ≠ w.heap.size := by omega
  have hne2 : w.heap.size ≠ w.heap.size + 1 := by omega
  go_region_held3 (fun w' => w'.cell? ⟨w.heap.size, 0, none⟩ = some (.slice A n c) ∧ w'.cell? ⟨w.heap.size, 1, none⟩ = some (.slice A2 m c2) ∧ w'.cell? ⟨w.heap.size, 2, none⟩ = some (.int .i64 f) ∧ w'.cell? ⟨w.heap.size, 3, none⟩ = some (.int .i64 t)) (first | with_reducible exact ⟨x0 z4, x1 z4, x2 z4, x3 z4⟩ | with_reducible exact ⟨x0 z6, x1 z6, x2 z6, x3 z6⟩ | with_reducible exact (HF0.out.lat z6).far4 hne2 _ _ _ _ | exact ⟨x0 (LatW.mkd (⟨V, Below.refl _ _⟩ : LatW V)), x1 (LatW.mkd (⟨V, Below.refl _ _⟩ : LatW V)), x2 (LatW.mkd (⟨V, Below.refl _ _⟩ : LatW V)), x3 (LatW.mkd (⟨V, Below.refl _ _⟩ : LatW V))⟩) (first
      | (go_at_call 38; refine (HJ.out (LatW.mkd (⟨V, Below.refl _ _⟩ : LatW V))).mono ?_; rintro e w9 ⟨A4, c4, rfl, h4, _, hb4⟩; obtain ⟨z4, hz4⟩ := LatW.later (LatW.mkd (⟨V, Below.refl _ _⟩ : LatW V)) hb4; subst hz4; clear hb4; replace h4 := Lib.hid h4)
      | (go_at_call 26; refine (HFo.out z4 _ _ h4.out).mono ?_; rintro e w9 ⟨A5, c5, rfl, h5, n5, hb5⟩; obtain ⟨z6, hz6⟩ := LatW.later z4 hb5; subst hz6; clear hb5; replace h5 := Lib.hid h5; replace n5 := Lib.hid n5))
  all_goals
    go_wp2_with fail
    have HR1 := Lib.hid ((HF1.out.lat z6).set (.slice A n c) (.slice A5 us.length c5) (.int .i64 f) (.int .i64 (t + 1)))
    have HMv := Lib.hid ((Moves.refl (fun k => k = w.heap.size ∨ k = w.heap.size + 1) (z6).wd).four (H := w.heap.size + 1) (Or.inr rfl) (.slice A n c) (.slice A5 us.length c5) (.int .i64 f) (.int .i64 (t + 1)))
    have HEE := Lib.hid (HEnd.out z6 A5 c5 _ h5.out n5.out HMv.out)
    generalize ((((z6.wd.setCell ⟨w.heap.size + 1, 0, none⟩ (.slice A n c)).setCell ⟨w.heap.size + 1, 1, none⟩ (.slice A5 us.length c5)).setCell ⟨w.heap.size + 1, 2, none⟩ (.int .i64 f)).setCell ⟨w.heap.size + 1, 3, none⟩ (.int .i64 (t + 1))) = W3 at HR1 HMv HEE ⊢
    have r0 := HR1.out.c0
    have r1 := HR1.out.c1
    have r2 := HR1.out.c2
    have r3 := HR1.out.c3
    exact bodyPost_ret (v := .agg #[.slice A n c, .slice A5 us.length c5, .int .i64 f, .int .i64 (t + 1)]) (by simp [results, Try.results15, go_sem, r0, r1, r2, r3]) rfl HEE.out

set_option maxHeartbeats 8000000 in
set_option maxRecDepth 100000 in
theorem DQCut_any {w : World} {q : QuV} (h : QuAt w w.heap.size q) (hs : q.sets.length ≤ 500) :
    Calls Try.prog 16 #[q.val] w (QuEnd (quCut q.qu) w) := by
  obtain ⟨A, c, l, A2, c2, ws, f, t⟩ := q
  show Calls _ _ #[.agg #[.slice A l.length c, .slice A2 ws.length c2, .int .i64 f, .int .i64 t]] w _
  simp only at hs
  obtain ⟨V, hV⟩ : ∃ V, V = (w.alloc (.cells #[.slice A l.length c, .slice A2 ws.length c2, .int .i64 f, .int .i64 t] 25 (0, 0))).alloc (.cells #[.slice none 0 0, .slice none 0 0, .int .i64 0, .int .i64 0] 25 (0, 0)) := ⟨_, rfl⟩
  have HBV : Hid (Below w.heap.size w V) := Lib.hid (by rw [hV]; exact (below_one _ _).trans ((below_one _ _).mono (by simp)))
  have HF0 : Hid (Four V w.heap.size (.slice A l.length c) (.slice A2 ws.length c2) (.int .i64 f) (.int .i64 t) 25) := Lib.hid (by
    rw [hV]; exact ⟨by rw [(below_one _ _).block _ (by simp)]; exact heap_new _ _⟩)
  have HF1 : Hid (Four V (w.heap.size + 1) (.slice none 0 0) (.slice none 0 0) (.int .i64 0) (.int .i64 0) 25) := Lib.hid (by
    rw [hV]; have := Four.new (w.alloc (.cells #[.slice A l.length c, .slice A2 ws.length c2, .int .i64 f, .int .i64 t] 25 (0, 0))) (.slice none 0 0) (.slice none 0 0) (.int .i64 0) (.int .i64 0) 25
    simpa using this)
  have HV := Lib.hid hV
  have HLi : Hid (∀ z : LatW V, Lies z.wd z.wd.heap.size A (svCells l)) := Lib.hid (fun z => (h.lat HBV.out z).sets.1)
  have HSl := Lib.hid (svCells_length l)
  have HNil : Hid (A = none → c = 0) := Lib.hid h.nil
  obtain ⟨i0, hi0, hz0, hz1, hz2⟩ := info_parts Try.infoSet
  have HEnd : Hid (∀ (y : LatW V) (g cap : Nat) (w' : World), y.wd.ownsRow V.heap.size 56 3 (.slice (some ⟨g, 0, none⟩) (l.length + 1) cap) (l.length + 1) (svCells l ++ [.int .i64 f, .int .i64 t, .slice A2 ws.length c2]) → Moves (fun k => k = w.heap.size ∨ k = w.heap.size + 1) y.wd w' → QuEnd (quCut (QuV.qu ⟨A, c, l, A2, c2, ws, f, t⟩)) w (.returned (.agg #[.slice (some ⟨g, 0, none⟩) (l.length + 1) cap, .slice none 0 0, .int .i64 t, .int .i64 t])) w') := Lib.hid (fun y g cap w' ho hm => by
    have hq0 := h.lat HBV.out y
    have hz := lat_end HBV.out y
    obtain ⟨A9, c9, h9, _, hl9⟩ := own_lies ho
    simp only [Value.slice.injEq] at h9
    obtain ⟨rfl, _, rfl⟩ := h9
    have hsv : svCells (l ++ [⟨f, t, ws, A2, c2⟩]) = svCells l ++ [.int .i64 f, .int .i64 t, .slice A2 ws.length c2] := by rw [svCells_append]; rfl
    have hq : QuAt y.wd y.wd.heap.size ⟨some ⟨g, 0, none⟩, cap, l ++ [⟨f, t, ws, A2, c2⟩], none, 0, [], t, t⟩ := ⟨⟨by rw [hsv]; exact hl9, fun x hx => by
      rcases List.mem_append.1 hx with hx | hx
      · exact hq0.sets.2 x hx
      · obtain rfl := List.mem_singleton.1 hx
        exact ⟨hq0.opn, hq0.nil2⟩⟩, .inl rfl, fun e => (by cases e), fun _ => rfl⟩
    have hq2 := (hq.turned hm (by rintro k (rfl | rfl); exact QBlk.of (HF0.out.lat y).blk; exact QBlk.of (HF1.out.lat y).blk)).more hm.size
    refine ⟨_, ?_, ?_, hq2, hz.trans (hm.below hz.size (by rintro k (rfl | rfl) <;> omega))⟩
    · simp [QuV.qu, quCut, plainS, SetV.set]
    · simp [QuV.val])
  clear hV h
  generalize QuV.qu ⟨A, c, l, A2, c2, ws, f, t⟩ = U at HEnd ⊢
  obtain ⟨n, hn⟩ : ∃ n, l.length = n := ⟨_, rfl⟩
  rw [hn] at HF0 HEnd HV HSl hs ⊢
  generalize ws.length = m at HF0 HEnd HV ⊢
  clear hn
  have HNws : Hid (∀ w5, Below (LatW.mk1 (LatW.mkd (⟨V, Below.refl _ _⟩ : LatW V)) (.cells #[.int .i64 f, .int .i64 t, .slice A2 m c2] 56 (0, 0))).wd.heap.size (LatW.mk1 (LatW.mkd (⟨V, Below.refl _ _⟩ : LatW V)) (.cells #[.int .i64 f, .int .i64 t, .slice A2 m c2] 56 (0, 0))).wd w5 → ∀ j u, ([.int .i64 f, .int .i64 t, .slice A2 m c2] : List Value)[j]? = some u → w5.cell? (Addr.add ⟨V.drew.heap.size, 0, none⟩ j) = some u) := Lib.hid (fun w5 hb j u hj => by
    have hlt : (Addr.add ⟨V.drew.heap.size, 0, none⟩ j).block < (LatW.mk1 (LatW.mkd (⟨V, Below.refl _ _⟩ : LatW V)) (.cells #[.int .i64 f, .int .i64 t, .slice A2 m c2] 56 (0, 0))).wd.heap.size := by rw [WideShapes.add_plain]; show V.drew.heap.size < (V.drew.alloc _).heap.size; simp
    rw [hb.cell hlt]
    exact cell_three_new V.drew _ _ _ _ j u hj)
  go_enter Try.func16, Try.ntmps16
  go_wp2_with fail
  rw [← HV.out]
  have x0 := fun z : LatW V => (HF0.out.lat z).c0
  have x1 := fun z : LatW V => (HF0.out.lat z).c1
  have x2 := fun z : LatW V => (HF0.out.lat z).c2
  have x3 := fun z : LatW V => (HF0.out.lat z).c3
  have y0 := fun z : LatW V => (HF1.out.lat z).c0
  have y1 := fun z : LatW V => (HF1.out.lat z).c1
  have y2 := fun z : LatW V => (HF1.out.lat z).c2
  have y3 := fun z : LatW V => (HF1.out.lat z).c3
  have yf := fun z : LatW V => (HF1.out.lat z).fr
  have hne : w.heap.size + 1 ≠ w.heap.size := by omega
  have hne2 : w.heap.size ≠ w.heap.size + 1 := by omega
  go_region_held3 (fun w' => w'.cell? ⟨w.heap.size, 0, none⟩ = some (.slice A n c) ∧ w'.cell? ⟨w.heap.size, 1, none⟩ = some (.slice A2 m c2) ∧ w'.cell? ⟨w.heap.size, 2, none⟩ = some (.int .i64 f) ∧ w'.cell? ⟨w.heap.size, 3, none⟩ = some (.int .i64 t)) (first | with_reducible exact ⟨x0 z5, x1 z5, x2 z5, x3 z5⟩ | with_reducible exact ⟨x0 z7, x1 z7, x2 z7, x3 z7⟩ | with_reducible exact (HF0.out.lat z7).far4 hne2 _ _ _ _ | exact ⟨x0 (LatW.mkd (⟨V, Below.refl _ _⟩ : LatW V)), x1 (LatW.mkd (⟨V, Below.refl _ _⟩ : LatW V)), x2 (LatW.mkd (⟨V, Below.refl _ _⟩ : LatW V)), x3 (LatW.mkd (⟨V, Below.refl _ _⟩ : LatW V))⟩ | exact ⟨x0 (LatW.mk1 (LatW.mkd (⟨V, Below.refl _ _⟩ : LatW V)) (.cells #[.int .i64 f, .int .i64 t, .slice A2 m c2] 56 (0, 0))), x1 (LatW.mk1 (LatW.mkd (⟨V, Below.refl _ _⟩ : LatW V)) (.cells #[.int .i64 f, .int .i64 t, .slice A2 m c2] 56 (0, 0))), x2 (LatW.mk1 (LatW.mkd (⟨V, Below.refl _ _⟩ : LatW V)) (.cells #[.int .i64 f, .int .i64 t, .slice A2 m c2] 56 (0, 0))), x3 (LatW.mk1 (LatW.mkd (⟨V, Below.refl _ _⟩ : LatW V)) (.cells #[.int .i64 f, .int .i64 t, .slice A2 m c2] 56 (0, 0)))⟩ | exact ⟨x0 (LatW.mk1 z5 _), x1 (LatW.mk1 z5 _), x2 (LatW.mk1 z5 _), x3 (LatW.mk1 z5 _)⟩) (first
      | (refine step_append_rows (w := ((LatW.mkd (⟨V, Below.refl _ _⟩ : LatW V))).wd) rfl (.tmp 4) (.tmp 6) 22 (by rfl) V.heap.size 56 i0 (.agg #[.int .i64 0, .int .i64 0, .slice none 0 0]) 3 40 Try.underlying22 hi0 hz0 hz1 hz2 rfl (by decide) (.slice none 0 0) 0 [] (by rfl) (World.ownsRow_nil _ _ _ _) A n c (svCells l) (by rfl) HSl.out _ (HLi.out (LatW.mkd (⟨V, Below.refl _ _⟩ : LatW V))) HNil.out (svCells_one l) (by unfold maxLen; omega) (by omega) ((LatW.mkd (⟨V, Below.refl _ _⟩ : LatW V))).bel.size ?_; intro v5 w5 ho5 hg5; rw [List.nil_append, Nat.zero_add] at ho5; have HO5 := Lib.hid ho5; have hb5 : Below ((LatW.mkd (⟨V, Below.refl _ _⟩ : LatW V))).wd.heap.size ((LatW.mkd (⟨V, Below.refl _ _⟩ : LatW V))).wd w5 := (Below.refl _ _).grown hg5 (Nat.le_refl _) (fun k hk => by simp [Value.ownBlock] at hk);  obtain ⟨z5, hz5⟩ := LatW.later (LatW.mkd (⟨V, Below.refl _ _⟩ : LatW V)) hb5; subst hz5; clear ho5 hg5 hb5)
      | (refine step_append_rows (w := ((LatW.mk1 (LatW.mkd (⟨V, Below.refl _ _⟩ : LatW V)) (.cells #[.int .i64 f, .int .i64 t, .slice A2 m c2] 56 (0, 0)))).wd) rfl (.tmp 4) (.tmp 6) 22 (by rfl) V.heap.size 56 i0 (.agg #[.int .i64 0, .int .i64 0, .slice none 0 0]) 3 40 Try.underlying22 hi0 hz0 hz1 hz2 rfl (by decide) (.slice none 0 0) 0 [] (by rfl) (World.ownsRow_nil _ _ _ _) A n c (svCells l) (by rfl) HSl.out _ (HLi.out (LatW.mk1 (LatW.mkd (⟨V, Below.refl _ _⟩ : LatW V)) (.cells #[.int .i64 f, .int .i64 t, .slice A2 m c2] 56 (0, 0)))) HNil.out (svCells_one l) (by unfold maxLen; omega) (by omega) ((LatW.mk1 (LatW.mkd (⟨V, Below.refl _ _⟩ : LatW V)) (.cells #[.int .i64 f, .int .i64 t, .slice A2 m c2] 56 (0, 0)))).bel.size ?_; intro v5 w5 ho5 hg5; rw [List.nil_append, Nat.zero_add] at ho5; have HO5 := Lib.hid ho5; have hb5 : Below ((LatW.mk1 (LatW.mkd (⟨V, Below.refl _ _⟩ : LatW V)) (.cells #[.int .i64 f, .int .i64 t, .slice A2 m c2] 56 (0, 0)))).wd.heap.size ((LatW.mk1 (LatW.mkd (⟨V, Below.refl _ _⟩ : LatW V)) (.cells #[.int .i64 f, .int .i64 t, .slice A2 m c2] 56 (0, 0)))).wd w5 := (Below.refl _ _).grown hg5 (Nat.le_refl _) (fun k hk => by simp [Value.ownBlock] at hk); have HNw := Lib.hid (HNws.out _ hb5); obtain ⟨z5, hz5⟩ := LatW.later (LatW.mk1 (LatW.mkd (⟨V, Below.refl _ _⟩ : LatW V)) (.cells #[.int .i64 f, .int .i64 t, .slice A2 m c2] 56 (0, 0))) hb5; subst hz5; clear ho5 hg5 hb5)
      | (refine step_append_lies _ (by rfl) (.tmp 7) (.tmp 15) 22 (by rfl) V.heap.size 56 i0 (.agg #[.int .i64 0, .int .i64 0, .slice none 0 0]) 3 40 Try.underlying22 hi0 hz0 hz1 hz2 rfl (by decide) v5 n (svCells l) (by rfl) (HO5.out.alloc _) ⟨z5.wd.heap.size, 0, none⟩ 1 1 [.int .i64 f, .int .i64 t, .slice A2 m c2] (by rfl) (by rfl) (cell_three_new _ _ _ _ _) (by simp [Value.oneCell']) (by omega) (by unfold maxLen; omega) (by omega) (LatW.mk1 z5 _).bel.size _ rfl ?_; intro g cap w7 hown hg hat hlt; have HO7 := Lib.hid hown; obtain ⟨z7, hz7⟩ : ∃ z7 : LatW V, w7 = z7.wd := ⟨⟨w7, (LatW.mk1 z5 _).bel.grown hg (LatW.mk1 z5 _).bel.size (fun k hk => (HO5.out.lt k hk).1)⟩, rfl⟩; subst hz7; clear hown hg hat hlt)
      | (refine step_append_lies _ (by rfl) (.tmp 7) (.tmp 15) 22 (by rfl) V.heap.size 56 i0 (.agg #[.int .i64 0, .int .i64 0, .slice none 0 0]) 3 40 Try.underlying22 hi0 hz0 hz1 hz2 rfl (by decide) v5 n (svCells l) (by rfl) HO5.out ⟨V.drew.heap.size, 0, none⟩ 1 1 [.int .i64 f, .int .i64 t, .slice A2 m c2] (by rfl) (by rfl) HNw.out (by simp [Value.oneCell']) (by omega) (by unfold maxLen; omega) (by omega) (z5).bel.size _ rfl ?_; intro g cap w7 hown hg hat hlt; have HO7 := Lib.hid hown; obtain ⟨z7, hz7⟩ : ∃ z7 : LatW V, w7 = z7.wd := ⟨⟨w7, (z5).bel.grown hg (z5).bel.size (fun k hk => (HO5.out.lt k hk).1)⟩, rfl⟩; subst hz7; clear hown hg hat hlt))
  all_goals
    go_wp2_with fail
    have HR1 := Lib.hid ((HF1.out.lat z7).set (.slice (some ⟨g, 0, none⟩) (n + 1) cap) (.slice none 0 0) (.int .i64 t) (.int .i64 t))
    have HMv := Lib.hid ((Moves.refl (fun k => k = w.heap.size ∨ k = w.heap.size + 1) (z7).wd).four (H := w.heap.size + 1) (Or.inr rfl) (.slice (some ⟨g, 0, none⟩) (n + 1) cap) (.slice none 0 0) (.int .i64 t) (.int .i64 t))
    have HEE := Lib.hid (HEnd.out z7 g cap _ HO7.out HMv.out)
    generalize ((((z7.wd.setCell ⟨w.heap.size + 1, 0, none⟩ (.slice (some ⟨g, 0, none⟩) (n + 1) cap)).setCell ⟨w.heap.size + 1, 1, none⟩ (.slice none 0 0)).setCell ⟨w.heap.size + 1, 2, none⟩ (.int .i64 t)).setCell ⟨w.heap.size + 1, 3, none⟩ (.int .i64 t)) = W3 at HR1 HMv HEE ⊢
    have r0 := HR1.out.c0
    have r1 := HR1.out.c1
    have r2 := HR1.out.c2
    have r3 := HR1.out.c3
    exact bodyPost_ret (v := .agg #[.slice (some ⟨g, 0, none⟩) (n + 1) cap, .slice none 0 0, .int .i64 t, .int .i64 t]) (by simp [results, Try.results16, go_sem, r0, r1, r2, r3]) rfl HEE.out
end Go.Proofs.Ytpmllckfijfehaa
