/- The lag: contracts of within, of both Judge, and the fixed answer. -/
import Derived.Test.YthajgoigmkkbgaaLagP
import Derived.Test.YthajgoigmkkbgaaQueE
namespace Go.Proofs.Ythajgoigmkkbgaa
open Go.Shelf Go.RowKit Go.Lib Go.Sort

/-- Two boxes: a bound, then a queue. -/
theorem boxed2 {w : World} {q : QuV} (b : Bd) (h : QuAt w w.heap.size q) : ∃ V1 V : World, V1 = w.alloc (.cells #[.int .i64 b.txns, .int .i64 b.bytes, .bool b.hold] 23 (0, 0)) ∧ V = V1.alloc (.cells #[.slice q.A q.sets.length q.c, .slice q.A2 q.opn.length q.c2, .int .i64 q.frm, .int .i64 q.to_] 27 (0, 0)) ∧ V1.heap.size = w.heap.size + 1 ∧ Below w.heap.size w V ∧ Thr V w.heap.size (.int .i64 b.txns) (.int .i64 b.bytes) (.bool b.hold) 23 ∧ Four V (w.heap.size + 1) (.slice q.A q.sets.length q.c) (.slice q.A2 q.opn.length q.c2) (.int .i64 q.frm) (.int .i64 q.to_) 27 ∧ ∀ z : LatW V, QuAt z.wd z.wd.heap.size q := by
  obtain ⟨V1, hV1⟩ : ∃ V1, V1 = w.alloc (.cells #[.int .i64 b.txns, .int .i64 b.bytes, .bool b.hold] 23 (0, 0)) := ⟨_, rfl⟩
  have hb1 : Below w.heap.size w V1 := by rw [hV1]; exact below_one _ _
  have hs1 : V1.heap.size = w.heap.size + 1 := by rw [hV1]; simp
  obtain ⟨V, hV, hb, hX, hQ⟩ := boxed (h.next hb1)
  rw [hs1] at hX
  have hT : Thr V1 w.heap.size (.int .i64 b.txns) (.int .i64 b.bytes) (.bool b.hold) 23 := by rw [hV1]; exact Thr.new _ _ _ _ _
  exact ⟨V1, V, hV1, hV, hs1, below_next hb1 hb, hT.kept hb, hX, hQ⟩

noncomputable def withinB (b : Bd) (q : Qu) (ws : List Wr) : Bool := decide (qLoadN q + 1 ≤ b.txns) && decide (qLoadB q + (bytesW ws : Int) ≤ b.bytes)

theorem within_iff {b : Bd} {q : Qu} {ws : List Wr} (h : quRight q = true) : withinB b q ws = true ↔ inBd b q ws := by
  unfold withinB inBd qLoadN qLoadB
  rw [if_pos h, if_pos h, Bool.and_eq_true, decide_eq_true_iff, decide_eq_true_iff]
  simp

set_option maxHeartbeats 8000000 in
set_option maxRecDepth 100000 in
theorem within_any {w : World} (b : Bd) {q : QuV} {A3 : Option Addr} {c3 : Nat} {ws : List Wr} (h : QuAt w w.heap.size q) (hf : QuFine q) (hj : (joinS q.sets).length + q.opn.length ≤ 4000) (hw : WrsAt w w.heap.size A3 ws) (hl : ws.length ≤ 9223372036854775807) (hby : bytesW (quJoined q.qu) + bytesW ws ≤ 4611686018427387904) :
    Calls Try.prog 29 #[b.val, q.val, .slice A3 ws.length c3] w fun e w' => e = .returned (.bool (withinB b q.qu ws)) ∧ Below w.heap.size w w' := by
  obtain ⟨V1, V, hV1, hV, hs1, hb, hX, hF, hQ⟩ := boxed2 b h
  have HV1 := Lib.hid hV1
  have HV := Lib.hid hV
  have HBV := Lib.hid hb
  have HX := Lib.hid hX
  have HF := Lib.hid hF
  have HS1 := Lib.hid hs1
  have HLd : Hid (LatCalls Try.prog V 18 #[q.val] (.tuple #[.int .i64 (qLoadN q.qu), .int .i64 (qLoadB q.qu)])) := Lib.hid (LatCalls.of fun z => QLoad_any (hQ z) hf hj (by omega))
  have HBq : Hid (∀ z : LatW V, Calls Try.prog 41 #[.slice A3 ws.length c3] z.wd fun e w' => e = .returned (.int .i64 (bytesW ws)) ∧ Below z.wd.heap.size z.wd w') := Lib.hid (fun z => Bytes_any ((hw.next hb).next z.bel) hl (by omega))
  have hN : 0 ≤ qLoadN q.qu ∧ qLoadN q.qu ≤ 1099511627776 ∧ 0 ≤ qLoadB q.qu ∧ qLoadB q.qu ≤ bytesW (quJoined q.qu) := by
    unfold qLoadN qLoadB
    by_cases e : quRight q.qu = true
    · rw [if_pos e, if_pos e]
      have h1 := (quRight_code _).1 e
      have h2 := waits_ok ((quRight_iff _).1 e)
      omega
    · rw [if_neg e, if_neg e]; omega
  have hw1 : IntKind.i64.wrap (qLoadN q.qu + 1) = qLoadN q.qu + 1 := by rw [IntKind.wrap_i64]; omega
  have hw2 : IntKind.i64.wrap (qLoadB q.qu + (bytesW ws : Int)) = qLoadB q.qu + (bytesW ws : Int) := by rw [IntKind.wrap_i64]; omega
  clear hV1 hV hs1 hb hX hF hQ h hf hj hw hl hby hN
  unfold QuV.val Bd.val withinB at *
  generalize qLoadN q.qu = L1 at HLd hw1 ⊢
  generalize qLoadB q.qu = L2 at HLd hw2 ⊢
  obtain ⟨Y, hY⟩ : ∃ Y : Int, ((bytesW ws : Nat) : Int) = Y := ⟨_, rfl⟩
  rw [hY] at HBq hw2 ⊢
  clear hY
  generalize q.sets.length = n at HV HF HLd ⊢
  generalize q.opn.length = m at HV HF HLd ⊢
  generalize ws.length = m3 at HBq ⊢
  obtain ⟨A, c, l, A2, c2, us, f, tt⟩ := q
  obtain ⟨t, y, hd⟩ := b
  simp only at HV1 HV HF HX HLd ⊢
  have x0 := fun z : LatW V => (HX.out.lat z).c0
  have x1 := fun z : LatW V => (HX.out.lat z).c1
  have y0 := fun z : LatW V => (HF.out.lat z).c0
  have y1 := fun z : LatW V => (HF.out.lat z).c1
  have y2 := fun z : LatW V => (HF.out.lat z).c2
  have y3 := fun z : LatW V => (HF.out.lat z).c3
  have HEnd : Hid (∀ z : LatW V, Below w.heap.size w z.wd) := Lib.hid (fun z => lat_end HBV.out z)
  go_enter Try.func29, Try.ntmps29
  go_wp2_with fail
  rw [← HV1.out, ← HV.out]
  obtain ⟨z0, hzs⟩ := LatW.start V
  rw [← hzs]
  clear hzs HV HV1 HBV HX HF
  refine (HLd.out.at_ _).mono ?_
  rintro e w9 ⟨rfl, z9, rfl⟩
  obtain ⟨H, hH⟩ : ∃ H, w.heap.size = H := ⟨_, rfl⟩
  rw [hH] at x0 x1 y0 y1 y2 y3 ⊢
  have u0 := fun z : LatW z9.wd => (⟨z.wd, z9.bel.trans (z.bel.mono z9.bel.size)⟩ : LatW V)
  go_upto_region 2 with fail
  obtain ⟨W, hW⟩ : ∃ W, z9.wd = W := ⟨_, rfl⟩
  have k0 : ∀ p : LatW W, p.wd.cell? ⟨H, 0, none⟩ = some (.int .i64 t) := fun p => by subst hW; exact x0 ⟨p.wd, z9.bel.trans (p.bel.mono z9.bel.size)⟩
  have k1 : ∀ p : LatW W, p.wd.cell? ⟨H, 1, none⟩ = some (.int .i64 y) := fun p => by subst hW; exact x1 ⟨p.wd, z9.bel.trans (p.bel.mono z9.bel.size)⟩
  have HB9 : Hid (∀ p : LatW W, Calls Try.prog 41 #[.slice A3 m3 c3] p.wd fun e w' => e = .returned (.int .i64 Y) ∧ Below p.wd.heap.size p.wd w') := Lib.hid (fun p => by
    subst hW
    exact HBq.out ⟨p.wd, z9.bel.trans (p.bel.mono z9.bel.size)⟩)
  have HEn : Hid (∀ p : LatW W, Below w.heap.size w p.wd) := Lib.hid (fun p => by subst hW; exact HEnd.out ⟨p.wd, z9.bel.trans (p.bel.mono z9.bel.size)⟩)
  rw [hW]
  clear hW hH u0 x0 x1 y0 y1 y2 y3 HLd HBq HEnd
  cases d1 : decide (L1 + 1 ≤ t) with
  | false =>
    refine wp_region_later (by kernel_rfl) (by kernel_rfl) ?_
    repeat (first | go_big_quiet_skip | quiet_step (first | (go_at_call 41; exact Calls.later_of (HB9.out _))))
    refine wpQuiet_nil ?_
    intro w9 hw9
    obtain ⟨p9, hw9'⟩ := hw9
    subst hw9'
    go_wp2_with fail
    go_ret
    exact ⟨by rw [d1]; rfl, HEn.out _⟩
  | true =>
    refine wp_region_later (by kernel_rfl) (by kernel_rfl) ?_
    repeat (first | go_big_quiet_skip | quiet_step (first | (go_at_call 41; exact Calls.later_of (HB9.out _))))
    refine wpQuiet_nil ?_
    intro w9 hw9
    obtain ⟨p9, hw9'⟩ := hw9
    subst hw9'
    go_wp2_with fail
    go_ret
    exact ⟨by rw [d1]; rfl, HEn.out _⟩

set_option maxHeartbeats 8000000 in
set_option maxRecDepth 100000 in
theorem Judge_any {w : World} (b : Bd) {q : QuV} {A3 : Option Addr} {c3 : Nat} {ws : List Wr} (h : QuAt w w.heap.size q) (hf : QuFine q) (hj : (joinS q.sets).length + q.opn.length ≤ 4000) (hw : WrsAt w w.heap.size A3 ws) (hl : ws.length ≤ 9223372036854775807) (hby : bytesW (quJoined q.qu) + bytesW ws ≤ 4611686018427387904) :
    Calls Try.prog 10 #[b.val, q.val, .slice A3 ws.length c3] w fun e w' => e = .returned (.int .i64 (judgeB b q.qu ws)) ∧ Below w.heap.size w w' := by
  obtain ⟨V1, V, hV1, hV, hs1, hb, hX, hF, hQ⟩ := boxed2 b h
  have HV1 := Lib.hid hV1
  have HV := Lib.hid hV
  have HBV := Lib.hid hb
  have HX := Lib.hid hX
  have HF := Lib.hid hF
  have HR1 : Hid (LatCalls Try.prog V 12 #[b.val] (.bool (bdOk b))) := Lib.hid (LatCalls.of fun z => LRight_any b z.wd)
  have HR2 : Hid (LatCalls Try.prog V 19 #[q.val] (.bool (quRight q.qu))) := Lib.hid (LatCalls.of fun z => QRight_any (hQ z) hf.sets hf.each hf.opn)
  have HWi : Hid (LatCalls Try.prog V 29 #[b.val, q.val, .slice A3 ws.length c3] (.bool (withinB b q.qu ws))) := Lib.hid (LatCalls.of fun z => within_any b (hQ z) hf hj ((hw.next hb).next z.bel) hl hby)
  have HJ0 : Hid (bdOk b = false ∨ quRight q.qu = false → judgeB b q.qu ws = 0) := Lib.hid (fun e => judge_bad (fun k => by rcases e with e | e <;> simp_all))
  have HJ1 : Hid (bdOk b = true → quRight q.qu = true → withinB b q.qu ws = true → judgeB b q.qu ws = 1) := Lib.hid (fun e1 e2 e3 => judge_take e1 e2 ((within_iff e2).1 e3))
  have HJ2 : Hid (bdOk b = true → quRight q.qu = true → withinB b q.qu ws = false → judgeB b q.qu ws = if b.hold = true then 2 else 3) := Lib.hid (fun e1 e2 e3 => judge_out e1 e2 (fun k => by rw [(within_iff e2).2 k] at e3; cases e3))
  have HEnd : Hid (∀ z : LatW V, Below w.heap.size w z.wd) := Lib.hid (fun z => lat_end HBV.out z)
  clear hV1 hV hs1 hb hX hF hQ h hf hj hw hl hby HBV
  unfold QuV.val Bd.val at *
  generalize judgeB b q.qu ws = J at HJ0 HJ1 HJ2 ⊢
  generalize withinB b q.qu ws = I at HWi HJ1 HJ2
  generalize bdOk b = R1 at HR1 HJ0 HJ1 HJ2
  generalize quRight q.qu = R2 at HR2 HJ0 HJ1 HJ2
  generalize q.sets.length = n at HV HF HR2 HWi ⊢
  generalize q.opn.length = m at HV HF HR2 HWi ⊢
  generalize ws.length = m3 at HWi ⊢
  obtain ⟨A, c, l, A2, c2, us, f, tt⟩ := q
  obtain ⟨t, y, hd⟩ := b
  simp only at HV1 HV HF HX HR1 HR2 HWi HJ2 ⊢
  have x0 := fun z : LatW V => (HX.out.lat z).c0
  have x1 := fun z : LatW V => (HX.out.lat z).c1
  have x2 := fun z : LatW V => (HX.out.lat z).c2
  have y0 := fun z : LatW V => (HF.out.lat z).c0
  have y1 := fun z : LatW V => (HF.out.lat z).c1
  have y2 := fun z : LatW V => (HF.out.lat z).c2
  have y3 := fun z : LatW V => (HF.out.lat z).c3
  go_enter Try.func10, Try.ntmps10
  go_wp2_with fail
  rw [← HV1.out, ← HV.out]
  obtain ⟨z0, hzs⟩ := LatW.start V
  rw [← hzs]
  clear hzs HV HV1 HX HF
  have HEn := HEnd
  generalize w.heap.size = H at x0 x1 x2 y0 y1 y2 y3 ⊢
  cases R1 with
  | false =>
    have HJv := Lib.hid (HJ0.out (Or.inl rfl))
    clear HJ0 HJ1 HJ2
    refine (HR1.out.at_ _).mono ?_
    rintro e w9 ⟨rfl, z9, rfl⟩
    go_wp2_with fail
    go_ret
    exact ⟨by rw [HJv.out]; rfl, HEn.out _⟩
  | true =>
    cases R2 with
    | false =>
      have HJv := Lib.hid (HJ0.out (Or.inr rfl))
      clear HJ0 HJ1 HJ2
      refine (HR1.out.at_ _).mono ?_
      rintro e w9 ⟨rfl, z9, rfl⟩
      go_wp2_with fail
      refine (HR2.out.at_ _).mono ?_
      rintro e w9 ⟨rfl, z8, rfl⟩
      go_wp2_with fail
      go_ret
      exact ⟨by rw [HJv.out]; rfl, HEn.out _⟩
    | true =>
      have HK1 := Lib.hid (HJ1.out rfl rfl)
      have HK2 := Lib.hid (HJ2.out rfl rfl)
      clear HJ0 HJ1 HJ2
      cases I with
      | true =>
        have HJv := Lib.hid (HK1.out rfl)
        clear HK1 HK2
        refine (HR1.out.at_ _).mono ?_
        rintro e w9 ⟨rfl, z9, rfl⟩
        go_wp2_with fail
        refine (HR2.out.at_ _).mono ?_
        rintro e w9 ⟨rfl, z8, rfl⟩
        go_wp2_with fail
        refine (HWi.out.at_ _).mono ?_
        rintro e w9 ⟨rfl, z7, rfl⟩
        go_wp2_with fail
        go_ret
        exact ⟨by rw [HJv.out]; rfl, HEn.out _⟩
      | false =>
        cases hd with
        | true =>
          have HJv : Hid (J = 2) := Lib.hid (HK2.out rfl)
          clear HK1 HK2
          refine (HR1.out.at_ _).mono ?_
          rintro e w9 ⟨rfl, z9, rfl⟩
          go_wp2_with fail
          refine (HR2.out.at_ _).mono ?_
          rintro e w9 ⟨rfl, z8, rfl⟩
          go_wp2_with fail
          refine (HWi.out.at_ _).mono ?_
          rintro e w9 ⟨rfl, z7, rfl⟩
          go_wp2_with fail
          go_ret
          exact ⟨by rw [HJv.out]; rfl, HEn.out _⟩
        | false =>
          have HJv : Hid (J = 3) := Lib.hid (HK2.out rfl)
          clear HK1 HK2
          refine (HR1.out.at_ _).mono ?_
          rintro e w9 ⟨rfl, z9, rfl⟩
          go_wp2_with fail
          refine (HR2.out.at_ _).mono ?_
          rintro e w9 ⟨rfl, z8, rfl⟩
          go_wp2_with fail
          refine (HWi.out.at_ _).mono ?_
          rintro e w9 ⟨rfl, z7, rfl⟩
          go_wp2_with fail
          go_ret
          exact ⟨by rw [HJv.out]; rfl, HEn.out _⟩

set_option maxHeartbeats 4000000 in
set_option maxRecDepth 100000 in
theorem JoinG_any {w : World} {A1 A2 : Option Addr} {c1 c2 : Nat} {xs ys : List Wr} (h1 : WrsAt w w.heap.size A1 xs) (h2 : WrsAt w w.heap.size A2 ys) (hx : xs.length ≤ 4000 ∧ (A1 = none → c1 = 0)) (hy : ys.length ≤ 4000 ∧ (A2 = none → c2 = 0)) :
    Calls Try.prog 33 #[.slice A1 xs.length c1, .slice A2 ys.length c2] w (WrsEnd (xs ++ ys) w) := by
  have H1 := Lib.hid h1
  have H2 := Lib.hid h2
  have HX := Lib.hid hx.2
  have HY := Lib.hid hy.2
  have hxl := hx.1
  have hyl := hy.1
  obtain ⟨i0, hi0, hz0, hz1, hz2⟩ := info_parts Try.infoWr
  clear h1 h2 hx hy
  go_enter Try.func33, Try.ntmps33
  go_wp2_with (at_builtin; refine wpList_append_rows rfl (.tmp 6) (.tmp 7) 25 rfl w.heap.size 74 i0 (.agg #[.int .i64 0, .int .i64 0, .string ByteArray.empty]) 3 32 Try.underlying25 hi0 hz0 hz1 hz2 rfl (by decide) (.slice none 0 0) 0 [] rfl (World.ownsRow_nil _ _ _ _) A1 xs.length c1 (wrCells xs) rfl (wrCells_length _) w.heap.size H1.out.lies HX.out (wrCells_one _) ?c1 ?c2 (Nat.le_refl _) ?_)
  case c1 => unfold maxLen; omega
  case c2 => omega
  intro v3 w3 ho3 hg3
  have HB3 : Hid (Below w.heap.size w w3) := Lib.hid ((Below.refl _ _).grown hg3 (Nat.le_refl _) (fun q hq => by cases hq))
  (try rw [List.nil_append, Nat.zero_add] at ho3)
  have HO3 := Lib.hid ho3
  have hw3 : w.heap.size ≤ w3.heap.size := HB3.out.size
  clear ho3 hg3
  go_wp2_with (at_builtin; refine wpList_append_rows rfl (.tmp 8) (.tmp 9) 25 rfl w.heap.size 74 i0 (.agg #[.int .i64 0, .int .i64 0, .string ByteArray.empty]) 3 32 Try.underlying25 hi0 hz0 hz1 hz2 rfl (by decide) v3 xs.length (wrCells xs) rfl HO3.out A2 ys.length c2 (wrCells ys) rfl (wrCells_length _) w3.heap.size (H2.out.next HB3.out).lies HY.out (wrCells_one _) ?c3 ?c4 hw3 ?_)
  case c3 => unfold maxLen; omega
  case c4 => omega
  intro v4 w4 ho4 hg4
  have HE : Hid (WrsEnd (xs ++ ys) w (.returned v4) w4) := Lib.hid (own_end (by rw [List.length_append, wrCells_append]; exact ho4) (HB3.out.grown hg4 hw3 (fun q hq => (HO3.out.lt q hq).1)))
  clear ho4 hg4
  go_wp2_with fail
  go_ret
  exact HE.out

set_option maxHeartbeats 8000000 in
set_option maxRecDepth 100000 in
theorem DJudge_any {w : World} (b : Bd) {q : QuV} {A3 : Option Addr} {c3 : Nat} {ws : List Wr} (h : QuAt w w.heap.size q) (hf : QuFine q) (hj : (joinS q.sets).length + q.opn.length ≤ 4000) (hw : WrsAt w w.heap.size A3 ws) (hl : ws.length ≤ 4000) (hn3 : A3 = none → c3 = 0) (hby : bytesW (quJoined q.qu) + bytesW ws ≤ 4611686018427387904) :
    Calls Try.prog 11 #[b.val, q.val, .slice A3 ws.length c3] w fun e w' => e = .returned (.int .i64 (judgeB b q.qu ws)) ∧ Below w.heap.size w w' := by
  obtain ⟨V1, V, hV1, hV, hs1, hb, hX, hF, hQ⟩ := boxed2 b h
  have HV1 := Lib.hid hV1
  have HV := Lib.hid hV
  have HBV := Lib.hid hb
  have HX := Lib.hid hX
  have HF := Lib.hid hF
  have hjl : (quJoined q.qu).length ≤ 4000 := by rw [quJoined_is, List.length_append]; exact hj
  have HR1 : Hid (LatCalls Try.prog V 13 #[b.val] (.bool (bdOk b))) := Lib.hid (LatCalls.of fun z => DLRight_any b z.wd)
  have HR2 : Hid (LatCalls Try.prog V 30 #[q.val] (.bool (quRight q.qu))) := Lib.hid (LatCalls.of fun z => DQRight_any (hQ z) hf.sets hf.each hf.opn)
  have HTa : Hid (∀ z : LatW V, Calls Try.prog 31 #[q.val] z.wd fun e w' => e = .returned (.int .i64 (quTail q.qu)) ∧ Below z.wd.heap.size z.wd w') := Lib.hid (fun z => DTail_any (hQ z))
  have HJo : Hid (∀ z : LatW V, Calls Try.prog 34 #[q.val] z.wd (WrsEnd (quJoined q.qu) z.wd)) := Lib.hid (fun z => QJoined_any (hQ z) hf.sets hj)
  have HJn : Hid (∀ (z : LatW V) (A9 : Option Addr) (c9 : Nat), WrsAt z.wd z.wd.heap.size A9 (quJoined q.qu) → (A9 = none → c9 = 0) → Calls Try.prog 33 #[.slice A9 (quJoined q.qu).length c9, .slice A3 ws.length c3] z.wd (WrsEnd (quJoined q.qu ++ ws) z.wd)) := Lib.hid (fun z A9 c9 h9 n9 => JoinG_any h9 ((hw.next hb).next z.bel) ⟨hjl, n9⟩ ⟨hl, hn3⟩)
  have HBy : Hid (∀ (z : LatW V) (A9 : Option Addr) (c9 : Nat), WrsAt z.wd z.wd.heap.size A9 (quJoined q.qu ++ ws) → Calls Try.prog 32 #[.slice A9 (quJoined q.qu ++ ws).length c9] z.wd fun e w' => e = .returned (.int .i64 (bytesW (quJoined q.qu ++ ws))) ∧ Below z.wd.heap.size z.wd w') := Lib.hid (fun z A9 c9 h9 => RefBytes_any h9 (by rw [List.length_append]; omega) (by rw [bytesW_app]; exact hby))
  have HJ0 : Hid (bdOk b = false ∨ quRight q.qu = false → judgeB b q.qu ws = 0) := Lib.hid (fun e => judge_bad (fun k => by rcases e with e | e <;> simp_all))
  have HJ1 : Hid (bdOk b = true → quRight q.qu = true → q.to_ - quTail q.qu + 1 ≤ b.txns → ((bytesW (quJoined q.qu ++ ws) : Nat) : Int) ≤ b.bytes → judgeB b q.qu ws = 1) := Lib.hid (fun e1 e2 e3 e4 => judge_take e1 e2 (inBd_joined.2 ⟨e3, e4⟩))
  have HJ2 : Hid (bdOk b = true → quRight q.qu = true → ¬ (q.to_ - quTail q.qu + 1 ≤ b.txns ∧ ((bytesW (quJoined q.qu ++ ws) : Nat) : Int) ≤ b.bytes) → judgeB b q.qu ws = if b.hold = true then 2 else 3) := Lib.hid (fun e1 e2 e3 => judge_out e1 e2 (fun k => e3 (inBd_joined.1 k)))
  have HNm : Hid (quRight q.qu = true → 0 ≤ quTail q.qu ∧ quTail q.qu ≤ q.to_ ∧ q.to_ ≤ 1099511627776) := Lib.hid (fun e => ⟨((quRight_code _).1 e).1, waits_ok ((quRight_iff _).1 e), ((quRight_code _).1 e).2.2.1⟩)
  have HEnd : Hid (∀ z : LatW V, Below w.heap.size w z.wd) := Lib.hid (fun z => lat_end HBV.out z)
  clear hV1 hV hs1 hb hX hF hQ h hf hj hw hl hby HBV hn3 hjl
  unfold QuV.val Bd.val at *
  generalize judgeB b q.qu ws = J at HJ0 HJ1 HJ2 ⊢
  generalize quJoined q.qu ++ ws = X at HJn HBy HJ1 HJ2
  generalize bytesW X = Y at HBy HJ1 HJ2
  generalize quJoined q.qu = L at HJo HJn HBy
  generalize bdOk b = R1 at HR1 HJ0 HJ1 HJ2
  generalize quRight q.qu = R2 at HR2 HJ0 HJ1 HJ2 HNm
  generalize quTail q.qu = T at HTa HJ1 HJ2 HNm
  generalize q.sets.length = n at HV HF HR2 HTa HJo ⊢
  generalize q.opn.length = m at HV HF HR2 HTa HJo ⊢
  obtain ⟨A, c, l, A2, c2, us, f, tt⟩ := q
  obtain ⟨t, y, hd⟩ := b
  simp only at HV1 HV HF HX HR1 HR2 HTa HJo HJ1 HJ2 HNm ⊢
  have x0 := fun z : LatW V => (HX.out.lat z).c0
  have x1 := fun z : LatW V => (HX.out.lat z).c1
  have x2 := fun z : LatW V => (HX.out.lat z).c2
  have y0 := fun z : LatW V => (HF.out.lat z).c0
  have y1 := fun z : LatW V => (HF.out.lat z).c1
  have y2 := fun z : LatW V => (HF.out.lat z).c2
  have y3 := fun z : LatW V => (HF.out.lat z).c3
  have HEn := HEnd
  cases R1 with
  | false =>
    have HJv := Lib.hid (HJ0.out (Or.inl rfl))
    clear HJ0 HJ1 HJ2
    go_enter Try.func11, Try.ntmps11
    go_wp2_with fail
    rw [← HV1.out, ← HV.out]
    obtain ⟨z0, hzs⟩ := LatW.start V
    rw [← hzs]
    clear hzs
    generalize w.heap.size = H at x0 x1 x2 y0 y1 y2 y3 ⊢
    refine (HR1.out.at_ _).mono ?_
    rintro e w9 ⟨rfl, z9, rfl⟩
    go_wp2_with fail
    go_ret
    exact ⟨by rw [HJv.out]; rfl, HEn.out _⟩
  | true =>
    cases R2 with
    | false =>
      have HJv := Lib.hid (HJ0.out (Or.inr rfl))
      clear HJ0 HJ1 HJ2
      go_enter Try.func11, Try.ntmps11
      go_wp2_with fail
      rw [← HV1.out, ← HV.out]
      obtain ⟨z0, hzs⟩ := LatW.start V
      rw [← hzs]
      clear hzs
      generalize w.heap.size = H at x0 x1 x2 y0 y1 y2 y3 ⊢
      refine (HR1.out.at_ _).mono ?_
      rintro e w9 ⟨rfl, z9, rfl⟩
      go_wp2_with fail
      refine (HR2.out.at_ _).mono ?_
      rintro e w9 ⟨rfl, z8, rfl⟩
      go_wp2_with fail
      go_ret
      exact ⟨by rw [HJv.out]; rfl, HEn.out _⟩
    | true =>
      have HK1 := Lib.hid (HJ1.out rfl rfl)
      have HK2 := Lib.hid (HJ2.out rfl rfl)
      have hnm := HNm.out rfl
      have hw1 : IntKind.i64.wrap (tt - T) = tt - T := by rw [IntKind.wrap_i64]; omega
      have hw2 : IntKind.i64.wrap (tt - T + 1) = tt - T + 1 := by rw [IntKind.wrap_i64]; omega
      clear HJ0 HJ1 HJ2 HNm hnm
      go_enter Try.func11, Try.ntmps11
      go_wp2_with fail
      rw [← HV1.out, ← HV.out]
      obtain ⟨z0, hzs⟩ := LatW.start V
      rw [← hzs]
      clear hzs
      generalize w.heap.size = H at x0 x1 x2 y0 y1 y2 y3 ⊢
      refine (HR1.out.at_ _).mono ?_
      rintro e w9 ⟨rfl, z9, rfl⟩
      go_wp2_with fail
      refine (HR2.out.at_ _).mono ?_
      rintro e w9 ⟨rfl, z8, rfl⟩
      go_wp2_with fail
      cases d1 : decide (tt - T + 1 ≤ t) with
      | false =>
        obtain ⟨W, hW⟩ : ∃ W, z8.wd = W := ⟨_, rfl⟩
        have k0 : ∀ p : LatW W, p.wd.cell? ⟨H, 0, none⟩ = some (.int .i64 t) := fun p => by subst hW; exact x0 ⟨p.wd, z8.bel.trans (p.bel.mono z8.bel.size)⟩
        have k1 : ∀ p : LatW W, p.wd.cell? ⟨H, 1, none⟩ = some (.int .i64 y) := fun p => by subst hW; exact x1 ⟨p.wd, z8.bel.trans (p.bel.mono z8.bel.size)⟩
        have k2 : ∀ p : LatW W, p.wd.cell? ⟨H, 2, none⟩ = some (.bool hd) := fun p => by subst hW; exact x2 ⟨p.wd, z8.bel.trans (p.bel.mono z8.bel.size)⟩
        have l0 : ∀ p : LatW W, p.wd.cell? ⟨H + 1, 0, none⟩ = some (.slice A n c) := fun p => by subst hW; exact y0 ⟨p.wd, z8.bel.trans (p.bel.mono z8.bel.size)⟩
        have l1 : ∀ p : LatW W, p.wd.cell? ⟨H + 1, 1, none⟩ = some (.slice A2 m c2) := fun p => by subst hW; exact y1 ⟨p.wd, z8.bel.trans (p.bel.mono z8.bel.size)⟩
        have l2 : ∀ p : LatW W, p.wd.cell? ⟨H + 1, 2, none⟩ = some (.int .i64 f) := fun p => by subst hW; exact y2 ⟨p.wd, z8.bel.trans (p.bel.mono z8.bel.size)⟩
        have l3 : ∀ p : LatW W, p.wd.cell? ⟨H + 1, 3, none⟩ = some (.int .i64 tt) := fun p => by subst hW; exact y3 ⟨p.wd, z8.bel.trans (p.bel.mono z8.bel.size)⟩
        have HT9 : Hid (∀ p : LatW W, Calls Try.prog 31 #[.agg #[.slice A n c, .slice A2 m c2, .int .i64 f, .int .i64 tt]] p.wd fun e w' => e = .returned (.int .i64 T) ∧ Below p.wd.heap.size p.wd w') := Lib.hid (fun p => by
          subst hW
          exact HTa.out ⟨p.wd, z8.bel.trans (p.bel.mono z8.bel.size)⟩)
        have HE9 : Hid (∀ p : LatW W, Below w.heap.size w p.wd) := Lib.hid (fun p => by subst hW; exact HEnd.out ⟨p.wd, z8.bel.trans (p.bel.mono z8.bel.size)⟩)
        rw [hW]
        clear hW x0 x1 x2 y0 y1 y2 y3 HTa HJo HJn HBy HR1 HR2 HEnd HEn
        refine wp_region_later (by kernel_rfl) (by kernel_rfl) ?_
        repeat (first | go_big_quiet_skip | quiet_step (first | (go_at_call 31; exact Calls.later_of (HT9.out _))))
        refine wpQuiet_nil ?_
        intro w9 hw9
        obtain ⟨p9, hw9'⟩ := hw9
        subst hw9'
        cases hd with
        | true =>
          have HJv : Hid (J = 2) := Lib.hid (HK2.out (fun k => by have := of_decide_eq_false d1; omega))
          clear HK1 HK2
          go_wp2_with fail
          go_ret
          exact ⟨by rw [HJv.out]; rfl, HE9.out _⟩
        | false =>
          have HJv : Hid (J = 3) := Lib.hid (HK2.out (fun k => by have := of_decide_eq_false d1; omega))
          clear HK1 HK2
          go_wp2_with fail
          go_ret
          exact ⟨by rw [HJv.out]; rfl, HE9.out _⟩
      | true =>
        have H5 := Lib.hid trivial
        have N5 := Lib.hid trivial
        have H6 := Lib.hid trivial
        obtain ⟨zd, hzd⟩ := LatW.drawn z8
        cases d2 : decide ((Y : Int) ≤ y) with
        | true =>
          have HJv : Hid (J = 1) := Lib.hid (HK1.out (of_decide_eq_true d1) (of_decide_eq_true d2))
          clear HK1 HK2
          go_region_held3 (fun w' => w'.cell? ⟨H, 0, none⟩ = some (.int .i64 t) ∧ w'.cell? ⟨H, 1, none⟩ = some (.int .i64 y) ∧ w'.cell? ⟨H, 2, none⟩ = some (.bool hd) ∧ w'.cell? ⟨H + 1, 0, none⟩ = some (.slice A n c) ∧ w'.cell? ⟨H + 1, 1, none⟩ = some (.slice A2 m c2) ∧ w'.cell? ⟨H + 1, 2, none⟩ = some (.int .i64 f) ∧ w'.cell? ⟨H + 1, 3, none⟩ = some (.int .i64 tt)) (first | with_reducible exact ⟨x0 z7, x1 z7, x2 z7, y0 z7, y1 z7, y2 z7, y3 z7⟩ | with_reducible exact ⟨x0 z6, x1 z6, x2 z6, y0 z6, y1 z6, y2 z6, y3 z6⟩ | with_reducible exact ⟨x0 z5, x1 z5, x2 z5, y0 z5, y1 z5, y2 z5, y3 z5⟩ | with_reducible exact ⟨x0 z4, x1 z4, x2 z4, y0 z4, y1 z4, y2 z4, y3 z4⟩ | (rw [hzd]; with_reducible exact ⟨x0 zd, x1 zd, x2 zd, y0 zd, y1 zd, y2 zd, y3 zd⟩)) (first | (go_at_call 31; (try rw [hzd]); refine (HTa.out _).mono ?_; rintro e w9 ⟨rfl, hb9⟩; obtain ⟨z7, hz7⟩ := LatW.later _ hb9; subst hz7; clear hb9) | (go_at_call 34; (try rw [hzd]); refine (HJo.out _).mono ?_; rintro e w9 ⟨A5, c5, rfl, h5, n5, hb5⟩; replace H5 := Lib.hid h5; replace N5 := Lib.hid n5; obtain ⟨z6, hz6⟩ := LatW.later _ hb5; subst hz6; clear hb5 h5 n5) | (go_at_call 33; refine (HJn.out _ _ _ H5.out N5.out).mono ?_; rintro e w9 ⟨A6, c6, rfl, h6, n6, hb6⟩; replace H6 := Lib.hid h6; obtain ⟨z5, hz5⟩ := LatW.later _ hb6; subst hz5; clear hb6 h6 n6) | (go_at_call 32; refine (HBy.out _ _ _ H6.out).mono ?_; rintro e w9 ⟨rfl, hb9⟩; obtain ⟨z4, hz4⟩ := LatW.later _ hb9; subst hz4; clear hb9))
          all_goals (go_wp2_with fail; go_ret; exact ⟨by rw [HJv.out]; rfl, HEn.out _⟩)
        | false =>
          cases hd with
          | true =>
            have HJv : Hid (J = 2) := Lib.hid (HK2.out (fun k => by have := of_decide_eq_false d2; omega))
            clear HK1 HK2
            go_region_held3 (fun w' => w'.cell? ⟨H, 0, none⟩ = some (.int .i64 t) ∧ w'.cell? ⟨H, 1, none⟩ = some (.int .i64 y) ∧ w'.cell? ⟨H, 2, none⟩ = some (.bool true) ∧ w'.cell? ⟨H + 1, 0, none⟩ = some (.slice A n c) ∧ w'.cell? ⟨H + 1, 1, none⟩ = some (.slice A2 m c2) ∧ w'.cell? ⟨H + 1, 2, none⟩ = some (.int .i64 f) ∧ w'.cell? ⟨H + 1, 3, none⟩ = some (.int .i64 tt)) (first | with_reducible exact ⟨x0 z7, x1 z7, x2 z7, y0 z7, y1 z7, y2 z7, y3 z7⟩ | with_reducible exact ⟨x0 z6, x1 z6, x2 z6, y0 z6, y1 z6, y2 z6, y3 z6⟩ | with_reducible exact ⟨x0 z5, x1 z5, x2 z5, y0 z5, y1 z5, y2 z5, y3 z5⟩ | with_reducible exact ⟨x0 z4, x1 z4, x2 z4, y0 z4, y1 z4, y2 z4, y3 z4⟩ | (rw [hzd]; with_reducible exact ⟨x0 zd, x1 zd, x2 zd, y0 zd, y1 zd, y2 zd, y3 zd⟩)) (first | (go_at_call 31; (try rw [hzd]); refine (HTa.out _).mono ?_; rintro e w9 ⟨rfl, hb9⟩; obtain ⟨z7, hz7⟩ := LatW.later _ hb9; subst hz7; clear hb9) | (go_at_call 34; (try rw [hzd]); refine (HJo.out _).mono ?_; rintro e w9 ⟨A5, c5, rfl, h5, n5, hb5⟩; replace H5 := Lib.hid h5; replace N5 := Lib.hid n5; obtain ⟨z6, hz6⟩ := LatW.later _ hb5; subst hz6; clear hb5 h5 n5) | (go_at_call 33; refine (HJn.out _ _ _ H5.out N5.out).mono ?_; rintro e w9 ⟨A6, c6, rfl, h6, n6, hb6⟩; replace H6 := Lib.hid h6; obtain ⟨z5, hz5⟩ := LatW.later _ hb6; subst hz5; clear hb6 h6 n6) | (go_at_call 32; refine (HBy.out _ _ _ H6.out).mono ?_; rintro e w9 ⟨rfl, hb9⟩; obtain ⟨z4, hz4⟩ := LatW.later _ hb9; subst hz4; clear hb9))
            all_goals (go_wp2_with fail; go_ret; exact ⟨by rw [HJv.out]; rfl, HEn.out _⟩)
          | false =>
            have HJv : Hid (J = 3) := Lib.hid (HK2.out (fun k => by have := of_decide_eq_false d2; omega))
            clear HK1 HK2
            go_region_held3 (fun w' => w'.cell? ⟨H, 0, none⟩ = some (.int .i64 t) ∧ w'.cell? ⟨H, 1, none⟩ = some (.int .i64 y) ∧ w'.cell? ⟨H, 2, none⟩ = some (.bool false) ∧ w'.cell? ⟨H + 1, 0, none⟩ = some (.slice A n c) ∧ w'.cell? ⟨H + 1, 1, none⟩ = some (.slice A2 m c2) ∧ w'.cell? ⟨H + 1, 2, none⟩ = some (.int .i64 f) ∧ w'.cell? ⟨H + 1, 3, none⟩ = some (.int .i64 tt)) (first | with_reducible exact ⟨x0 z7, x1 z7, x2 z7, y0 z7, y1 z7, y2 z7, y3 z7⟩ | with_reducible exact ⟨x0 z6, x1 z6, x2 z6, y0 z6, y1 z6, y2 z6, y3 z6⟩ | with_reducible exact ⟨x0 z5, x1 z5, x2 z5, y0 z5, y1 z5, y2 z5, y3 z5⟩ | with_reducible exact ⟨x0 z4, x1 z4, x2 z4, y0 z4, y1 z4, y2 z4, y3 z4⟩ | (rw [hzd]; with_reducible exact ⟨x0 zd, x1 zd, x2 zd, y0 zd, y1 zd, y2 zd, y3 zd⟩)) (first | (go_at_call 31; (try rw [hzd]); refine (HTa.out _).mono ?_; rintro e w9 ⟨rfl, hb9⟩; obtain ⟨z7, hz7⟩ := LatW.later _ hb9; subst hz7; clear hb9) | (go_at_call 34; (try rw [hzd]); refine (HJo.out _).mono ?_; rintro e w9 ⟨A5, c5, rfl, h5, n5, hb5⟩; replace H5 := Lib.hid h5; replace N5 := Lib.hid n5; obtain ⟨z6, hz6⟩ := LatW.later _ hb5; subst hz6; clear hb5 h5 n5) | (go_at_call 33; refine (HJn.out _ _ _ H5.out N5.out).mono ?_; rintro e w9 ⟨A6, c6, rfl, h6, n6, hb6⟩; replace H6 := Lib.hid h6; obtain ⟨z5, hz5⟩ := LatW.later _ hb6; subst hz5; clear hb6 h6 n6) | (go_at_call 32; refine (HBy.out _ _ _ H6.out).mono ?_; rintro e w9 ⟨rfl, hb9⟩; obtain ⟨z4, hz4⟩ := LatW.later _ hb9; subst hz4; clear hb9))
            all_goals (go_wp2_with fail; go_ret; exact ⟨by rw [HJv.out]; rfl, HEn.out _⟩)
end Go.Proofs.Ythajgoigmkkbgaa
