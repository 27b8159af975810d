/- The walk of LinkPuts. -/
import Derived.Test.YtdhmkcomngbmaaaLinkTakesW
namespace Go.Proofs.Ytdhmkcomngbmaaa
open Go.RowKit

theorem EndErr.split {y : LEnd} {s : List UInt8} {er : Int} {w : World} {e : Ending} {w' : World} (h : EndErr y s er w e w') : ∃ A c, e = .returned (.tuple #[.agg #[.int .i64 y.ep, .int .i64 y.ot, .int .i64 y.fi, .slice A y.out.length c, .int .i64 y.wa], .string (str s), .int .i64 er]) ∧ Strs w' w'.heap.size A y.out ∧ (A = none → c = 0) ∧ y.out.length ≤ c ∧ Below w.heap.size w w' := by
  obtain ⟨v, rfl, A, c, rfl, h1, h2, h3, h4⟩ := h
  exact ⟨A, c, rfl, h1, h2, h3, h4⟩
theorem EndRErr.split {y : LEnd} {s : List UInt8} {er : Int} {w : World} {e : Ending} {w' : World} (h : EndRErr y s er w e w') : ∃ A c, e = .returned (.tuple #[.agg #[.int .i64 y.ep, .int .i64 y.ot, .int .i64 y.fi, .int .i64 y.wa, .slice A y.out.length c], .string (str s), .int .i64 er]) ∧ Strs w' w'.heap.size A y.out ∧ Below w.heap.size w w' := by
  obtain ⟨v, rfl, A, c, rfl, h1, h2⟩ := h
  exact ⟨A, c, rfl, h1, h2⟩
/-- Both Puts answer alike. -/
theorem put_both (x : LEnd) (A : Option Addr) (c : Nat) (p : List UInt8) (hn : A = none → c = 0) (hx : x.Ok) :
    ∃ (y : LEnd) (s : List UInt8) (er : Int), y.out.length ≤ 65 ∧ (∀ W, Strs W W.heap.size A x.out → Calls Try.prog 12 #[x.val A c, .string (str p)] W (EndErr y s er W)) ∧
      (∀ W, Strs W W.heap.size A x.out → Calls Try.prog 18 #[x.rval A c, .string (str p)] W (EndRErr y s er W)) := by
  have := hx.len
  by_cases he : putE15 x p = 0
  · exact ⟨putX x p, putS x p, 0, by show (x.out ++ [p]).length ≤ 65; simp; omega, fun W h => LPut_yes x A c p W h hn hx he, fun W h => RPut_yes x A c p W h hn hx he⟩
  · exact ⟨LEnd.none_, [], putE15 x p, by simp [LEnd.none_], fun W h => LPut_no x A c p W h hx he, fun W h => RPut_no x A c p W hx he⟩

set_option maxHeartbeats 16000000 in
set_option maxRecDepth 100000 in
theorem LinkPuts_walk {w : World} {A : Option Addr} {c : Nat} (x : LEnd) (p : List UInt8) (h : Strs w w.heap.size A x.out) (hn : A = none → c = 0) (hc : x.out.length ≤ c) (hl : x.out.length ≤ maxLen) (hx : ∀ p ∈ x.out, p.length ≤ maxLen) :
    Calls Try.prog 3 #[x.val A c, .string (str p)] w fun e w' => e = .returned (.bool true) ∧ Below w.heap.size w w' := by
  have hl2 : x.out.length ≤ 9223372036854775807 := by unfold maxLen at hl; omega
  obtain ⟨V, hV⟩ : ∃ V, V = w.alloc (.cells #[.int .i64 x.ep, .int .i64 x.ot, .int .i64 x.fi, .slice A x.out.length c, .int .i64 x.wa] 24) := ⟨_, rfl⟩
  have hBV : Below w.heap.size w V := by rw [hV]; exact below_one _ _
  have HF : Hid (Five V w.heap.size (.int .i64 x.ep) (.int .i64 x.ot) (.int .i64 x.fi) (.slice A x.out.length c) (.int .i64 x.wa) 24) := Lib.hid (by rw [hV]; exact Five.new _ _ _ _ _ _ _)
  have HV := Lib.hid hV
  have HBV := Lib.hid hBV
  have HS := Lib.hid (h.next hBV)
  have HFw : Hid (LatCalls Try.prog V 10 #[.agg #[.int .i64 x.ep, .int .i64 x.ot, .int .i64 x.fi, .slice A x.out.length c, .int .i64 x.wa]] (.bool (fewB x))) := Lib.hid (LatCalls.of fun z => few_any x A c z.wd ((h.next hBV).next z.bel) hl hx)
  have HN := Lib.hid hn
  have HC := Lib.hid hc
  clear hV hBV h hn hc hx
  cases hf : fewB x with
  | false =>
    rw [hf] at HFw
    unfold LEnd.val
    go_enter Try.func3, Try.ntmps3
    go_upto_region 1 with fail
    rw [← HV.out]
    have x0 := HF.out.c0
    have x1 := HF.out.c1
    have x2 := HF.out.c2
    have x3 := HF.out.c3
    have x4 := HF.out.c4
    go_wp2_with fail
    refine (HFw.out.at_ ⟨V, Below.refl _ _⟩).mono ?_
    rintro e w1 ⟨rfl, z1, rfl⟩
    go_wp2_with fail
    refine (awake15_any _).mono ?_
    rintro e w2 ⟨rfl, hb2⟩
    go_wp2_with fail
    go_ret
    exact ⟨rfl, below_next (lat_end HBV.out z1) hb2⟩
  | true =>
    rw [hf] at HFw
    cases hok : okB x with
    | false =>
      have HOk := Lib.hid hok
      have HPt := Lib.hid (fun z : LatW V => LPut_wrong x A c p z.wd (HS.out.next z.bel) hl2 hok)
      have HTw := Lib.hid (fun (W : World) hW => LTick_wrong x A c W hW hl2 hok)
      unfold LEnd.val at HPt HTw ⊢
      clear hok
      go_enter Try.func3, Try.ntmps3
      go_upto_region 1 with fail
      rw [← HV.out]
      have x0 := fun z : LatW V => (HF.out.lat z).c0
      have x1 := fun z : LatW V => (HF.out.lat z).c1
      have x2 := fun z : LatW V => (HF.out.lat z).c2
      have x3 := fun z : LatW V => (HF.out.lat z).c3
      have x4 := fun z : LatW V => (HF.out.lat z).c4
      obtain ⟨z0, hz0⟩ := LatW.start V
      rw [← hz0]
      clear hz0
      go_wp2_with fail
      refine (HFw.out.at_ z0).mono ?_
      rintro e w1 ⟨rfl, z1, rfl⟩
      go_wp2_with fail
      refine (HPt.out z1).mono ?_
      intro e w2 he
      obtain ⟨A1, c1, rfl, hs1, hn1, hc1, hb2⟩ := he.split
      clear he
      obtain ⟨z1b, hz1b⟩ := LatW.later z1 hb2
      subst hz1b
      clear hb2
      have hF2 := HF.out.lat z1b
      have hP : w.heap.size < z1b.wd.heap.size := hF2.lt
      have hb12 := below_one z1b.wd (.cells #[.int .i64 LEnd.none_.ep, .int .i64 LEnd.none_.ot, .int .i64 LEnd.none_.fi, .slice A1 LEnd.none_.out.length c1, .int .i64 LEnd.none_.wa] 24)
      have HFy := Lib.hid (Five.new z1b.wd (.int .i64 LEnd.none_.ep) (.int .i64 LEnd.none_.ot) (.int .i64 LEnd.none_.fi) (.slice A1 LEnd.none_.out.length c1) (.int .i64 LEnd.none_.wa) 24)
      have HSy := Lib.hid (hs1.next hb12)
      have HSx := Lib.hid (HS.out.next (below_next z1b.bel hb12))
      have HFx := Lib.hid (hF2.below hb12)
      have HB2 := Lib.hid (below_next HBV.out (below_next z1b.bel hb12))
      go_upto_region 4 with fail
      clear x0 x1 x2 x3 x4
      obtain ⟨V2, hV2⟩ : ∃ V2, z1b.wd.alloc (.cells #[.int .i64 LEnd.none_.ep, .int .i64 LEnd.none_.ot, .int .i64 LEnd.none_.fi, .slice A1 LEnd.none_.out.length c1, .int .i64 LEnd.none_.wa] 24) = V2 := ⟨_, rfl⟩
      rw [hV2] at HFy HSy HSx HFx HB2
      rw [hV2]
      clear hV2 hs1 hb12 hF2
      generalize z1b.wd.heap.size = Yb at *
      have x0 := HFx.out.c0
      have x1 := HFx.out.c1
      have x2 := HFx.out.c2
      have x3 := HFx.out.c3
      have x4 := HFx.out.c4
      go_wp2_with fail
      refine (HTw.out _ HSx.out).mono ?_
      rintro e w5 ⟨A3, c3, rfl, hs3, hn3, hc3, hb5⟩
      have HFx3 := Lib.hid (HFx.out.below hb5)
      have HFy3 := Lib.hid (HFy.out.below hb5)
      have HSy3 := Lib.hid (HSy.out.next hb5)
      have HSx3 := Lib.hid (HSx.out.next hb5)
      have HB3 := Lib.hid (below_next HB2.out hb5)
      have HSl := Lib.hid hs3
      clear hb5 hs3 x0 x1 x2 x3 x4
      go_upto_region 5 with fail
      have HR0 : Hid (LatCalls Try.prog w5 14 #[.agg #[.int .i64 x.ep, .int .i64 x.ot, .int .i64 x.fi, .slice A x.out.length c, .int .i64 x.wa]] (.bool false)) := Lib.hid (LatCalls.of fun z => by have t := LRight_any x A c z.wd (HSx3.out.next z.bel) hl2; rw [HOk.out] at t; exact t)
      have HRx : Hid (LatCalls Try.prog w5 16 #[.agg #[.int .i64 x.ep, .int .i64 x.ot, .int .i64 x.fi, .slice A x.out.length c, .int .i64 x.wa]] (.agg #[.int .i64 x.ep, .int .i64 x.ot, .int .i64 x.fi, .int .i64 x.wa, .slice A x.out.length c])) := Lib.hid (LatCalls.of fun z => ref_any x A c z.wd)
      have HR1 : Hid (LatCalls Try.prog w5 15 #[.agg #[.int .i64 x.ep, .int .i64 x.ot, .int .i64 x.fi, .int .i64 x.wa, .slice A x.out.length c]] (.bool false)) := Lib.hid (LatCalls.of fun z => by have t := RRight_any x A c z.wd (HSx3.out.next z.bel) hl2; rw [HOk.out] at t; exact t)
      have x0 := fun z : LatW w5 => (HFx3.out.lat z).c0
      have x1 := fun z : LatW w5 => (HFx3.out.lat z).c1
      have x2 := fun z : LatW w5 => (HFx3.out.lat z).c2
      have x3 := fun z : LatW w5 => (HFx3.out.lat z).c3
      have x4 := fun z : LatW w5 => (HFx3.out.lat z).c4
      have y0 := fun z : LatW w5 => (HFy3.out.lat z).c0
      have y1 := fun z : LatW w5 => (HFy3.out.lat z).c1
      have y2 := fun z : LatW w5 => (HFy3.out.lat z).c2
      have y3 := fun z : LatW w5 => (HFy3.out.lat z).c3
      have y4 := fun z : LatW w5 => (HFy3.out.lat z).c4
      obtain ⟨z2, hz2⟩ := LatW.start w5
      rw [← hz2]
      clear hz2
      refine wp_region_in15 (LatW.bel _) (by kernel_rfl) (by kernel_rfl) ?_
      repeat (first | go_big_quiet_skip | quiet_step (first | (go_at_call 14; with_reducible exact (HR0.out).at_ _) | (go_at_call 16; with_reducible exact (HRx.out).at_ _) | (go_at_call 15; with_reducible exact (HR1.out).at_ _)) | (go_big_quiet_want; go_big_quiet_op; go_big_quiet_on))
      refine wpQuiet_nil ?_
      intro w9 hw9
      obtain ⟨z9, hw9'⟩ := hw9
      subst hw9'
      go_wp2_with fail
      refine (HR0.out.at_ _).mono ?_
      rintro e w6 ⟨rfl, z3, rfl⟩
      go_wp2_with fail
      have HRn : Hid (LatCalls Try.prog w5 16 #[.agg #[.int .i64 LEnd.none_.ep, .int .i64 LEnd.none_.ot, .int .i64 LEnd.none_.fi, .slice A1 LEnd.none_.out.length c1, .int .i64 LEnd.none_.wa]] (.agg #[.int .i64 LEnd.none_.ep, .int .i64 LEnd.none_.ot, .int .i64 LEnd.none_.fi, .int .i64 LEnd.none_.wa, .slice A1 LEnd.none_.out.length c1])) := Lib.hid (LatCalls.of fun z => ref_any LEnd.none_ A1 c1 z.wd)
      have HEq : Hid (LatCalls Try.prog w5 17 #[.agg #[.int .i64 LEnd.none_.ep, .int .i64 LEnd.none_.ot, .int .i64 LEnd.none_.fi, .int .i64 LEnd.none_.wa, .slice A1 LEnd.none_.out.length c1], .agg #[.int .i64 0, .int .i64 0, .int .i64 0, .int .i64 0, .slice none 0 0]] (.bool true)) := Lib.hid (LatCalls.of fun z => REqual_yes LEnd.none_ A1 none c1 0 _ 0 z.wd (by simp [LEnd.none_]) (HSy3.out.next z.bel) (.inl rfl) (Nat.le_refl _) (Nat.zero_le _))
      refine (HRn.out.at_ _).mono ?_
      rintro e w7 ⟨rfl, z4, rfl⟩
      go_wp2_with fail
      refine (HEq.out.at_ _).mono ?_
      rintro e w7 ⟨rfl, z5, rfl⟩
      have hem : (str []).toList.isEmpty = true := by rw [str_toList]; rfl
      go_wp2_with fail
      refine (awake15_any _).mono ?_
      rintro e w8 ⟨rfl, hb8⟩
      go_wp2_with fail
      go_ret
      exact ⟨rfl, below_next (lat_end HB3.out z5) hb8⟩
    | true =>
      have HOk := Lib.hid hok
      have hX := (okB_iff x).1 hok
      obtain ⟨y, s, er, hyl, hp1, hp2⟩ := put_both x A c p HN.out hX
      have HPt := Lib.hid (fun z : LatW V => hp1 z.wd (HS.out.next z.bel))
      have HRp := Lib.hid hp2
      have HTw := Lib.hid (fun (W : World) hW => LTick_ok x A c W hW hX)
      have HTr := Lib.hid (fun (W : World) hW => RTick_ok x A c W hW hX)
      have htl : (tickL x).length ≤ maxLen := by rw [tickL_len15]; unfold maxLen; omega
      unfold LEnd.val at HPt HTw ⊢
      unfold LEnd.rval at HRp HTr
      clear hok hX hp1 hp2
      generalize tickL x = TL at *
      go_enter Try.func3, Try.ntmps3
      go_upto_region 1 with fail
      rw [← HV.out]
      have x0 := fun z : LatW V => (HF.out.lat z).c0
      have x1 := fun z : LatW V => (HF.out.lat z).c1
      have x2 := fun z : LatW V => (HF.out.lat z).c2
      have x3 := fun z : LatW V => (HF.out.lat z).c3
      have x4 := fun z : LatW V => (HF.out.lat z).c4
      obtain ⟨z0, hz0⟩ := LatW.start V
      rw [← hz0]
      clear hz0
      go_wp2_with fail
      refine (HFw.out.at_ z0).mono ?_
      rintro e w1 ⟨rfl, z1, rfl⟩
      go_wp2_with fail
      refine (HPt.out z1).mono ?_
      intro e w2 he
      obtain ⟨A1, c1, rfl, hs1, hn1, hc1, hb2⟩ := he.split
      clear he
      obtain ⟨z1b, hz1b⟩ := LatW.later z1 hb2
      subst hz1b
      clear hb2
      have hF2 := HF.out.lat z1b
      have hP : w.heap.size < z1b.wd.heap.size := hF2.lt
      have hb12 := below_one z1b.wd (.cells #[.int .i64 y.ep, .int .i64 y.ot, .int .i64 y.fi, .slice A1 y.out.length c1, .int .i64 y.wa] 24)
      have HFy := Lib.hid (Five.new z1b.wd (.int .i64 y.ep) (.int .i64 y.ot) (.int .i64 y.fi) (.slice A1 y.out.length c1) (.int .i64 y.wa) 24)
      have HSy := Lib.hid (hs1.next hb12)
      have HSx := Lib.hid (HS.out.next (below_next z1b.bel hb12))
      have HFx := Lib.hid (hF2.below hb12)
      have HB2 := Lib.hid (below_next HBV.out (below_next z1b.bel hb12))
      go_upto_region 4 with fail
      clear x0 x1 x2 x3 x4
      obtain ⟨V2, hV2⟩ : ∃ V2, z1b.wd.alloc (.cells #[.int .i64 y.ep, .int .i64 y.ot, .int .i64 y.fi, .slice A1 y.out.length c1, .int .i64 y.wa] 24) = V2 := ⟨_, rfl⟩
      rw [hV2] at HFy HSy HSx HFx HB2
      rw [hV2]
      clear hV2 hs1 hb12 hF2
      generalize z1b.wd.heap.size = Yb at *
      have x0 := HFx.out.c0
      have x1 := HFx.out.c1
      have x2 := HFx.out.c2
      have x3 := HFx.out.c3
      have x4 := HFx.out.c4
      go_wp2_with fail
      refine (HTw.out _ HSx.out).mono ?_
      rintro e w5 ⟨A3, c3, rfl, hs3, hn3, hc3, hb5⟩
      have HFx3 := Lib.hid (HFx.out.below hb5)
      have HFy3 := Lib.hid (HFy.out.below hb5)
      have HSy3 := Lib.hid (HSy.out.next hb5)
      have HSx3 := Lib.hid (HSx.out.next hb5)
      have HB3 := Lib.hid (below_next HB2.out hb5)
      have HSl := Lib.hid hs3
      clear hb5 hs3 x0 x1 x2 x3 x4
      go_upto_region 5 with fail
      have HR0 : Hid (LatCalls Try.prog w5 14 #[.agg #[.int .i64 x.ep, .int .i64 x.ot, .int .i64 x.fi, .slice A x.out.length c, .int .i64 x.wa]] (.bool true)) := Lib.hid (LatCalls.of fun z => by have t := LRight_any x A c z.wd (HSx3.out.next z.bel) hl2; rw [HOk.out] at t; exact t)
      have HRx : Hid (LatCalls Try.prog w5 16 #[.agg #[.int .i64 x.ep, .int .i64 x.ot, .int .i64 x.fi, .slice A x.out.length c, .int .i64 x.wa]] (.agg #[.int .i64 x.ep, .int .i64 x.ot, .int .i64 x.fi, .int .i64 x.wa, .slice A x.out.length c])) := Lib.hid (LatCalls.of fun z => ref_any x A c z.wd)
      have HR1 : Hid (LatCalls Try.prog w5 15 #[.agg #[.int .i64 x.ep, .int .i64 x.ot, .int .i64 x.fi, .int .i64 x.wa, .slice A x.out.length c]] (.bool true)) := Lib.hid (LatCalls.of fun z => by have t := RRight_any x A c z.wd (HSx3.out.next z.bel) hl2; rw [HOk.out] at t; exact t)
      have x0 := fun z : LatW w5 => (HFx3.out.lat z).c0
      have x1 := fun z : LatW w5 => (HFx3.out.lat z).c1
      have x2 := fun z : LatW w5 => (HFx3.out.lat z).c2
      have x3 := fun z : LatW w5 => (HFx3.out.lat z).c3
      have x4 := fun z : LatW w5 => (HFx3.out.lat z).c4
      have y0 := fun z : LatW w5 => (HFy3.out.lat z).c0
      have y1 := fun z : LatW w5 => (HFy3.out.lat z).c1
      have y2 := fun z : LatW w5 => (HFy3.out.lat z).c2
      have y3 := fun z : LatW w5 => (HFy3.out.lat z).c3
      have y4 := fun z : LatW w5 => (HFy3.out.lat z).c4
      obtain ⟨z2, hz2⟩ := LatW.start w5
      rw [← hz2]
      clear hz2
      refine wp_region_in15 (LatW.bel _) (by kernel_rfl) (by kernel_rfl) ?_
      repeat (first | go_big_quiet_skip | quiet_step (first | (go_at_call 14; with_reducible exact (HR0.out).at_ _) | (go_at_call 16; with_reducible exact (HRx.out).at_ _) | (go_at_call 15; with_reducible exact (HR1.out).at_ _)) | (go_big_quiet_want; go_big_quiet_op; go_big_quiet_on))
      refine wpQuiet_nil ?_
      intro w9 hw9
      obtain ⟨z9, hw9'⟩ := hw9
      subst hw9'
      go_wp2_with fail
      refine (HR0.out.at_ _).mono ?_
      rintro e w6 ⟨rfl, z3, rfl⟩
      go_wp2_with fail
      refine (HRx.out.at_ _).mono ?_
      rintro e w7 ⟨rfl, z4, rfl⟩
      go_wp2_with fail
      refine (HRp.out _ (HSx3.out.next z4.bel)).mono ?_
      intro e w8 he
      obtain ⟨A2, c2, rfl, hs2, hb8⟩ := he.split
      clear he x0 x1 x2 x3 x4 y0 y1 y2 y3 y4
      obtain ⟨z5, hz5⟩ := LatW.later z4 hb8
      subst hz5
      clear hb8
      have HFr := Lib.hid (Five.new z5.wd (.int .i64 y.ep) (.int .i64 y.ot) (.int .i64 y.fi) (.int .i64 y.wa) (.slice A2 y.out.length c2) 33)
      have HS3 := Lib.hid (hs2.next (below_one z5.wd (.cells #[.int .i64 y.ep, .int .i64 y.ot, .int .i64 y.fi, .int .i64 y.wa, .slice A2 y.out.length c2] 33)))
      go_upto_region 10 with fail
      obtain ⟨V3, hV3⟩ : ∃ V3, z5.wd.alloc (.cells #[.int .i64 y.ep, .int .i64 y.ot, .int .i64 y.fi, .int .i64 y.wa, .slice A2 y.out.length c2] 33) = V3 := ⟨_, rfl⟩
      have hb3 : Below w5.heap.size w5 V3 := by rw [← hV3]; exact below_next z5.bel (below_one _ _)
      rw [hV3] at HFr HS3
      rw [hV3]
      generalize z5.wd.heap.size = Rb at *
      have HFx4 := Lib.hid (HFx3.out.below hb3)
      have HFy4 := Lib.hid (HFy3.out.below hb3)
      have HSy4 := Lib.hid (HSy3.out.next hb3)
      have HSx4 := Lib.hid (HSx3.out.next hb3)
      have HSl4 := Lib.hid (HSl.out.next hb3)
      have HB4 := Lib.hid (below_next HB3.out hb3)
      clear hV3 hb3 hs2
      have HRy : Hid (∀ W, Calls Try.prog 16 #[.agg #[.int .i64 y.ep, .int .i64 y.ot, .int .i64 y.fi, .slice A1 y.out.length c1, .int .i64 y.wa]] W fun e w' => e = .returned (.agg #[.int .i64 y.ep, .int .i64 y.ot, .int .i64 y.fi, .int .i64 y.wa, .slice A1 y.out.length c1]) ∧ Below W.heap.size W w') := Lib.hid (fun W => ref_any y A1 c1 W)
      have HRx2 : Hid (∀ W, Calls Try.prog 16 #[.agg #[.int .i64 x.ep, .int .i64 x.ot, .int .i64 x.fi, .slice A x.out.length c, .int .i64 x.wa]] W fun e w' => e = .returned (.agg #[.int .i64 x.ep, .int .i64 x.ot, .int .i64 x.fi, .int .i64 x.wa, .slice A x.out.length c]) ∧ Below W.heap.size W w') := Lib.hid (fun W => ref_any x A c W)
      have HEq : Hid (∀ z : LatW V3, Calls Try.prog 17 #[.agg #[.int .i64 y.ep, .int .i64 y.ot, .int .i64 y.fi, .int .i64 y.wa, .slice A1 y.out.length c1], .agg #[.int .i64 y.ep, .int .i64 y.ot, .int .i64 y.fi, .int .i64 y.wa, .slice A2 y.out.length c2]] z.wd fun e w' => e = .returned (.bool true) ∧ Below z.wd.heap.size z.wd w') := Lib.hid (fun z => REqual_yes y A1 A2 c1 c2 _ _ z.wd (by unfold maxLen; omega) (HSy4.out.next z.bel) (HS3.out.next z.bel) (Nat.le_refl _) (Nat.le_refl _))
      have HTk2 : Hid (∀ z : LatW V3, Calls Try.prog 20 #[.agg #[.int .i64 x.ep, .int .i64 x.ot, .int .i64 x.fi, .int .i64 x.wa, .slice A x.out.length c]] z.wd (txtsEnd TL z.wd)) := Lib.hid (fun z => HTr.out z.wd (HSx4.out.next z.bel))
      have HSm : Hid (∀ (z : LatW V3) (A4 : Option Addr) (c4 : Nat), Strs z.wd z.wd.heap.size A4 TL → Calls Try.prog 19 #[.slice A3 TL.length c3, .slice A4 TL.length c4] z.wd fun e w' => e = .returned (.bool true) ∧ Below z.wd.heap.size z.wd w') := Lib.hid (fun z A4 c4 h4 => Same_yes A3 A4 c3 c4 _ _ TL z.wd htl (HSl4.out.next z.bel) h4)
      have HA15 : Hid (∀ z : LatW V3, z.wd.cell? ⟨w.heap.size, 0, none⟩ = some (.int .i64 x.ep) ∧ z.wd.cell? ⟨w.heap.size, 1, none⟩ = some (.int .i64 x.ot) ∧ z.wd.cell? ⟨w.heap.size, 2, none⟩ = some (.int .i64 x.fi) ∧ z.wd.cell? ⟨w.heap.size, 3, none⟩ = some (.slice A x.out.length c) ∧ z.wd.cell? ⟨w.heap.size, 4, none⟩ = some (.int .i64 x.wa) ∧ z.wd.cell? ⟨Yb, 0, none⟩ = some (.int .i64 y.ep) ∧ z.wd.cell? ⟨Yb, 1, none⟩ = some (.int .i64 y.ot) ∧ z.wd.cell? ⟨Yb, 2, none⟩ = some (.int .i64 y.fi) ∧ z.wd.cell? ⟨Yb, 3, none⟩ = some (.slice A1 y.out.length c1) ∧ z.wd.cell? ⟨Yb, 4, none⟩ = some (.int .i64 y.wa) ∧ z.wd.cell? ⟨Rb, 0, none⟩ = some (.int .i64 y.ep) ∧ z.wd.cell? ⟨Rb, 1, none⟩ = some (.int .i64 y.ot) ∧ z.wd.cell? ⟨Rb, 2, none⟩ = some (.int .i64 y.fi) ∧ z.wd.cell? ⟨Rb, 3, none⟩ = some (.int .i64 y.wa) ∧ z.wd.cell? ⟨Rb, 4, none⟩ = some (.slice A2 y.out.length c2)) := Lib.hid (fun z => by
        obtain ⟨a0, a1, a2, a3, a4⟩ := (HFx4.out.lat z).all
        obtain ⟨b0, b1, b2, b3, b4⟩ := (HFy4.out.lat z).all
        obtain ⟨d0, d1, d2, d3, d4⟩ := (HFr.out.lat z).all
        exact ⟨a0, a1, a2, a3, a4, b0, b1, b2, b3, b4, d0, d1, d2, d3, d4⟩)
      have hd15 : V3.drew.cell? ⟨w.heap.size, 0, none⟩ = some (.int .i64 x.ep) ∧ V3.drew.cell? ⟨w.heap.size, 1, none⟩ = some (.int .i64 x.ot) ∧ V3.drew.cell? ⟨w.heap.size, 2, none⟩ = some (.int .i64 x.fi) ∧ V3.drew.cell? ⟨w.heap.size, 3, none⟩ = some (.slice A x.out.length c) ∧ V3.drew.cell? ⟨w.heap.size, 4, none⟩ = some (.int .i64 x.wa) ∧ V3.drew.cell? ⟨Yb, 0, none⟩ = some (.int .i64 y.ep) ∧ V3.drew.cell? ⟨Yb, 1, none⟩ = some (.int .i64 y.ot) ∧ V3.drew.cell? ⟨Yb, 2, none⟩ = some (.int .i64 y.fi) ∧ V3.drew.cell? ⟨Yb, 3, none⟩ = some (.slice A1 y.out.length c1) ∧ V3.drew.cell? ⟨Yb, 4, none⟩ = some (.int .i64 y.wa) ∧ V3.drew.cell? ⟨Rb, 0, none⟩ = some (.int .i64 y.ep) ∧ V3.drew.cell? ⟨Rb, 1, none⟩ = some (.int .i64 y.ot) ∧ V3.drew.cell? ⟨Rb, 2, none⟩ = some (.int .i64 y.fi) ∧ V3.drew.cell? ⟨Rb, 3, none⟩ = some (.int .i64 y.wa) ∧ V3.drew.cell? ⟨Rb, 4, none⟩ = some (.slice A2 y.out.length c2) := HA15.out (LatW.first V3)
      unfold txtsEnd at HTk2
      go_region_held3 (fun w' => w'.cell? ⟨w.heap.size, 0, none⟩ = some (.int .i64 x.ep) ∧ w'.cell? ⟨w.heap.size, 1, none⟩ = some (.int .i64 x.ot) ∧ w'.cell? ⟨w.heap.size, 2, none⟩ = some (.int .i64 x.fi) ∧ w'.cell? ⟨w.heap.size, 3, none⟩ = some (.slice A x.out.length c) ∧ w'.cell? ⟨w.heap.size, 4, none⟩ = some (.int .i64 x.wa) ∧ w'.cell? ⟨Yb, 0, none⟩ = some (.int .i64 y.ep) ∧ w'.cell? ⟨Yb, 1, none⟩ = some (.int .i64 y.ot) ∧ w'.cell? ⟨Yb, 2, none⟩ = some (.int .i64 y.fi) ∧ w'.cell? ⟨Yb, 3, none⟩ = some (.slice A1 y.out.length c1) ∧ w'.cell? ⟨Yb, 4, none⟩ = some (.int .i64 y.wa) ∧ w'.cell? ⟨Rb, 0, none⟩ = some (.int .i64 y.ep) ∧ w'.cell? ⟨Rb, 1, none⟩ = some (.int .i64 y.ot) ∧ w'.cell? ⟨Rb, 2, none⟩ = some (.int .i64 y.fi) ∧ w'.cell? ⟨Rb, 3, none⟩ = some (.int .i64 y.wa) ∧ w'.cell? ⟨Rb, 4, none⟩ = some (.slice A2 y.out.length c2)) (first | with_reducible exact HA15.out u6 | with_reducible exact HA15.out u5 | with_reducible exact HA15.out u4 | with_reducible exact HA15.out u3 | with_reducible exact HA15.out u2 | with_reducible exact HA15.out u1 | with_reducible exact hd15 | fail) (first | (go_at_call 16; (with_reducible refine (HRy.out _).mono ?_); rintro e w9 ⟨rfl, hb9⟩; obtain ⟨u1, hu⟩ := LatW.later (LatW.first V3) hb9; subst hu; clear hb9) | (go_at_call 17; (with_reducible refine (HEq.out _).mono ?_); rintro e w9 ⟨rfl, hb9⟩; obtain ⟨u2, hu⟩ := LatW.later u1 hb9; subst hu; clear hb9) | (go_at_call 16; (with_reducible refine (HRx2.out _).mono ?_); rintro e w9 ⟨rfl, hb9⟩; obtain ⟨u3, hu⟩ := LatW.later u2 hb9; subst hu; clear hb9) | (go_at_call 20; refine (HTk2.out u3).mono ?_; rintro e w9 ⟨A4, c4, rfl, hs4, hb9⟩; replace hs4 := Lib.hid hs4; obtain ⟨u4, hu⟩ := LatW.later u3 hb9; subst hu; clear hb9) | (go_at_call 19; refine (HSm.out u4 A4 c4 hs4.out).mono ?_; rintro e w9 ⟨rfl, hb9⟩; obtain ⟨u5, hu⟩ := LatW.later u4 hb9; subst hu; clear hb9) | (go_at_call 11; refine (awake15_any _).mono ?_; rintro e w9 ⟨rfl, hb9⟩; obtain ⟨u6, hu⟩ := LatW.later u5 hb9; subst hu; clear hb9) | fail)
      all_goals
        go_wp2_with fail
        go_ret
        exact ⟨rfl, lat_end HB4.out _⟩
end Go.Proofs.Ytdhmkcomngbmaaa
