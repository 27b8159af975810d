/- The walk of LinkTakes. -/
import Derived.Test.YtdhmkcomngbmaaaLinkM
namespace Go.Proofs.Ytdhmkcomngbmaaa
open Go.RowKit

theorem metX_len (x : LEnd) (n : Int) : (metX x n).out.length ≤ x.out.length := by
  unfold metX; split
  · split
    · exact Nat.le_refl _
    · exact Nat.zero_le _
  · exact Nat.le_refl _
theorem ackedX_len (x : LEnd) (n : Int) : (ackedX x n).out.length ≤ x.out.length := by
  unfold ackedX; split
  · show (x.out.drop _).length ≤ _
    rw [List.length_drop]; omega
  · exact Nat.le_refl _
theorem takeX_len (x : LEnd) (s : List UInt8) : (takeX x s).1.out.length ≤ x.out.length := by
  have h1 := metX_len x (heardOf s).n0
  have h2 := Nat.le_trans (ackedX_len (metX x (heardOf s).n0) (heardOf s).n3) h1
  unfold takeX
  split
  · exact Nat.le_refl _
  · simp only []
    split
    · exact h1
    · split
      · exact h2
      · split
        · exact h2
        · exact h2
theorem TakeEnd.split {r : LEnd × CameL} {w : World} {e : Ending} {w' : World} (h : TakeEnd r w e w') : ∃ A c, e = .returned (.tuple #[.agg #[.int .i64 r.1.ep, .int .i64 r.1.ot, .int .i64 r.1.fi, .slice A r.1.out.length c, .int .i64 r.1.wa], .agg #[.string (str r.2.piece), .bool r.2.has, .string (str r.2.reply), .bool r.2.anew]]) ∧ Strs w' w'.heap.size A r.1.out ∧ (A = none → c = 0) ∧ r.1.out.length ≤ c ∧ Below w.heap.size w w' := by
  obtain ⟨v, rfl, A, c, rfl, h1, h2, h3, h4⟩ := h
  exact ⟨A, c, rfl, h1, h2, h3, h4⟩
theorem RTakeEnd.split {r : LEnd × CameL} {w : World} {e : Ending} {w' : World} (h : RTakeEnd r w e w') : ∃ A c, e = .returned (.tuple #[.agg #[.int .i64 r.1.ep, .int .i64 r.1.ot, .int .i64 r.1.fi, .int .i64 r.1.wa, .slice A r.1.out.length c], .string (str r.2.piece), .bool r.2.has, .string (str r.2.reply), .bool r.2.anew]) ∧ Strs w' w'.heap.size A r.1.out ∧ Below w.heap.size w w' := by
  obtain ⟨v, rfl, A, c, rfl, h1, h2⟩ := h
  exact ⟨A, c, rfl, h1, h2⟩

set_option maxHeartbeats 4000000 in
set_option maxRecDepth 100000 in
theorem LinkTakes_walk {w : World} {A : Option Addr} {c : Nat} (x : LEnd) (s : List UInt8) (h : Strs w w.heap.size A x.out) (hn : A = none → c = 0) (hc : x.out.length ≤ c) (hl : x.out.length ≤ maxLen) (hx : ∀ p ∈ x.out, p.length ≤ maxLen) (hs : s.length ≤ 281474976710656) :
    Calls Try.prog 4 #[x.val A c, .string (str s)] w fun e w' => e = .returned (.bool true) ∧ Below w.heap.size w w' := by
  have hl2 : x.out.length ≤ 9223372036854775807 := by unfold maxLen at hl; omega
  obtain ⟨V, hV⟩ : ∃ V, V = w.alloc (.cells #[.int .i64 x.ep, .int .i64 x.ot, .int .i64 x.fi, .slice A x.out.length c, .int .i64 x.wa] 24) := ⟨_, rfl⟩
  have hBV : Below w.heap.size w V := by rw [hV]; exact below_one _ _
  have HF : Hid (Five V w.heap.size (.int .i64 x.ep) (.int .i64 x.ot) (.int .i64 x.fi) (.slice A x.out.length c) (.int .i64 x.wa) 24) := Lib.hid (by rw [hV]; exact Five.new _ _ _ _ _ _ _)
  have HV := Lib.hid hV
  have HBV := Lib.hid hBV
  have HS := Lib.hid (h.next hBV)
  have HFw : Hid (LatCalls Try.prog V 10 #[.agg #[.int .i64 x.ep, .int .i64 x.ot, .int .i64 x.fi, .slice A x.out.length c, .int .i64 x.wa]] (.bool (fewB x))) := Lib.hid (LatCalls.of fun z => few_any x A c z.wd ((h.next hBV).next z.bel) hl hx)
  have HN := Lib.hid hn
  have HC := Lib.hid hc
  clear hV hBV h hn hc hx
  cases hf : fewB x with
  | false =>
    rw [hf] at HFw
    unfold LEnd.val
    go_enter Try.func4, Try.ntmps4
    go_upto_region 1 with fail
    rw [← HV.out]
    have x0 := HF.out.c0
    have x1 := HF.out.c1
    have x2 := HF.out.c2
    have x3 := HF.out.c3
    have x4 := HF.out.c4
    go_wp2_with fail
    refine (HFw.out.at_ ⟨V, Below.refl _ _⟩).mono ?_
    rintro e w1 ⟨rfl, z1, rfl⟩
    go_wp2_with fail
    refine (awake15_any _).mono ?_
    rintro e w2 ⟨rfl, hb2⟩
    go_wp2_with fail
    go_ret
    exact ⟨rfl, below_next (lat_end HBV.out z1) hb2⟩
  | true =>
    rw [hf] at HFw
    cases hok : okB x with
    | false =>
      have HOk := Lib.hid hok
      have HTk := Lib.hid (fun z : LatW V => LTake_wrong x A c s z.wd (HS.out.next z.bel) HN.out HC.out hl2 hok)
      unfold LEnd.val at HTk ⊢
      clear hok
      go_enter Try.func4, Try.ntmps4
      go_upto_region 1 with fail
      rw [← HV.out]
      have x0 := fun z : LatW V => (HF.out.lat z).c0
      have x1 := fun z : LatW V => (HF.out.lat z).c1
      have x2 := fun z : LatW V => (HF.out.lat z).c2
      have x3 := fun z : LatW V => (HF.out.lat z).c3
      have x4 := fun z : LatW V => (HF.out.lat z).c4
      obtain ⟨z0, hz0⟩ := LatW.start V
      rw [← hz0]
      clear hz0
      go_wp2_with fail
      refine (HFw.out.at_ z0).mono ?_
      rintro e w1 ⟨rfl, z1, rfl⟩
      go_wp2_with fail
      refine (HTk.out z1).mono ?_
      intro e w2 he
      obtain ⟨A1, c1, rfl, hs1, hn1, hc1, hb2⟩ := he.split
      clear he
      simp only [CameL.none_, str_none]
      obtain ⟨z1b, hz1b⟩ := LatW.later z1 hb2
      subst hz1b
      clear hb2
      have hF2 := HF.out.lat z1b
      have hP : w.heap.size < z1b.wd.heap.size := hF2.lt
      have hb12 := below_news z1b.wd (.cells #[.int .i64 x.ep, .int .i64 x.ot, .int .i64 x.fi, .slice A1 x.out.length c1, .int .i64 x.wa] 24) (.cells #[.string ⟨#[]⟩, .bool false, .string ⟨#[]⟩, .bool false] 42)
      have HFy : Hid (Five ((z1b.wd.alloc (.cells #[.int .i64 x.ep, .int .i64 x.ot, .int .i64 x.fi, .slice A1 x.out.length c1, .int .i64 x.wa] 24)).alloc (.cells #[.string ⟨#[]⟩, .bool false, .string ⟨#[]⟩, .bool false] 42)) z1b.wd.heap.size (.int .i64 x.ep) (.int .i64 x.ot) (.int .i64 x.fi) (.slice A1 x.out.length c1) (.int .i64 x.wa) 24) := Lib.hid ((Five.new _ _ _ _ _ _ _).below (below_one _ _))
      have HKc : Hid (Quad ((z1b.wd.alloc (.cells #[.int .i64 x.ep, .int .i64 x.ot, .int .i64 x.fi, .slice A1 x.out.length c1, .int .i64 x.wa] 24)).alloc (.cells #[.string ⟨#[]⟩, .bool false, .string ⟨#[]⟩, .bool false] 42)) (z1b.wd.heap.size + 1) (.string ⟨#[]⟩) (.bool false) (.string ⟨#[]⟩) (.bool false) 42) := Lib.hid (by have t := Quad.new (z1b.wd.alloc (.cells #[.int .i64 x.ep, .int .i64 x.ot, .int .i64 x.fi, .slice A1 x.out.length c1, .int .i64 x.wa] 24)) (.string ⟨#[]⟩) (.bool false) (.string ⟨#[]⟩) (.bool false) 42; simpa using t)
      have HSy := Lib.hid (hs1.next hb12)
      have HSx := Lib.hid (HS.out.next (below_next z1b.bel hb12))
      have HFx := Lib.hid (hF2.below hb12)
      have HB2 := Lib.hid (below_next HBV.out (below_next z1b.bel hb12))
      go_upto_region 4 with fail
      clear x0 x1 x2 x3 x4
      obtain ⟨V2, hV2⟩ : ∃ V2, (z1b.wd.alloc (.cells #[.int .i64 x.ep, .int .i64 x.ot, .int .i64 x.fi, .slice A1 x.out.length c1, .int .i64 x.wa] 24)).alloc (.cells #[.string ⟨#[]⟩, .bool false, .string ⟨#[]⟩, .bool false] 42) = V2 := ⟨_, rfl⟩
      rw [hV2] at HFy HKc HSy HSx HFx HB2
      rw [hV2]
      clear hV2 hs1 hb12 hF2
      generalize z1b.wd.heap.size = Yb at *
      obtain ⟨z2, hz2⟩ := LatW.start V2
      rw [← hz2]
      clear hz2
      have HRt : Hid (LatCalls Try.prog V2 14 #[.agg #[.int .i64 x.ep, .int .i64 x.ot, .int .i64 x.fi, .slice A x.out.length c, .int .i64 x.wa]] (.bool false)) := Lib.hid (LatCalls.of fun z => by have t := LRight_any x A c z.wd (HSx.out.next z.bel) hl2; rw [HOk.out] at t; exact t)
      have HRy : Hid (LatCalls Try.prog V2 16 #[.agg #[.int .i64 x.ep, .int .i64 x.ot, .int .i64 x.fi, .slice A1 x.out.length c1, .int .i64 x.wa]] (.agg #[.int .i64 x.ep, .int .i64 x.ot, .int .i64 x.fi, .int .i64 x.wa, .slice A1 x.out.length c1])) := Lib.hid (LatCalls.of fun z => ref_any x A1 c1 z.wd)
      have HRx : Hid (LatCalls Try.prog V2 16 #[.agg #[.int .i64 x.ep, .int .i64 x.ot, .int .i64 x.fi, .slice A x.out.length c, .int .i64 x.wa]] (.agg #[.int .i64 x.ep, .int .i64 x.ot, .int .i64 x.fi, .int .i64 x.wa, .slice A x.out.length c])) := Lib.hid (LatCalls.of fun z => ref_any x A c z.wd)
      have HEq : Hid (LatCalls Try.prog V2 17 #[.agg #[.int .i64 x.ep, .int .i64 x.ot, .int .i64 x.fi, .int .i64 x.wa, .slice A1 x.out.length c1], .agg #[.int .i64 x.ep, .int .i64 x.ot, .int .i64 x.fi, .int .i64 x.wa, .slice A x.out.length c]] (.bool true)) := Lib.hid (LatCalls.of fun z => REqual_yes x A1 A c1 c _ _ z.wd hl (HSy.out.next z.bel) (HSx.out.next z.bel) (Nat.le_refl _) (Nat.le_refl _))
      have HAw : Hid (LatCalls Try.prog V2 11 #[] (.bool true)) := Lib.hid (LatCalls.of fun z => awake15_any z.wd)
      have heq := eql_came ⟨#[]⟩ ⟨#[]⟩ false false
      have hgd := guard_came
      have x0 := fun z : LatW V2 => (HFx.out.lat z).c0
      have x1 := fun z : LatW V2 => (HFx.out.lat z).c1
      have x2 := fun z : LatW V2 => (HFx.out.lat z).c2
      have x3 := fun z : LatW V2 => (HFx.out.lat z).c3
      have x4 := fun z : LatW V2 => (HFx.out.lat z).c4
      have y0 := fun z : LatW V2 => (HFy.out.lat z).c0
      have y1 := fun z : LatW V2 => (HFy.out.lat z).c1
      have y2 := fun z : LatW V2 => (HFy.out.lat z).c2
      have y3 := fun z : LatW V2 => (HFy.out.lat z).c3
      have y4 := fun z : LatW V2 => (HFy.out.lat z).c4
      have k0 := fun z : LatW V2 => (HKc.out.below z.bel).c0
      have k1 := fun z : LatW V2 => (HKc.out.below z.bel).c1
      have k2 := fun z : LatW V2 => (HKc.out.below z.bel).c2
      have k3 := fun z : LatW V2 => (HKc.out.below z.bel).c3
      go_wp2_with fail
      refine (HRt.out.at_ z2).mono ?_
      rintro e w3 ⟨rfl, z3, rfl⟩
      go_wp2_with fail
      refine wp_region_in15 (LatW.bel _) (by kernel_rfl) (by kernel_rfl) ?_
      repeat (first | go_big_quiet_skip | quiet_step (first | (go_at_call 16; with_reducible exact (HRy.out).at_ _) | (go_at_call 16; with_reducible exact (HRx.out).at_ _) | (go_at_call 17; with_reducible exact (HEq.out).at_ _) | (go_at_call 11; with_reducible exact (HAw.out).at_ _)) | (go_big_quiet_want; go_big_quiet_op; go_big_quiet_on))
      refine wpQuiet_nil ?_
      intro w9 hw9
      obtain ⟨z9, hw9'⟩ := hw9
      subst hw9'
      go_wp2_with fail
      go_ret
      exact ⟨rfl, lat_end HB2.out _⟩
    | true =>
      have HOk := Lib.hid hok
      have hX := (okB_iff x).1 hok
      have HTk := Lib.hid (fun z : LatW V => LTake_any x A c s z.wd (HS.out.next z.bel) HN.out HC.out hX hs)
      have HRT := Lib.hid (fun (W : World) (hW : Strs W W.heap.size A x.out) => RTake_any x A c s W hW HN.out HC.out hX hs)
      have hyl := takeX_len x s
      unfold LEnd.val at HTk ⊢
      unfold LEnd.rval at HRT
      clear hok hX
      generalize takeX x s = R at *
      go_enter Try.func4, Try.ntmps4
      go_upto_region 1 with fail
      rw [← HV.out]
      have x0 := fun z : LatW V => (HF.out.lat z).c0
      have x1 := fun z : LatW V => (HF.out.lat z).c1
      have x2 := fun z : LatW V => (HF.out.lat z).c2
      have x3 := fun z : LatW V => (HF.out.lat z).c3
      have x4 := fun z : LatW V => (HF.out.lat z).c4
      obtain ⟨z0, hz0⟩ := LatW.start V
      rw [← hz0]
      clear hz0
      go_wp2_with fail
      refine (HFw.out.at_ z0).mono ?_
      rintro e w1 ⟨rfl, z1, rfl⟩
      go_wp2_with fail
      refine (HTk.out z1).mono ?_
      intro e w2 he
      obtain ⟨A1, c1, rfl, hs1, hn1, hc1, hb2⟩ := he.split
      clear he
      obtain ⟨y, ⟨pc, has, rp, an⟩⟩ := R
      simp only at hs1 hc1 hyl HRT ⊢
      obtain ⟨z1b, hz1b⟩ := LatW.later z1 hb2
      subst hz1b
      clear hb2
      have hF2 := HF.out.lat z1b
      have hP : w.heap.size < z1b.wd.heap.size := hF2.lt
      have hb12 := below_news z1b.wd (.cells #[.int .i64 y.ep, .int .i64 y.ot, .int .i64 y.fi, .slice A1 y.out.length c1, .int .i64 y.wa] 24) (.cells #[.string (str pc), .bool has, .string (str rp), .bool an] 42)
      have HFy : Hid (Five ((z1b.wd.alloc (.cells #[.int .i64 y.ep, .int .i64 y.ot, .int .i64 y.fi, .slice A1 y.out.length c1, .int .i64 y.wa] 24)).alloc (.cells #[.string (str pc), .bool has, .string (str rp), .bool an] 42)) z1b.wd.heap.size (.int .i64 y.ep) (.int .i64 y.ot) (.int .i64 y.fi) (.slice A1 y.out.length c1) (.int .i64 y.wa) 24) := Lib.hid ((Five.new _ _ _ _ _ _ _).below (below_one _ _))
      have HKc : Hid (Quad ((z1b.wd.alloc (.cells #[.int .i64 y.ep, .int .i64 y.ot, .int .i64 y.fi, .slice A1 y.out.length c1, .int .i64 y.wa] 24)).alloc (.cells #[.string (str pc), .bool has, .string (str rp), .bool an] 42)) (z1b.wd.heap.size + 1) (.string (str pc)) (.bool has) (.string (str rp)) (.bool an) 42) := Lib.hid (by have t := Quad.new (z1b.wd.alloc (.cells #[.int .i64 y.ep, .int .i64 y.ot, .int .i64 y.fi, .slice A1 y.out.length c1, .int .i64 y.wa] 24)) (.string (str pc)) (.bool has) (.string (str rp)) (.bool an) 42; simpa using t)
      have HSy := Lib.hid (hs1.next hb12)
      have HSx := Lib.hid (HS.out.next (below_next z1b.bel hb12))
      have HFx := Lib.hid (hF2.below hb12)
      have HB2 := Lib.hid (below_next HBV.out (below_next z1b.bel hb12))
      go_upto_region 4 with fail
      clear x0 x1 x2 x3 x4
      obtain ⟨V2, hV2⟩ : ∃ V2, (z1b.wd.alloc (.cells #[.int .i64 y.ep, .int .i64 y.ot, .int .i64 y.fi, .slice A1 y.out.length c1, .int .i64 y.wa] 24)).alloc (.cells #[.string (str pc), .bool has, .string (str rp), .bool an] 42) = V2 := ⟨_, rfl⟩
      rw [hV2] at HFy HKc HSy HSx HFx HB2
      rw [hV2]
      clear hV2 hs1 hb12 hF2
      generalize z1b.wd.heap.size = Yb at *
      obtain ⟨z2, hz2⟩ := LatW.start V2
      rw [← hz2]
      clear hz2
      have HRt : Hid (LatCalls Try.prog V2 14 #[.agg #[.int .i64 x.ep, .int .i64 x.ot, .int .i64 x.fi, .slice A x.out.length c, .int .i64 x.wa]] (.bool true)) := Lib.hid (LatCalls.of fun z => by have t := LRight_any x A c z.wd (HSx.out.next z.bel) hl2; rw [HOk.out] at t; exact t)
      have HRx : Hid (LatCalls Try.prog V2 16 #[.agg #[.int .i64 x.ep, .int .i64 x.ot, .int .i64 x.fi, .slice A x.out.length c, .int .i64 x.wa]] (.agg #[.int .i64 x.ep, .int .i64 x.ot, .int .i64 x.fi, .int .i64 x.wa, .slice A x.out.length c])) := Lib.hid (LatCalls.of fun z => ref_any x A c z.wd)
      have x0 := fun z : LatW V2 => (HFx.out.lat z).c0
      have x1 := fun z : LatW V2 => (HFx.out.lat z).c1
      have x2 := fun z : LatW V2 => (HFx.out.lat z).c2
      have x3 := fun z : LatW V2 => (HFx.out.lat z).c3
      have x4 := fun z : LatW V2 => (HFx.out.lat z).c4
      have y0 := fun z : LatW V2 => (HFy.out.lat z).c0
      have y1 := fun z : LatW V2 => (HFy.out.lat z).c1
      have y2 := fun z : LatW V2 => (HFy.out.lat z).c2
      have y3 := fun z : LatW V2 => (HFy.out.lat z).c3
      have y4 := fun z : LatW V2 => (HFy.out.lat z).c4
      have k0 := fun z : LatW V2 => (HKc.out.below z.bel).c0
      have k1 := fun z : LatW V2 => (HKc.out.below z.bel).c1
      have k2 := fun z : LatW V2 => (HKc.out.below z.bel).c2
      have k3 := fun z : LatW V2 => (HKc.out.below z.bel).c3
      go_wp2_with fail
      refine (HRt.out.at_ z2).mono ?_
      rintro e w3 ⟨rfl, z3, rfl⟩
      go_wp2_with fail
      refine (HRx.out.at_ z3).mono ?_
      rintro e w4 ⟨rfl, z4, rfl⟩
      go_wp2_with fail
      refine (HRT.out _ (HSx.out.next z4.bel)).mono ?_
      intro e w5 he
      obtain ⟨A2, c2, rfl, hs2, hb5⟩ := he.split
      clear he
      simp only at hs2 ⊢
      clear x0 x1 x2 x3 x4 y0 y1 y2 y3 y4 k0 k1 k2 k3
      obtain ⟨z5, hz5⟩ := LatW.later z4 hb5
      subst hz5
      clear hb5
      have HFr := Lib.hid (Five.new z5.wd (.int .i64 y.ep) (.int .i64 y.ot) (.int .i64 y.fi) (.int .i64 y.wa) (.slice A2 y.out.length c2) 33)
      have HS3 := Lib.hid (hs2.next (below_one z5.wd (.cells #[.int .i64 y.ep, .int .i64 y.ot, .int .i64 y.fi, .int .i64 y.wa, .slice A2 y.out.length c2] 33)))
      go_upto_region 7 with fail
      obtain ⟨V3, hV3⟩ : ∃ V3, z5.wd.alloc (.cells #[.int .i64 y.ep, .int .i64 y.ot, .int .i64 y.fi, .int .i64 y.wa, .slice A2 y.out.length c2] 33) = V3 := ⟨_, rfl⟩
      have hb3 : Below V2.heap.size V2 V3 := by rw [← hV3]; exact below_next z5.bel (below_one _ _)
      rw [hV3] at HFr HS3
      rw [hV3]
      generalize z5.wd.heap.size = Rb at *
      have HFy3 := Lib.hid (HFy.out.below hb3)
      have HKc3 := Lib.hid (HKc.out.below hb3)
      have HSy3 := Lib.hid (HSy.out.next hb3)
      have HB3 := Lib.hid (below_next HB2.out hb3)
      clear hV3 hb3 hs2
      have HRy : Hid (LatCalls Try.prog V3 16 #[.agg #[.int .i64 y.ep, .int .i64 y.ot, .int .i64 y.fi, .slice A1 y.out.length c1, .int .i64 y.wa]] (.agg #[.int .i64 y.ep, .int .i64 y.ot, .int .i64 y.fi, .int .i64 y.wa, .slice A1 y.out.length c1])) := Lib.hid (LatCalls.of fun z => ref_any y A1 c1 z.wd)
      have HEq : Hid (LatCalls Try.prog V3 17 #[.agg #[.int .i64 y.ep, .int .i64 y.ot, .int .i64 y.fi, .int .i64 y.wa, .slice A1 y.out.length c1], .agg #[.int .i64 y.ep, .int .i64 y.ot, .int .i64 y.fi, .int .i64 y.wa, .slice A2 y.out.length c2]] (.bool true)) := Lib.hid (LatCalls.of fun z => REqual_yes y A1 A2 c1 c2 _ _ z.wd (Nat.le_trans hyl hl) (HSy3.out.next z.bel) (HS3.out.next z.bel) (Nat.le_refl _) (Nat.le_refl _))
      have HAw : Hid (LatCalls Try.prog V3 11 #[] (.bool true)) := Lib.hid (LatCalls.of fun z => awake15_any z.wd)
      have heq := eql_came (str pc) (str rp) has an
      have hgd := guard_came
      have y0 := fun z : LatW V3 => (HFy3.out.lat z).c0
      have y1 := fun z : LatW V3 => (HFy3.out.lat z).c1
      have y2 := fun z : LatW V3 => (HFy3.out.lat z).c2
      have y3 := fun z : LatW V3 => (HFy3.out.lat z).c3
      have y4 := fun z : LatW V3 => (HFy3.out.lat z).c4
      have k0 := fun z : LatW V3 => (HKc3.out.below z.bel).c0
      have k1 := fun z : LatW V3 => (HKc3.out.below z.bel).c1
      have k2 := fun z : LatW V3 => (HKc3.out.below z.bel).c2
      have k3 := fun z : LatW V3 => (HKc3.out.below z.bel).c3
      have r0 := fun z : LatW V3 => (HFr.out.lat z).c0
      have r1 := fun z : LatW V3 => (HFr.out.lat z).c1
      have r2 := fun z : LatW V3 => (HFr.out.lat z).c2
      have r3 := fun z : LatW V3 => (HFr.out.lat z).c3
      have r4 := fun z : LatW V3 => (HFr.out.lat z).c4
      obtain ⟨z6, hz6⟩ := LatW.start V3
      rw [← hz6]
      clear hz6
      refine wp_region_in15 (LatW.bel _) (by kernel_rfl) (by kernel_rfl) ?_
      repeat (first | go_big_quiet_skip | quiet_step (first | (go_at_call 16; with_reducible exact (HRy.out).at_ _) | (go_at_call 17; with_reducible exact (HEq.out).at_ _) | (go_at_call 11; with_reducible exact (HAw.out).at_ _)) | (go_big_quiet_want; go_big_quiet_op; go_big_quiet_on))
      refine wpQuiet_nil ?_
      intro w9 hw9
      obtain ⟨z9, hw9'⟩ := hw9
      subst hw9'
      go_wp2_with fail
      go_ret
      exact ⟨rfl, lat_end HB3.out _⟩
end Go.Proofs.Ytdhmkcomngbmaaa
