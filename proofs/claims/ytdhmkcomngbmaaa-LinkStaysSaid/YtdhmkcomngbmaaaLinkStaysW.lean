/- The walk of LinkStays. -/
import Derived.Test.YtdhmkcomngbmaaaLinkTakesW
import Derived.Test.YtdhmkcomngbmaaaLinkV
namespace Go.Proofs.Ytdhmkcomngbmaaa
open Go.RowKit

theorem LPut_all (y : LEnd) (A : Option Addr) (c : Nat) (p : List UInt8) (w : World) (h : Strs w w.heap.size A y.out) (hn : A = none → c = 0) (hy : y.Ok) :
    Calls Try.prog 12 #[y.val A c, .string (str p)] w fun e w' => ∃ (z : LEnd) (s : List UInt8) (er : Int) (A3 : Option Addr) (c3 : Nat), e = .returned (.tuple #[.agg #[.int .i64 z.ep, .int .i64 z.ot, .int .i64 z.fi, .slice A3 z.out.length c3, .int .i64 z.wa], .string (str s), .int .i64 er]) ∧ Strs w' w'.heap.size A3 z.out ∧ (er = 0 → z.Ok ∧ z.out.length = y.out.length + 1) ∧ Below w.heap.size w w' := by
  by_cases he : putE15 y p = 0
  · refine (LPut_yes y A c p w h hn hy he).mono ?_
    rintro e w' ⟨v, rfl, A3, c3, rfl, h1, _, _, hb⟩
    exact ⟨_, _, _, A3, c3, rfl, h1, fun _ => put_stays hy he, hb⟩
  · refine (LPut_no y A c p w h hy he).mono ?_
    rintro e w' ⟨v, rfl, A3, c3, rfl, h1, _, _, hb⟩
    exact ⟨_, _, _, A3, c3, rfl, h1, fun e => absurd e he, hb⟩

set_option maxHeartbeats 16000000 in
set_option maxRecDepth 100000 in
theorem LinkStays_walk {w : World} {A : Option Addr} {c : Nat} (x : LEnd) (s p : List UInt8) (h : Strs w w.heap.size A x.out) (hn : A = none → c = 0) (hc : x.out.length ≤ c) (hl : x.out.length ≤ maxLen) (hx : ∀ p ∈ x.out, p.length ≤ maxLen) (hs : s.length ≤ 281474976710656) :
    Calls Try.prog 8 #[x.val A c, .string (str s), .string (str p)] w fun e w' => e = .returned (.bool true) ∧ Below w.heap.size w w' := by
  have hl2 : x.out.length ≤ 9223372036854775807 := by unfold maxLen at hl; omega
  obtain ⟨V, hV⟩ : ∃ V, V = w.alloc (.cells #[.int .i64 x.ep, .int .i64 x.ot, .int .i64 x.fi, .slice A x.out.length c, .int .i64 x.wa] 24) := ⟨_, rfl⟩
  have hBV : Below w.heap.size w V := by rw [hV]; exact below_one _ _
  have HF : Hid (Five V w.heap.size (.int .i64 x.ep) (.int .i64 x.ot) (.int .i64 x.fi) (.slice A x.out.length c) (.int .i64 x.wa) 24) := Lib.hid (by rw [hV]; exact Five.new _ _ _ _ _ _ _)
  have HV := Lib.hid hV
  have HBV := Lib.hid hBV
  have HS := Lib.hid (h.next hBV)
  have HFw : Hid (LatCalls Try.prog V 10 #[.agg #[.int .i64 x.ep, .int .i64 x.ot, .int .i64 x.fi, .slice A x.out.length c, .int .i64 x.wa]] (.bool (fewB x))) := Lib.hid (LatCalls.of fun z => few_any x A c z.wd ((h.next hBV).next z.bel) hl hx)
  have HR0 : Hid (LatCalls Try.prog V 14 #[.agg #[.int .i64 x.ep, .int .i64 x.ot, .int .i64 x.fi, .slice A x.out.length c, .int .i64 x.wa]] (.bool (okB x))) := Lib.hid (LatCalls.of fun z => LRight_any x A c z.wd ((h.next hBV).next z.bel) hl2)
  have HN := Lib.hid hn
  have HC := Lib.hid hc
  clear hV hBV h hn hc hx
  cases hf : fewB x with
  | false =>
    rw [hf] at HFw
    unfold LEnd.val
    go_enter Try.func8, Try.ntmps8
    go_upto_region 1 with fail
    rw [← HV.out]
    have x0 := HF.out.c0
    have x1 := HF.out.c1
    have x2 := HF.out.c2
    have x3 := HF.out.c3
    have x4 := HF.out.c4
    go_wp2_with fail
    refine (HFw.out.at_ ⟨V, Below.refl _ _⟩).mono ?_
    rintro e w1 ⟨rfl, z1, rfl⟩
    go_wp2_with fail
    refine (awake15_any _).mono ?_
    rintro e w2 ⟨rfl, hb2⟩
    go_wp2_with fail
    go_ret
    exact ⟨rfl, below_next (lat_end HBV.out z1) hb2⟩
  | true =>
    rw [hf] at HFw
    cases hok : okB x with
    | false =>
      rw [hok] at HR0
      unfold LEnd.val
      go_enter Try.func8, Try.ntmps8
      go_upto_region 1 with fail
      rw [← HV.out]
      have x0 := fun z : LatW V => (HF.out.lat z).c0
      have x1 := fun z : LatW V => (HF.out.lat z).c1
      have x2 := fun z : LatW V => (HF.out.lat z).c2
      have x3 := fun z : LatW V => (HF.out.lat z).c3
      have x4 := fun z : LatW V => (HF.out.lat z).c4
      obtain ⟨z0, hz0⟩ := LatW.start V
      rw [← hz0]
      clear hz0
      go_wp2_with fail
      refine (HFw.out.at_ z0).mono ?_
      rintro e w1 ⟨rfl, z1, rfl⟩
      go_wp2_with fail
      refine (HR0.out.at_ z1).mono ?_
      rintro e w1 ⟨rfl, z1, rfl⟩
      go_wp2_with fail
      refine (awake15_any _).mono ?_
      rintro e w8 ⟨rfl, hb8⟩
      go_wp2_with fail
      go_ret
      exact ⟨rfl, below_next (lat_end HBV.out z1) hb8⟩
    | true =>
      rw [hok] at HR0
      by_cases g1 : 549755813888 < x.fi
      case pos =>
        unfold LEnd.val
        go_enter Try.func8, Try.ntmps8
        go_upto_region 1 with fail
        rw [← HV.out]
        have x0 := fun z : LatW V => (HF.out.lat z).c0
        have x1 := fun z : LatW V => (HF.out.lat z).c1
        have x2 := fun z : LatW V => (HF.out.lat z).c2
        have x3 := fun z : LatW V => (HF.out.lat z).c3
        have x4 := fun z : LatW V => (HF.out.lat z).c4
        obtain ⟨z0, hz0⟩ := LatW.start V
        rw [← hz0]
        clear hz0
        go_wp2_with fail
        refine (HFw.out.at_ z0).mono ?_
        rintro e w1 ⟨rfl, z1, rfl⟩
        go_wp2_with fail
        refine (HR0.out.at_ z1).mono ?_
        rintro e w1 ⟨rfl, z1, rfl⟩
        go_wp2_with fail
        refine (awake15_any _).mono ?_
        rintro e w8 ⟨rfl, hb8⟩
        go_wp2_with fail
        go_ret
        exact ⟨rfl, below_next (lat_end HBV.out z1) hb8⟩
      by_cases g2 : 549755813888 < x.wa
      case pos =>
        unfold LEnd.val
        go_enter Try.func8, Try.ntmps8
        go_upto_region 1 with fail
        rw [← HV.out]
        have x0 := fun z : LatW V => (HF.out.lat z).c0
        have x1 := fun z : LatW V => (HF.out.lat z).c1
        have x2 := fun z : LatW V => (HF.out.lat z).c2
        have x3 := fun z : LatW V => (HF.out.lat z).c3
        have x4 := fun z : LatW V => (HF.out.lat z).c4
        obtain ⟨z0, hz0⟩ := LatW.start V
        rw [← hz0]
        clear hz0
        go_wp2_with fail
        refine (HFw.out.at_ z0).mono ?_
        rintro e w1 ⟨rfl, z1, rfl⟩
        go_wp2_with fail
        refine (HR0.out.at_ z1).mono ?_
        rintro e w1 ⟨rfl, z1, rfl⟩
        go_wp2_with fail
        refine (awake15_any _).mono ?_
        rintro e w8 ⟨rfl, hb8⟩
        go_wp2_with fail
        go_ret
        exact ⟨rfl, below_next (lat_end HBV.out z1) hb8⟩
      have hX := (okB_iff x).1 hok
      have HTk := Lib.hid (fun z : LatW V => LTake_any x A c s z.wd (HS.out.next z.bel) HN.out HC.out hX hs)
      have HSta := Lib.hid (take_stays hX (by omega) s)
      have hyl := takeX_len x s
      have hxl := hX.len
      unfold LEnd.val at HTk ⊢
      clear hok hX
      generalize takeX x s = R at *
      go_enter Try.func8, Try.ntmps8
      go_upto_region 1 with fail
      rw [← HV.out]
      have x0 := fun z : LatW V => (HF.out.lat z).c0
      have x1 := fun z : LatW V => (HF.out.lat z).c1
      have x2 := fun z : LatW V => (HF.out.lat z).c2
      have x3 := fun z : LatW V => (HF.out.lat z).c3
      have x4 := fun z : LatW V => (HF.out.lat z).c4
      obtain ⟨z0, hz0⟩ := LatW.start V
      rw [← hz0]
      clear hz0
      go_wp2_with fail
      refine (HFw.out.at_ z0).mono ?_
      rintro e w1 ⟨rfl, z1, rfl⟩
      go_wp2_with fail
      refine (HR0.out.at_ z1).mono ?_
      rintro e w1 ⟨rfl, z1, rfl⟩
      go_wp2_with fail
      refine (HTk.out z1).mono ?_
      intro e w2 he
      obtain ⟨A1, c1, rfl, hs1, hn1, hc1, hb2⟩ := he.split
      clear he
      obtain ⟨y, ⟨pc, has, rp, an⟩⟩ := R
      simp only at hs1 hc1 hyl HSta ⊢
      have HN1 : Hid (A1 = none → c1 = 0) := Lib.hid hn1
      obtain ⟨z1b, hz1b⟩ := LatW.later z1 hb2
      subst hz1b
      clear hb2
      have hF2 := HF.out.lat z1b
      have hP : w.heap.size < z1b.wd.heap.size := hF2.lt
      have hb12 := below_news z1b.wd (.cells #[.int .i64 y.ep, .int .i64 y.ot, .int .i64 y.fi, .slice A1 y.out.length c1, .int .i64 y.wa] 24) (.cells #[.string (str pc), .bool has, .string (str rp), .bool an] 42)
      have HFy : Hid (Five ((z1b.wd.alloc (.cells #[.int .i64 y.ep, .int .i64 y.ot, .int .i64 y.fi, .slice A1 y.out.length c1, .int .i64 y.wa] 24)).alloc (.cells #[.string (str pc), .bool has, .string (str rp), .bool an] 42)) z1b.wd.heap.size (.int .i64 y.ep) (.int .i64 y.ot) (.int .i64 y.fi) (.slice A1 y.out.length c1) (.int .i64 y.wa) 24) := Lib.hid ((Five.new _ _ _ _ _ _ _).below (below_one _ _))
      have HKc : Hid (Quad ((z1b.wd.alloc (.cells #[.int .i64 y.ep, .int .i64 y.ot, .int .i64 y.fi, .slice A1 y.out.length c1, .int .i64 y.wa] 24)).alloc (.cells #[.string (str pc), .bool has, .string (str rp), .bool an] 42)) (z1b.wd.heap.size + 1) (.string (str pc)) (.bool has) (.string (str rp)) (.bool an) 42) := Lib.hid (by have t := Quad.new (z1b.wd.alloc (.cells #[.int .i64 y.ep, .int .i64 y.ot, .int .i64 y.fi, .slice A1 y.out.length c1, .int .i64 y.wa] 24)) (.string (str pc)) (.bool has) (.string (str rp)) (.bool an) 42; simpa using t)
      have HSy := Lib.hid (hs1.next hb12)
      have HSx := Lib.hid (HS.out.next (below_next z1b.bel hb12))
      have HFx := Lib.hid (hF2.below hb12)
      have HB2 := Lib.hid (below_next HBV.out (below_next z1b.bel hb12))
      go_upto_region 4 with fail
      clear x0 x1 x2 x3 x4
      obtain ⟨V2, hV2⟩ : ∃ V2, (z1b.wd.alloc (.cells #[.int .i64 y.ep, .int .i64 y.ot, .int .i64 y.fi, .slice A1 y.out.length c1, .int .i64 y.wa] 24)).alloc (.cells #[.string (str pc), .bool has, .string (str rp), .bool an] 42) = V2 := ⟨_, rfl⟩
      rw [hV2] at HFy HKc HSy HSx HFx HB2
      rw [hV2]
      clear hV2 hs1 hb12 hF2
      generalize z1b.wd.heap.size = Yb at *
      obtain ⟨z2, hz2⟩ := LatW.start V2
      rw [← hz2]
      clear hz2
      have x0 := fun z : LatW V2 => (HFx.out.lat z).c0
      have x1 := fun z : LatW V2 => (HFx.out.lat z).c1
      have x2 := fun z : LatW V2 => (HFx.out.lat z).c2
      have x3 := fun z : LatW V2 => (HFx.out.lat z).c3
      have x4 := fun z : LatW V2 => (HFx.out.lat z).c4
      have y0 := fun z : LatW V2 => (HFy.out.lat z).c0
      have y1 := fun z : LatW V2 => (HFy.out.lat z).c1
      have y2 := fun z : LatW V2 => (HFy.out.lat z).c2
      have y3 := fun z : LatW V2 => (HFy.out.lat z).c3
      have y4 := fun z : LatW V2 => (HFy.out.lat z).c4
      have k0 := fun z : LatW V2 => (HKc.out.below z.bel).c0
      have k1 := fun z : LatW V2 => (HKc.out.below z.bel).c1
      have k2 := fun z : LatW V2 => (HKc.out.below z.bel).c2
      have k3 := fun z : LatW V2 => (HKc.out.below z.bel).c3
      have HPt := Lib.hid (fun (W : World) hW => LPut_all y A1 c1 p W hW HN1.out HSta.out.ok)
      unfold LEnd.val at HPt
      go_wp2_with fail
      refine (HPt.out _ (HSy.out.next z2.bel)).mono ?_
      rintro e w5 ⟨z, s3, er, A3, c3, rfl, hs3, hz3, hb5⟩
      obtain ⟨z3, hz3'⟩ := LatW.later z2 hb5
      subst hz3'
      clear hb5 x0 x1 x2 x3 x4 y0 y1 y2 y3 y4 k0 k1 k2 k3
      have HFz := Lib.hid (Five.new z3.wd (.int .i64 z.ep) (.int .i64 z.ot) (.int .i64 z.fi) (.slice A3 z.out.length c3) (.int .i64 z.wa) 24)
      have HS3 := Lib.hid (hs3.next (below_one z3.wd (.cells #[.int .i64 z.ep, .int .i64 z.ot, .int .i64 z.fi, .slice A3 z.out.length c3, .int .i64 z.wa] 24)))
      have HZ3 := Lib.hid hz3
      clear hz3 hs3
      go_upto_region 5 with fail
      obtain ⟨V3, hV3⟩ : ∃ V3, z3.wd.alloc (.cells #[.int .i64 z.ep, .int .i64 z.ot, .int .i64 z.fi, .slice A3 z.out.length c3, .int .i64 z.wa] 24) = V3 := ⟨_, rfl⟩
      have hb3 : Below V2.heap.size V2 V3 := by rw [← hV3]; exact below_next z3.bel (below_one _ _)
      rw [hV3] at HFz HS3
      rw [hV3]
      generalize z3.wd.heap.size = Zb at *
      have HFx3 := Lib.hid (HFx.out.below hb3)
      have HFy3 := Lib.hid (HFy.out.below hb3)
      have HKc3 := Lib.hid (HKc.out.below hb3)
      have HSy3 := Lib.hid (HSy.out.next hb3)
      have HB3 := Lib.hid (below_next HB2.out hb3)
      clear hV3 hb3
      have hyok : okB y = true := (okB_iff y).2 HSta.out.ok
      have HRy : Hid (LatCalls Try.prog V3 14 #[.agg #[.int .i64 y.ep, .int .i64 y.ot, .int .i64 y.fi, .slice A1 y.out.length c1, .int .i64 y.wa]] (.bool true)) := Lib.hid (LatCalls.of fun zz => by have t := LRight_any y A1 c1 zz.wd (HSy3.out.next zz.bel) (by omega); rw [hyok] at t; exact t)
      clear hyok
      have hy1 : (y.ep == x.ep) = true := beq_iff_eq.2 HSta.out.ep
      have hy2 : x.ot ≤ y.ot := HSta.out.ot
      have x0 := fun z : LatW V3 => (HFx3.out.lat z).c0
      have x1 := fun z : LatW V3 => (HFx3.out.lat z).c1
      have x2 := fun z : LatW V3 => (HFx3.out.lat z).c2
      have x3 := fun z : LatW V3 => (HFx3.out.lat z).c3
      have x4 := fun z : LatW V3 => (HFx3.out.lat z).c4
      have y0 := fun z : LatW V3 => (HFy3.out.lat z).c0
      have y1 := fun z : LatW V3 => (HFy3.out.lat z).c1
      have y2 := fun z : LatW V3 => (HFy3.out.lat z).c2
      have y3 := fun z : LatW V3 => (HFy3.out.lat z).c3
      have y4 := fun z : LatW V3 => (HFy3.out.lat z).c4
      have k0 := fun z : LatW V3 => (HKc3.out.below z.bel).c0
      have k1 := fun z : LatW V3 => (HKc3.out.below z.bel).c1
      have k2 := fun z : LatW V3 => (HKc3.out.below z.bel).c2
      have k3 := fun z : LatW V3 => (HKc3.out.below z.bel).c3
      have r0 := fun z : LatW V3 => (HFz.out.lat z).c0
      have r1 := fun z : LatW V3 => (HFz.out.lat z).c1
      have r2 := fun z : LatW V3 => (HFz.out.lat z).c2
      have r3 := fun z : LatW V3 => (HFz.out.lat z).c3
      have r4 := fun z : LatW V3 => (HFz.out.lat z).c4
      obtain ⟨z4, hz4⟩ := LatW.start V3
      rw [← hz4]
      clear hz4
      by_cases her : er = 0
      case neg =>
        have her2 : (er == 0) = false := beq_eq_false_iff_ne.2 her
        go_wp2_with fail
        refine (HRy.out.at_ z4).mono ?_
        rintro e w6 ⟨rfl, z5, rfl⟩
        by_cases hw : x.wa ≤ y.wa
        case pos =>
          cases has with
          | false =>
            cases an with
            | false =>
              go_wp2_with fail
              refine (awake15_any _).mono ?_
              rintro e w8 ⟨rfl, hb8⟩
              go_wp2_with fail
              go_ret
              exact ⟨rfl, below_next (lat_end HB3.out z5) hb8⟩
            | true =>
              have ha : y.out = [] := HSta.out.anew rfl
              have ha2 : ((y.out.length : Int) == 0) = true := by rw [ha]; rfl
              clear ha
              go_wp2_with fail
              refine (awake15_any _).mono ?_
              rintro e w8 ⟨rfl, hb8⟩
              go_wp2_with fail
              go_ret
              exact ⟨rfl, below_next (lat_end HB3.out z5) hb8⟩
          | true =>
            have hh := HSta.out.has rfl
            replace hh : 1 < y.wa := hh
            cases an with
            | false =>
              go_wp2_with fail
              refine (awake15_any _).mono ?_
              rintro e w8 ⟨rfl, hb8⟩
              go_wp2_with fail
              go_ret
              exact ⟨rfl, below_next (lat_end HB3.out z5) hb8⟩
            | true =>
              have ha : y.out = [] := HSta.out.anew rfl
              have ha2 : ((y.out.length : Int) == 0) = true := by rw [ha]; rfl
              clear ha
              go_wp2_with fail
              refine (awake15_any _).mono ?_
              rintro e w8 ⟨rfl, hb8⟩
              go_wp2_with fail
              go_ret
              exact ⟨rfl, below_next (lat_end HB3.out z5) hb8⟩
        case neg =>
          have hot : x.ot < y.ot := by rcases HSta.out.wa with h | h <;> omega
          have hw2 : ¬ x.wa ≤ y.wa := hw
          cases has with
          | false =>
            cases an with
            | false =>
              go_wp2_with fail
              refine (awake15_any _).mono ?_
              rintro e w8 ⟨rfl, hb8⟩
              go_wp2_with fail
              go_ret
              exact ⟨rfl, below_next (lat_end HB3.out z5) hb8⟩
            | true =>
              have ha : y.out = [] := HSta.out.anew rfl
              have ha2 : ((y.out.length : Int) == 0) = true := by rw [ha]; rfl
              clear ha
              go_wp2_with fail
              refine (awake15_any _).mono ?_
              rintro e w8 ⟨rfl, hb8⟩
              go_wp2_with fail
              go_ret
              exact ⟨rfl, below_next (lat_end HB3.out z5) hb8⟩
          | true =>
            have hh := HSta.out.has rfl
            replace hh : 1 < y.wa := hh
            cases an with
            | false =>
              go_wp2_with fail
              refine (awake15_any _).mono ?_
              rintro e w8 ⟨rfl, hb8⟩
              go_wp2_with fail
              go_ret
              exact ⟨rfl, below_next (lat_end HB3.out z5) hb8⟩
            | true =>
              have ha : y.out = [] := HSta.out.anew rfl
              have ha2 : ((y.out.length : Int) == 0) = true := by rw [ha]; rfl
              clear ha
              go_wp2_with fail
              refine (awake15_any _).mono ?_
              rintro e w8 ⟨rfl, hb8⟩
              go_wp2_with fail
              go_ret
              exact ⟨rfl, below_next (lat_end HB3.out z5) hb8⟩
      case pos =>
        obtain ⟨hzo, hzl⟩ := HZ3.out her
        subst her
        have hzok : okB z = true := (okB_iff z).2 hzo
        have HRz : Hid (LatCalls Try.prog V3 14 #[.agg #[.int .i64 z.ep, .int .i64 z.ot, .int .i64 z.fi, .slice A3 z.out.length c3, .int .i64 z.wa]] (.bool true)) := Lib.hid (LatCalls.of fun zz => by have t := LRight_any z A3 c3 zz.wd (HS3.out.next zz.bel) (by omega); rw [hzok] at t; exact t)
        have hlz : ((z.out.length : Int) != (y.out.length : Int) + 1) = false := by rw [hzl]; simp
        have hwl : IntKind.i64.wrap ((y.out.length : Int) + 1) = (y.out.length : Int) + 1 := by rw [IntKind.wrap_i64]; omega
        clear hzo hzl hzok HZ3
        go_wp2_with fail
        refine (HRz.out.at_ z4).mono ?_
        rintro e w6 ⟨rfl, z4, rfl⟩
        go_wp2_with fail
        refine (HRy.out.at_ z4).mono ?_
        rintro e w6 ⟨rfl, z5, rfl⟩
        by_cases hw : x.wa ≤ y.wa
        case pos =>
          cases has with
          | false =>
            cases an with
            | false =>
              go_wp2_with fail
              refine (awake15_any _).mono ?_
              rintro e w8 ⟨rfl, hb8⟩
              go_wp2_with fail
              go_ret
              exact ⟨rfl, below_next (lat_end HB3.out z5) hb8⟩
            | true =>
              have ha : y.out = [] := HSta.out.anew rfl
              have ha2 : ((y.out.length : Int) == 0) = true := by rw [ha]; rfl
              clear ha
              go_wp2_with fail
              refine (awake15_any _).mono ?_
              rintro e w8 ⟨rfl, hb8⟩
              go_wp2_with fail
              go_ret
              exact ⟨rfl, below_next (lat_end HB3.out z5) hb8⟩
          | true =>
            have hh := HSta.out.has rfl
            replace hh : 1 < y.wa := hh
            cases an with
            | false =>
              go_wp2_with fail
              refine (awake15_any _).mono ?_
              rintro e w8 ⟨rfl, hb8⟩
              go_wp2_with fail
              go_ret
              exact ⟨rfl, below_next (lat_end HB3.out z5) hb8⟩
            | true =>
              have ha : y.out = [] := HSta.out.anew rfl
              have ha2 : ((y.out.length : Int) == 0) = true := by rw [ha]; rfl
              clear ha
              go_wp2_with fail
              refine (awake15_any _).mono ?_
              rintro e w8 ⟨rfl, hb8⟩
              go_wp2_with fail
              go_ret
              exact ⟨rfl, below_next (lat_end HB3.out z5) hb8⟩
        case neg =>
          have hot : x.ot < y.ot := by rcases HSta.out.wa with h | h <;> omega
          have hw2 : ¬ x.wa ≤ y.wa := hw
          cases has with
          | false =>
            cases an with
            | false =>
              go_wp2_with fail
              refine (awake15_any _).mono ?_
              rintro e w8 ⟨rfl, hb8⟩
              go_wp2_with fail
              go_ret
              exact ⟨rfl, below_next (lat_end HB3.out z5) hb8⟩
            | true =>
              have ha : y.out = [] := HSta.out.anew rfl
              have ha2 : ((y.out.length : Int) == 0) = true := by rw [ha]; rfl
              clear ha
              go_wp2_with fail
              refine (awake15_any _).mono ?_
              rintro e w8 ⟨rfl, hb8⟩
              go_wp2_with fail
              go_ret
              exact ⟨rfl, below_next (lat_end HB3.out z5) hb8⟩
          | true =>
            have hh := HSta.out.has rfl
            replace hh : 1 < y.wa := hh
            cases an with
            | false =>
              go_wp2_with fail
              refine (awake15_any _).mono ?_
              rintro e w8 ⟨rfl, hb8⟩
              go_wp2_with fail
              go_ret
              exact ⟨rfl, below_next (lat_end HB3.out z5) hb8⟩
            | true =>
              have ha : y.out = [] := HSta.out.anew rfl
              have ha2 : ((y.out.length : Int) == 0) = true := by rw [ha]; rfl
              clear ha
              go_wp2_with fail
              refine (awake15_any _).mono ?_
              rintro e w8 ⟨rfl, hb8⟩
              go_wp2_with fail
              go_ret
              exact ⟨rfl, below_next (lat_end HB3.out z5) hb8⟩
end Go.Proofs.Ytdhmkcomngbmaaa
