/- The walk of LinkOld. -/
import Derived.Test.YtdhmkcomngbmaaaLinkTakesW
namespace Go.Proofs.Ytdhmkcomngbmaaa
open Go.RowKit

set_option maxHeartbeats 4000000 in
set_option maxRecDepth 100000 in
theorem LinkOld_walk {w : World} {A : Option Addr} {c : Nat} (x : LEnd) (s : List UInt8) (h : Strs w w.heap.size A x.out) (hn : A = none → c = 0) (hc : x.out.length ≤ c) (hl : x.out.length ≤ maxLen) (hx : ∀ p ∈ x.out, p.length ≤ maxLen) (hs : s.length ≤ 281474976710656) :
    Calls Try.prog 9 #[x.val A c, .string (str s)] w fun e w' => e = .returned (.bool true) ∧ Below w.heap.size w w' := by
  have hl2 : x.out.length ≤ 9223372036854775807 := by unfold maxLen at hl; omega
  obtain ⟨V, hV⟩ : ∃ V, V = w.alloc (.cells #[.int .i64 x.ep, .int .i64 x.ot, .int .i64 x.fi, .slice A x.out.length c, .int .i64 x.wa] 24) := ⟨_, rfl⟩
  have hBV : Below w.heap.size w V := by rw [hV]; exact below_one _ _
  have HF : Hid (Five V w.heap.size (.int .i64 x.ep) (.int .i64 x.ot) (.int .i64 x.fi) (.slice A x.out.length c) (.int .i64 x.wa) 24) := Lib.hid (by rw [hV]; exact Five.new _ _ _ _ _ _ _)
  have HV := Lib.hid hV
  have HBV := Lib.hid hBV
  have HS := Lib.hid (h.next hBV)
  have HFw : Hid (LatCalls Try.prog V 10 #[.agg #[.int .i64 x.ep, .int .i64 x.ot, .int .i64 x.fi, .slice A x.out.length c, .int .i64 x.wa]] (.bool (fewB x))) := Lib.hid (LatCalls.of fun z => few_any x A c z.wd ((h.next hBV).next z.bel) hl hx)
  have HR0 : Hid (LatCalls Try.prog V 14 #[.agg #[.int .i64 x.ep, .int .i64 x.ot, .int .i64 x.fi, .slice A x.out.length c, .int .i64 x.wa]] (.bool (okB x))) := Lib.hid (LatCalls.of fun z => LRight_any x A c z.wd ((h.next hBV).next z.bel) hl2)
  have HN := Lib.hid hn
  have HC := Lib.hid hc
  clear hV hBV h hn hc hx
  cases hf : fewB x with
  | false =>
    rw [hf] at HFw
    unfold LEnd.val
    go_enter Try.func9, Try.ntmps9
    go_upto_region 1 with fail
    rw [← HV.out]
    have x0 := HF.out.c0
    have x1 := HF.out.c1
    have x2 := HF.out.c2
    have x3 := HF.out.c3
    have x4 := HF.out.c4
    go_wp2_with fail
    refine (HFw.out.at_ ⟨V, Below.refl _ _⟩).mono ?_
    rintro e w1 ⟨rfl, z1, rfl⟩
    go_wp2_with fail
    refine (awake15_any _).mono ?_
    rintro e w2 ⟨rfl, hb2⟩
    go_wp2_with fail
    go_ret
    exact ⟨rfl, below_next (lat_end HBV.out z1) hb2⟩
  | true =>
    rw [hf] at HFw
    cases hok : okB x with
    | false =>
      rw [hok] at HR0
      unfold LEnd.val
      go_enter Try.func9, Try.ntmps9
      go_upto_region 1 with fail
      rw [← HV.out]
      have x0 := fun z : LatW V => (HF.out.lat z).c0
      have x1 := fun z : LatW V => (HF.out.lat z).c1
      have x2 := fun z : LatW V => (HF.out.lat z).c2
      have x3 := fun z : LatW V => (HF.out.lat z).c3
      have x4 := fun z : LatW V => (HF.out.lat z).c4
      obtain ⟨z0, hz0⟩ := LatW.start V
      rw [← hz0]
      clear hz0
      go_wp2_with fail
      refine (HFw.out.at_ z0).mono ?_
      rintro e w1 ⟨rfl, z1, rfl⟩
      go_wp2_with fail
      refine (HR0.out.at_ z1).mono ?_
      rintro e w1 ⟨rfl, z1, rfl⟩
      go_wp2_with fail
      refine (awake15_any _).mono ?_
      rintro e w8 ⟨rfl, hb8⟩
      go_wp2_with fail
      go_ret
      exact ⟨rfl, below_next (lat_end HBV.out z1) hb8⟩
    | true =>
      rw [hok] at HR0
      have hX := (okB_iff x).1 hok
      have HTk := Lib.hid (fun z : LatW V => LTake_any x A c s z.wd (HS.out.next z.bel) HN.out HC.out hX hs)
      have HHd := Lib.hid (fun W => RHeard_any s W hs)
      have HOld := Lib.hid (@take_old x s)
      have HNo : Hid (¬ IsHeard s → takeX x s = (x, CameL.none_)) := Lib.hid (fun e => takeX_no (.inl e))
      unfold LEnd.val at HTk ⊢
      clear hok hX
      go_enter Try.func9, Try.ntmps9
      go_upto_region 1 with fail
      rw [← HV.out]
      have x0 := fun z : LatW V => (HF.out.lat z).c0
      have x1 := fun z : LatW V => (HF.out.lat z).c1
      have x2 := fun z : LatW V => (HF.out.lat z).c2
      have x3 := fun z : LatW V => (HF.out.lat z).c3
      have x4 := fun z : LatW V => (HF.out.lat z).c4
      obtain ⟨z0, hz0⟩ := LatW.start V
      rw [← hz0]
      clear hz0
      go_wp2_with fail
      refine (HFw.out.at_ z0).mono ?_
      rintro e w1 ⟨rfl, z1, rfl⟩
      go_wp2_with fail
      refine (HR0.out.at_ z1).mono ?_
      rintro e w1 ⟨rfl, z1, rfl⟩
      go_wp2_with fail
      refine (HHd.out _).mono ?_
      rintro e w2 ⟨k, n0, n1, n2, n3, pc, rfl, hcase, hb2⟩
      obtain ⟨z1, hz1⟩ := LatW.later z1 hb2
      subst hz1
      have hQ := Quad.new z1.wd (.int .i64 n0) (.int .i64 n1) (.int .i64 n2) (.int .i64 n3) 68
      obtain ⟨z1', hz1'⟩ := LatW.made z1 (.cells #[.int .i64 n0, .int .i64 n1, .int .i64 n2, .int .i64 n3] 68 (0, 0))
      rw [hz1'] at hQ
      have HZ1 := Lib.hid hz1'
      clear hz1' hb2
      go_upto_region 4 with fail
      rw [HZ1.out]
      clear HZ1
      generalize z1.wd.heap.size = Q0 at *
      clear z1
      have z1 := z1'
      obtain ⟨z1, hz⟩ : ∃ z, z = z1' := ⟨_, rfl⟩
      subst hz
      have q0 := hQ.c0
      have HCase := Lib.hid hcase
      clear hcase hQ HHd
      rcases HCase.out with ⟨hhd, hval⟩ | ⟨hnh, hk0⟩
      case inl =>
        obtain ⟨rfl, rfl, rfl, rfl, rfl, rfl⟩ := heard_fields hval
        have hkd : (heardOf s).kind = 1 ∨ (heardOf s).kind = 2 := hhd.2.1.1
        have hkq : (((heardOf s).kind : Int) != 0) = true := by rw [bne_iff_ne]; omega
        clear hhd hval HCase
        generalize (heardOf s).n0 = n0 at *
        generalize (heardOf s).n1 = n1 at *
        generalize (heardOf s).n2 = n2 at *
        generalize (heardOf s).n3 = n3 at *
        generalize (heardOf s).kind = kd at *
        generalize (heardOf s).piece = pc at *
        by_cases g : x.ot ≤ (n0 : Int)
        case pos =>
          go_wp2_with fail
          refine (awake15_any _).mono ?_
          rintro e w8 ⟨rfl, hb8⟩
          go_wp2_with fail
          go_ret
          exact ⟨rfl, below_next (lat_end HBV.out z1) hb8⟩
        have hr := HOld.out (by omega)
        have g2 : ¬ x.ot ≤ (n0 : Int) := g
        clear HNo HOld
        go_wp2_with fail
        clear q0
        refine (HTk.out z1).mono ?_
        rw [hr]
        intro e w2 he
        obtain ⟨A1, c1, rfl, hs1, hn1, hc1, hb2⟩ := he.split
        clear he
        simp only [CameL.none_, str_none]
        obtain ⟨z1b, hz1b⟩ := LatW.later z1 hb2
        subst hz1b
        clear hb2
        have hF2 := HF.out.lat z1b
        have hP : w.heap.size < z1b.wd.heap.size := hF2.lt
        have hb12 := below_news z1b.wd (.cells #[.int .i64 x.ep, .int .i64 x.ot, .int .i64 x.fi, .slice A1 x.out.length c1, .int .i64 x.wa] 24) (.cells #[.string ⟨#[]⟩, .bool false, .string ⟨#[]⟩, .bool false] 42)
        have HFy : Hid (Five ((z1b.wd.alloc (.cells #[.int .i64 x.ep, .int .i64 x.ot, .int .i64 x.fi, .slice A1 x.out.length c1, .int .i64 x.wa] 24)).alloc (.cells #[.string ⟨#[]⟩, .bool false, .string ⟨#[]⟩, .bool false] 42)) z1b.wd.heap.size (.int .i64 x.ep) (.int .i64 x.ot) (.int .i64 x.fi) (.slice A1 x.out.length c1) (.int .i64 x.wa) 24) := Lib.hid ((Five.new _ _ _ _ _ _ _).below (below_one _ _))
        have HKc : Hid (Quad ((z1b.wd.alloc (.cells #[.int .i64 x.ep, .int .i64 x.ot, .int .i64 x.fi, .slice A1 x.out.length c1, .int .i64 x.wa] 24)).alloc (.cells #[.string ⟨#[]⟩, .bool false, .string ⟨#[]⟩, .bool false] 42)) (z1b.wd.heap.size + 1) (.string ⟨#[]⟩) (.bool false) (.string ⟨#[]⟩) (.bool false) 42) := Lib.hid (by have t := Quad.new (z1b.wd.alloc (.cells #[.int .i64 x.ep, .int .i64 x.ot, .int .i64 x.fi, .slice A1 x.out.length c1, .int .i64 x.wa] 24)) (.string ⟨#[]⟩) (.bool false) (.string ⟨#[]⟩) (.bool false) 42; simpa using t)
        have HSy := Lib.hid (hs1.next hb12)
        have HSx := Lib.hid (HS.out.next (below_next z1b.bel hb12))
        have HFx := Lib.hid (hF2.below hb12)
        have HB2 := Lib.hid (below_next HBV.out (below_next z1b.bel hb12))
        go_upto_region 7 with fail
        clear x0 x1 x2 x3 x4
        obtain ⟨V2, hV2⟩ : ∃ V2, (z1b.wd.alloc (.cells #[.int .i64 x.ep, .int .i64 x.ot, .int .i64 x.fi, .slice A1 x.out.length c1, .int .i64 x.wa] 24)).alloc (.cells #[.string ⟨#[]⟩, .bool false, .string ⟨#[]⟩, .bool false] 42) = V2 := ⟨_, rfl⟩
        rw [hV2] at HFy HKc HSy HSx HFx HB2
        rw [hV2]
        clear hV2 hs1 hb12 hF2
        generalize z1b.wd.heap.size = Yb at *
        obtain ⟨z2, hz2⟩ := LatW.start V2
        rw [← hz2]
        clear hz2
        have HRy : Hid (LatCalls Try.prog V2 16 #[.agg #[.int .i64 x.ep, .int .i64 x.ot, .int .i64 x.fi, .slice A1 x.out.length c1, .int .i64 x.wa]] (.agg #[.int .i64 x.ep, .int .i64 x.ot, .int .i64 x.fi, .int .i64 x.wa, .slice A1 x.out.length c1])) := Lib.hid (LatCalls.of fun z => ref_any x A1 c1 z.wd)
        have HRx : Hid (LatCalls Try.prog V2 16 #[.agg #[.int .i64 x.ep, .int .i64 x.ot, .int .i64 x.fi, .slice A x.out.length c, .int .i64 x.wa]] (.agg #[.int .i64 x.ep, .int .i64 x.ot, .int .i64 x.fi, .int .i64 x.wa, .slice A x.out.length c])) := Lib.hid (LatCalls.of fun z => ref_any x A c z.wd)
        have HEq : Hid (LatCalls Try.prog V2 17 #[.agg #[.int .i64 x.ep, .int .i64 x.ot, .int .i64 x.fi, .int .i64 x.wa, .slice A1 x.out.length c1], .agg #[.int .i64 x.ep, .int .i64 x.ot, .int .i64 x.fi, .int .i64 x.wa, .slice A x.out.length c]] (.bool true)) := Lib.hid (LatCalls.of fun z => REqual_yes x A1 A c1 c _ _ z.wd hl (HSy.out.next z.bel) (HSx.out.next z.bel) (Nat.le_refl _) (Nat.le_refl _))
        have HAw : Hid (LatCalls Try.prog V2 11 #[] (.bool true)) := Lib.hid (LatCalls.of fun z => awake15_any z.wd)
        have heq := eql_came ⟨#[]⟩ ⟨#[]⟩ false false
        have hgd := guard_came
        have x0 := fun z : LatW V2 => (HFx.out.lat z).c0
        have x1 := fun z : LatW V2 => (HFx.out.lat z).c1
        have x2 := fun z : LatW V2 => (HFx.out.lat z).c2
        have x3 := fun z : LatW V2 => (HFx.out.lat z).c3
        have x4 := fun z : LatW V2 => (HFx.out.lat z).c4
        have y0 := fun z : LatW V2 => (HFy.out.lat z).c0
        have y1 := fun z : LatW V2 => (HFy.out.lat z).c1
        have y2 := fun z : LatW V2 => (HFy.out.lat z).c2
        have y3 := fun z : LatW V2 => (HFy.out.lat z).c3
        have y4 := fun z : LatW V2 => (HFy.out.lat z).c4
        have k0 := fun z : LatW V2 => (HKc.out.below z.bel).c0
        have k1 := fun z : LatW V2 => (HKc.out.below z.bel).c1
        have k2 := fun z : LatW V2 => (HKc.out.below z.bel).c2
        have k3 := fun z : LatW V2 => (HKc.out.below z.bel).c3
        refine wp_region_in15 (LatW.bel _) (by kernel_rfl) (by kernel_rfl) ?_
        repeat (first | go_big_quiet_skip | quiet_step (first | (go_at_call 16; with_reducible exact (HRy.out).at_ _) | (go_at_call 16; with_reducible exact (HRx.out).at_ _) | (go_at_call 17; with_reducible exact (HEq.out).at_ _) | (go_at_call 11; with_reducible exact (HAw.out).at_ _)) | (go_big_quiet_want; go_big_quiet_op; go_big_quiet_on))
        refine wpQuiet_nil ?_
        intro w9 hw9
        obtain ⟨z9, hw9'⟩ := hw9
        subst hw9'
        go_wp2_with fail
        go_ret
        exact ⟨rfl, lat_end HB2.out _⟩
      case inr =>
        have hr := HNo.out hnh
        subst hk0
        clear HNo HOld HCase hnh
        go_wp2_with fail
        clear q0
        refine (HTk.out z1).mono ?_
        rw [hr]
        intro e w2 he
        obtain ⟨A1, c1, rfl, hs1, hn1, hc1, hb2⟩ := he.split
        clear he
        simp only [CameL.none_, str_none]
        obtain ⟨z1b, hz1b⟩ := LatW.later z1 hb2
        subst hz1b
        clear hb2
        have hF2 := HF.out.lat z1b
        have hP : w.heap.size < z1b.wd.heap.size := hF2.lt
        have hb12 := below_news z1b.wd (.cells #[.int .i64 x.ep, .int .i64 x.ot, .int .i64 x.fi, .slice A1 x.out.length c1, .int .i64 x.wa] 24) (.cells #[.string ⟨#[]⟩, .bool false, .string ⟨#[]⟩, .bool false] 42)
        have HFy : Hid (Five ((z1b.wd.alloc (.cells #[.int .i64 x.ep, .int .i64 x.ot, .int .i64 x.fi, .slice A1 x.out.length c1, .int .i64 x.wa] 24)).alloc (.cells #[.string ⟨#[]⟩, .bool false, .string ⟨#[]⟩, .bool false] 42)) z1b.wd.heap.size (.int .i64 x.ep) (.int .i64 x.ot) (.int .i64 x.fi) (.slice A1 x.out.length c1) (.int .i64 x.wa) 24) := Lib.hid ((Five.new _ _ _ _ _ _ _).below (below_one _ _))
        have HKc : Hid (Quad ((z1b.wd.alloc (.cells #[.int .i64 x.ep, .int .i64 x.ot, .int .i64 x.fi, .slice A1 x.out.length c1, .int .i64 x.wa] 24)).alloc (.cells #[.string ⟨#[]⟩, .bool false, .string ⟨#[]⟩, .bool false] 42)) (z1b.wd.heap.size + 1) (.string ⟨#[]⟩) (.bool false) (.string ⟨#[]⟩) (.bool false) 42) := Lib.hid (by have t := Quad.new (z1b.wd.alloc (.cells #[.int .i64 x.ep, .int .i64 x.ot, .int .i64 x.fi, .slice A1 x.out.length c1, .int .i64 x.wa] 24)) (.string ⟨#[]⟩) (.bool false) (.string ⟨#[]⟩) (.bool false) 42; simpa using t)
        have HSy := Lib.hid (hs1.next hb12)
        have HSx := Lib.hid (HS.out.next (below_next z1b.bel hb12))
        have HFx := Lib.hid (hF2.below hb12)
        have HB2 := Lib.hid (below_next HBV.out (below_next z1b.bel hb12))
        go_upto_region 7 with fail
        clear x0 x1 x2 x3 x4
        obtain ⟨V2, hV2⟩ : ∃ V2, (z1b.wd.alloc (.cells #[.int .i64 x.ep, .int .i64 x.ot, .int .i64 x.fi, .slice A1 x.out.length c1, .int .i64 x.wa] 24)).alloc (.cells #[.string ⟨#[]⟩, .bool false, .string ⟨#[]⟩, .bool false] 42) = V2 := ⟨_, rfl⟩
        rw [hV2] at HFy HKc HSy HSx HFx HB2
        rw [hV2]
        clear hV2 hs1 hb12 hF2
        generalize z1b.wd.heap.size = Yb at *
        obtain ⟨z2, hz2⟩ := LatW.start V2
        rw [← hz2]
        clear hz2
        have HRy : Hid (LatCalls Try.prog V2 16 #[.agg #[.int .i64 x.ep, .int .i64 x.ot, .int .i64 x.fi, .slice A1 x.out.length c1, .int .i64 x.wa]] (.agg #[.int .i64 x.ep, .int .i64 x.ot, .int .i64 x.fi, .int .i64 x.wa, .slice A1 x.out.length c1])) := Lib.hid (LatCalls.of fun z => ref_any x A1 c1 z.wd)
        have HRx : Hid (LatCalls Try.prog V2 16 #[.agg #[.int .i64 x.ep, .int .i64 x.ot, .int .i64 x.fi, .slice A x.out.length c, .int .i64 x.wa]] (.agg #[.int .i64 x.ep, .int .i64 x.ot, .int .i64 x.fi, .int .i64 x.wa, .slice A x.out.length c])) := Lib.hid (LatCalls.of fun z => ref_any x A c z.wd)
        have HEq : Hid (LatCalls Try.prog V2 17 #[.agg #[.int .i64 x.ep, .int .i64 x.ot, .int .i64 x.fi, .int .i64 x.wa, .slice A1 x.out.length c1], .agg #[.int .i64 x.ep, .int .i64 x.ot, .int .i64 x.fi, .int .i64 x.wa, .slice A x.out.length c]] (.bool true)) := Lib.hid (LatCalls.of fun z => REqual_yes x A1 A c1 c _ _ z.wd hl (HSy.out.next z.bel) (HSx.out.next z.bel) (Nat.le_refl _) (Nat.le_refl _))
        have HAw : Hid (LatCalls Try.prog V2 11 #[] (.bool true)) := Lib.hid (LatCalls.of fun z => awake15_any z.wd)
        have heq := eql_came ⟨#[]⟩ ⟨#[]⟩ false false
        have hgd := guard_came
        have x0 := fun z : LatW V2 => (HFx.out.lat z).c0
        have x1 := fun z : LatW V2 => (HFx.out.lat z).c1
        have x2 := fun z : LatW V2 => (HFx.out.lat z).c2
        have x3 := fun z : LatW V2 => (HFx.out.lat z).c3
        have x4 := fun z : LatW V2 => (HFx.out.lat z).c4
        have y0 := fun z : LatW V2 => (HFy.out.lat z).c0
        have y1 := fun z : LatW V2 => (HFy.out.lat z).c1
        have y2 := fun z : LatW V2 => (HFy.out.lat z).c2
        have y3 := fun z : LatW V2 => (HFy.out.lat z).c3
        have y4 := fun z : LatW V2 => (HFy.out.lat z).c4
        have k0 := fun z : LatW V2 => (HKc.out.below z.bel).c0
        have k1 := fun z : LatW V2 => (HKc.out.below z.bel).c1
        have k2 := fun z : LatW V2 => (HKc.out.below z.bel).c2
        have k3 := fun z : LatW V2 => (HKc.out.below z.bel).c3
        refine wp_region_in15 (LatW.bel _) (by kernel_rfl) (by kernel_rfl) ?_
        repeat (first | go_big_quiet_skip | quiet_step (first | (go_at_call 16; with_reducible exact (HRy.out).at_ _) | (go_at_call 16; with_reducible exact (HRx.out).at_ _) | (go_at_call 17; with_reducible exact (HEq.out).at_ _) | (go_at_call 11; with_reducible exact (HAw.out).at_ _)) | (go_big_quiet_want; go_big_quiet_op; go_big_quiet_on))
        refine wpQuiet_nil ?_
        intro w9 hw9
        obtain ⟨z9, hw9'⟩ := hw9
        subst hw9'
        go_wp2_with fail
        go_ret
        exact ⟨rfl, lat_end HB2.out _⟩
end Go.Proofs.Ytdhmkcomngbmaaa
