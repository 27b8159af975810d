/- Lineages: the walks of LineNext, LineGrows and LineGoes. -/
import Derived.Test.YtokdicaoonjimaaLineW
namespace Go.Proofs.Ytokdicaoonjimaa
open Go.RowKit

theorem BrsAt.lat0 {V : World} {A : Option Addr} {l : List Br} (h : BrsAt V V.heap.size A l) (z : LatW V) : BrsAt z.wd z.wd.heap.size A l := h.next z.bel
theorem growE_ne {l : List Br} {ep at_ : Int} (h : ¬ growE l ep at_ = 0) : growL l ep at_ = [] := by unfold growL; rw [if_neg h]
set_option maxHeartbeats 8000000 in
set_option maxRecDepth 100000 in
theorem LineNext_walk {w : World} {known site : Int} (h1 : -9223372036854775808 ≤ known) (h2 : known ≤ 9223372036854775807) (h3 : -9223372036854775808 ≤ site) (h4 : site ≤ 9223372036854775807) :
    Calls Try.prog 8 #[.int .i64 known, .int .i64 site] w fun e w' => e = .returned (.bool true) ∧ Below w.heap.size w w' := by
  have HBV := Lib.hid (Below.refl w.heap.size w)
  have HAw : Hid (LatCalls Try.prog w 11 #[] (.bool true)) := Lib.hid (LatCalls.of fun z => awake11_any z.wd)
  cases k1 : decide (known < 0) with
  | true =>
    have hn0 : nextB known site = 0 := by unfold nextB; rw [if_neg (by have := of_decide_eq_true k1; omega)]
    have HN : Hid (LatCalls Try.prog w 26 #[.int .i64 known, .int .i64 site] (.int .i64 0)) := Lib.hid (LatCalls.of fun z => by have t := Next_any known site z.wd h1 h2 h3 h4; rw [hn0] at t; exact t)
    clear hn0
    clear h1 h2 h3 h4
    obtain ⟨V, hV⟩ : ∃ V, w = V := ⟨_, rfl⟩
    have hW := hV
    rw [hV] at HBV HAw HN ⊢
    obtain ⟨z0, hz0⟩ := LatW.start V
    go_enter Try.func8, Try.ntmps8
    go_wp2_with fail
    rw [← hz0]
    clear hz0
    first | (go_at_call 26; refine ((HN.out).at_ _).mono ?_; rintro e w9 ⟨rfl, z9, rfl⟩) | (go_at_call 11; refine ((HAw.out).at_ _).mono ?_; rintro e w9 ⟨rfl, z9, rfl⟩)
    go_wp2_with (first | (go_at_call 26; refine ((HN.out).at_ _).mono ?_; rintro e w9 ⟨rfl, z9, rfl⟩) | (go_at_call 11; refine ((HAw.out).at_ _).mono ?_; rintro e w9 ⟨rfl, z9, rfl⟩))
    go_ret
    exact ⟨rfl, lat_end HBV.out _⟩
  | false =>
  cases k2 : decide ((1099511627774 : Int) < known) with
  | true =>
    have hn0 : nextB known site = 0 := by unfold nextB; rw [if_neg (by have := of_decide_eq_true k2; omega)]
    have HN : Hid (LatCalls Try.prog w 26 #[.int .i64 known, .int .i64 site] (.int .i64 0)) := Lib.hid (LatCalls.of fun z => by have t := Next_any known site z.wd h1 h2 h3 h4; rw [hn0] at t; exact t)
    clear hn0
    clear h1 h2 h3 h4
    obtain ⟨V, hV⟩ : ∃ V, w = V := ⟨_, rfl⟩
    have hW := hV
    rw [hV] at HBV HAw HN ⊢
    obtain ⟨z0, hz0⟩ := LatW.start V
    go_enter Try.func8, Try.ntmps8
    go_wp2_with fail
    rw [← hz0]
    clear hz0
    first | (go_at_call 26; refine ((HN.out).at_ _).mono ?_; rintro e w9 ⟨rfl, z9, rfl⟩) | (go_at_call 11; refine ((HAw.out).at_ _).mono ?_; rintro e w9 ⟨rfl, z9, rfl⟩)
    go_wp2_with (first | (go_at_call 26; refine ((HN.out).at_ _).mono ?_; rintro e w9 ⟨rfl, z9, rfl⟩) | (go_at_call 11; refine ((HAw.out).at_ _).mono ?_; rintro e w9 ⟨rfl, z9, rfl⟩))
    go_ret
    exact ⟨rfl, lat_end HBV.out _⟩
  | false =>
  have k1p := of_decide_eq_false k1
  have k2p := of_decide_eq_false k2
  by_cases hs : site = 0 ∨ site = 1
  · obtain ⟨r1, r2, r3, r4⟩ := nextB_ok (known := known) (site := site) (by omega) (by omega) hs
    have hN1 := fun z : LatW w => Next_any known site z.wd h1 h2 h3 h4
    have hN2 := fun z : LatW w => Next_any known (1 - site) z.wd h1 h2 (by omega) (by omega)
    obtain ⟨n, hn⟩ : ∃ n, nextB known site = n := ⟨_, rfl⟩
    obtain ⟨m, hm⟩ : ∃ m, nextB known (1 - site) = m := ⟨_, rfl⟩
    rw [hn] at r1 r2 r3 r4 hN1
    rw [hm] at r4 hN2
    have d1 : decide (known < n) = true := decide_eq_true r1
    have d2 : decide (n ≤ known + 2) = true := decide_eq_true r2
    have d3 : Int.tmod n 2 = 1 - site := by rw [Int.tmod_eq_emod_of_nonneg (by omega)]; exact r3
    have d4 : (n != m) = true := by rw [bne_iff_ne]; exact r4
    have d5 : IntKind.i64.wrap (known + 2) = known + 2 := by rw [IntKind.wrap_i64]; omega
    clear hn hm r1 r2 r3 r4 k1p k2p
    rcases hs with rfl | rfl
    · have d3b : Int.tmod n 2 = 1 := by rw [d3]; omega
      clear d3
      have HN : Hid (LatCalls Try.prog w 26 #[.int .i64 known, .int .i64 0] (.int .i64 n)) := Lib.hid (LatCalls.of hN1)
      have HN2 : Hid (LatCalls Try.prog w 26 #[.int .i64 known, .int .i64 1] (.int .i64 m)) := Lib.hid (LatCalls.of hN2)
      clear hN1 hN2
      clear h1 h2 h3 h4
      obtain ⟨V, hV⟩ : ∃ V, w = V := ⟨_, rfl⟩
      have hW := hV
      rw [hV] at HBV HAw HN HN2 ⊢
      obtain ⟨z0, hz0⟩ := LatW.start V
      go_enter Try.func8, Try.ntmps8
      go_wp2_with fail
      rw [← hz0]
      clear hz0
      first | (go_at_call 26; (first | with_reducible refine ((HN.out).at_ _).mono ?_ | with_reducible refine ((HN2.out).at_ _).mono ?_); rintro e w9 ⟨rfl, z9, rfl⟩) | (go_at_call 11; refine ((HAw.out).at_ _).mono ?_; rintro e w9 ⟨rfl, z9, rfl⟩)
      go_wp2_with (first | (go_at_call 26; (first | with_reducible refine ((HN.out).at_ _).mono ?_ | with_reducible refine ((HN2.out).at_ _).mono ?_); rintro e w9 ⟨rfl, z9, rfl⟩) | (go_at_call 11; refine ((HAw.out).at_ _).mono ?_; rintro e w9 ⟨rfl, z9, rfl⟩))
      go_ret
      exact ⟨rfl, lat_end HBV.out _⟩
    · have d3b : Int.tmod n 2 = 0 := by rw [d3]; omega
      clear d3
      have HN : Hid (LatCalls Try.prog w 26 #[.int .i64 known, .int .i64 1] (.int .i64 n)) := Lib.hid (LatCalls.of hN1)
      have HN2 : Hid (LatCalls Try.prog w 26 #[.int .i64 known, .int .i64 0] (.int .i64 m)) := Lib.hid (LatCalls.of hN2)
      clear hN1 hN2
      clear h1 h2 h3 h4
      obtain ⟨V, hV⟩ : ∃ V, w = V := ⟨_, rfl⟩
      have hW := hV
      rw [hV] at HBV HAw HN HN2 ⊢
      obtain ⟨z0, hz0⟩ := LatW.start V
      go_enter Try.func8, Try.ntmps8
      go_wp2_with fail
      rw [← hz0]
      clear hz0
      first | (go_at_call 26; (first | with_reducible refine ((HN.out).at_ _).mono ?_ | with_reducible refine ((HN2.out).at_ _).mono ?_); rintro e w9 ⟨rfl, z9, rfl⟩) | (go_at_call 11; refine ((HAw.out).at_ _).mono ?_; rintro e w9 ⟨rfl, z9, rfl⟩)
      go_wp2_with (first | (go_at_call 26; (first | with_reducible refine ((HN.out).at_ _).mono ?_ | with_reducible refine ((HN2.out).at_ _).mono ?_); rintro e w9 ⟨rfl, z9, rfl⟩) | (go_at_call 11; refine ((HAw.out).at_ _).mono ?_; rintro e w9 ⟨rfl, z9, rfl⟩))
      go_ret
      exact ⟨rfl, lat_end HBV.out _⟩
  · have hsa : (site != 0) = true := by rw [bne_iff_ne]; omega
    have hsb : (site != 1) = true := by rw [bne_iff_ne]; omega
    clear k1p k2p
    have hn0 : nextB known site = 0 := by unfold nextB; rw [if_neg (by omega)]
    have HN : Hid (LatCalls Try.prog w 26 #[.int .i64 known, .int .i64 site] (.int .i64 0)) := Lib.hid (LatCalls.of fun z => by have t := Next_any known site z.wd h1 h2 h3 h4; rw [hn0] at t; exact t)
    clear hn0
    clear h1 h2 h3 h4
    obtain ⟨V, hV⟩ : ∃ V, w = V := ⟨_, rfl⟩
    have hW := hV
    rw [hV] at HBV HAw HN ⊢
    obtain ⟨z0, hz0⟩ := LatW.start V
    go_enter Try.func8, Try.ntmps8
    go_wp2_with fail
    rw [← hz0]
    clear hz0
    first | (go_at_call 26; refine ((HN.out).at_ _).mono ?_; rintro e w9 ⟨rfl, z9, rfl⟩) | (go_at_call 11; refine ((HAw.out).at_ _).mono ?_; rintro e w9 ⟨rfl, z9, rfl⟩)
    go_wp2_with (first | (go_at_call 26; refine ((HN.out).at_ _).mono ?_; rintro e w9 ⟨rfl, z9, rfl⟩) | (go_at_call 11; refine ((HAw.out).at_ _).mono ?_; rintro e w9 ⟨rfl, z9, rfl⟩))
    go_ret
    exact ⟨rfl, lat_end HBV.out _⟩
set_option maxHeartbeats 8000000 in
set_option maxRecDepth 100000 in
theorem LineGrows_walk {w : World} {A1 : Option Addr} {c1 : Nat} {l1 : List Br} {ep at_ : Int} (h1 : BrsAt w w.heap.size A1 l1) (f1 : BrsFit l1) :
    Calls Try.prog 3 #[.slice A1 l1.length c1, .int .i64 ep, .int .i64 at_] w fun e w' => e = .returned (.bool true) ∧ Below w.heap.size w w' := by
  have s1 := f1.1
  cases g1 : decide ((100 : Int) < (l1.length : Int)) with
  | true =>
    clear h1
    go_enter Try.func3, Try.ntmps3
    go_wp2_with fail
    refine (awake11_any _).mono ?_
    rintro e w4 ⟨rfl, hb4⟩
    replace hb4 := Lib.hid hb4
    go_wp2_with fail
    go_ret
    exact ⟨rfl, hb4.out⟩
  | false =>
    have HG := Lib.hid (fun c => Grow_any (c := c) ep at_ h1 s1)
    have HG2 := Lib.hid (fun c w1 (hb : Below w.heap.size w w1) => DGrow_any (c := c) ep at_ (h1.next hb) s1)
    have HAt := Lib.hid (fun w1 (hb : Below w.heap.size w w1) => h1.next hb)
    have hlg : (growL l1 ep at_).length ≤ 9223372036854775807 := by have hg := of_decide_eq_false g1; unfold growL; split <;> simp <;> omega
    obtain ⟨R, hR⟩ : ∃ R, growL l1 ep at_ = R := ⟨_, rfl⟩
    obtain ⟨E, hE⟩ : ∃ E, growE l1 ep at_ = E := ⟨_, rfl⟩
    rw [hR, hE] at HG HG2
    rw [hR] at hlg
    clear h1 hR hE f1
    cases ok : lineOk l1 with
    | false =>
      obtain ⟨lv, hlv0⟩ : ∃ lv : Int, lv = 0 := ⟨_, rfl⟩
      have hlv : lastL l1 = 0 := lastL_no ok
      go_enter Try.func3, Try.ntmps3
      go_wp2_with fail
      refine (HG.out _).mono ?_
      rintro e w1 ⟨Aa, ca, rfl, hba, hb1⟩
      have HB1 := Lib.hid hb1
      have HBa := Lib.hid hba
      clear hba hb1
      go_wp2_with fail
      refine (HG2.out _ _ HB1.out).mono ?_
      rintro e V ⟨Ab, cb, rfl, hbb, hb2⟩
      have HBV := Lib.hid (below_next HB1.out hb2)
      have HRa := Lib.hid (fun (z : LatW V) => (HBa.out.next hb2).lat0 z)
      have HRb := Lib.hid (fun (z : LatW V) => hbb.lat0 z)
      have HL := Lib.hid (fun (z : LatW V) => (HAt.out _ HBV.out).lat0 z)
      clear hbb hb2
      have HAw : Hid (LatCalls Try.prog V 11 #[] (.bool true)) := Lib.hid (LatCalls.of fun z => awake11_any z.wd)
      have HDR : Hid (LatCalls Try.prog V 14 #[.slice A1 l1.length c1] (.bool false)) := Lib.hid (LatCalls.of fun z => by have t := DRight_any (c := c1) (HL.out z) s1; rw [ok] at t; exact t)
      have HR : Hid (LatCalls Try.prog V 16 #[.slice A1 l1.length c1] (.bool false)) := Lib.hid (LatCalls.of fun z => by have t := Right_any (c := c1) (HL.out z) s1; rw [ok] at t; exact t)
      have HLa : Hid (LatCalls Try.prog V 17 #[.slice A1 l1.length c1] (.int .i64 0)) := Lib.hid (LatCalls.of fun z => by have t := Last_any (c := c1) (HL.out z) s1; rw [hlv] at t; exact t)
      have HEq : Hid (LatCalls Try.prog V 15 #[.slice Aa R.length ca, .slice Ab R.length cb] (.bool true)) := Lib.hid (LatCalls.of fun z => by have t := DocEqual_any (c1 := ca) (c2 := cb) (HRa.out z) (HRb.out z) hlg; rw [eqBr_self R] at t; exact t)
      obtain ⟨z0, hz0⟩ := LatW.start V
      rw [← hz0]
      clear hz0
      go_wp2_with (first | (go_at_call 14; refine ((HDR.out).at_ _).mono ?_; rintro e w9 ⟨rfl, z9, rfl⟩) | (go_at_call 16; refine ((HR.out).at_ _).mono ?_; rintro e w9 ⟨rfl, z9, rfl⟩) | (go_at_call 17; refine ((HLa.out).at_ _).mono ?_; rintro e w9 ⟨rfl, z9, rfl⟩) | (go_at_call 15; refine ((HEq.out).at_ _).mono ?_; rintro e w9 ⟨rfl, z9, rfl⟩) | (go_at_call 11; refine ((HAw.out).at_ _).mono ?_; rintro e w9 ⟨rfl, z9, rfl⟩))
      go_ret
      exact ⟨rfl, lat_end HBV.out _⟩
    | true =>
      obtain ⟨k, hk⟩ : ∃ k, l1.length = k + 1 := ⟨l1.length - 1, by have := lineOk_ne ok; cases l1 with
        | nil => exact absurd rfl this
        | cons x r => simp⟩
      have hkl : k < l1.length := by omega
      obtain ⟨b, off, hA, hlt, x1, x2⟩ := (HAt.out w (Below.refl _ _)).at_ (Below.refl _ _) hkl
      subst hA
      have hlv := lastL_ok ok
      rw [lastB_at hk] at hlv
      obtain ⟨lv, hl2⟩ : ∃ lv, l1[k].1 = lv := ⟨_, rfl⟩
      rw [hl2] at hlv x1
      have hk0 : (0 : Int) ≤ (k : Int) := Int.natCast_nonneg _
      have hk8 : (k : Int) < 9223372036854775807 := by omega
      have hwr : IntKind.i64.wrap (k : Int) = (k : Int) := by rw [IntKind.wrap_i64]; omega
      have hkc : (l1.length : Int) - 1 = (k : Int) := by omega
      have hkd : (k : Int) < (l1.length : Int) := by omega
      have HK := Lib.hid hk
      rw [hk] at HG HG2 s1 ⊢
      have g9 : decide ((100 : Int) < (k : Int) + 1) = false := by rw [decide_eq_false_iff_not]; have := of_decide_eq_false g1; omega
      clear hl2 hkl x2 hkc hkd hk g1
      go_enter Try.func3, Try.ntmps3
      go_wp2_with fail
      refine (HG.out _).mono ?_
      rintro e w1 ⟨Aa, ca, rfl, hba, hb1⟩
      have HB1 := Lib.hid hb1
      have HBa := Lib.hid hba
      clear hba hb1
      go_wp2_with fail
      refine (HG2.out _ _ HB1.out).mono ?_
      rintro e V ⟨Ab, cb, rfl, hbb, hb2⟩
      have HBV := Lib.hid (below_next HB1.out hb2)
      have HRa := Lib.hid (fun (z : LatW V) => (HBa.out.next hb2).lat0 z)
      have HRb := Lib.hid (fun (z : LatW V) => hbb.lat0 z)
      have HL := Lib.hid (fun (z : LatW V) => (HAt.out _ HBV.out).lat0 z)
      clear hbb hb2
      have HAw : Hid (LatCalls Try.prog V 11 #[] (.bool true)) := Lib.hid (LatCalls.of fun z => awake11_any z.wd)
      have HDR : Hid (LatCalls Try.prog V 14 #[.slice (some ⟨b, off, none⟩) (k + 1) c1] (.bool true)) := Lib.hid (LatCalls.of fun z => by have t := DRight_any (c := c1) (HL.out z) (by rw [HK.out]; exact s1); rw [ok, HK.out] at t; exact t)
      have HR : Hid (LatCalls Try.prog V 16 #[.slice (some ⟨b, off, none⟩) (k + 1) c1] (.bool true)) := Lib.hid (LatCalls.of fun z => by have t := Right_any (c := c1) (HL.out z) (by rw [HK.out]; exact s1); rw [ok, HK.out] at t; exact t)
      have HLa : Hid (LatCalls Try.prog V 17 #[.slice (some ⟨b, off, none⟩) (k + 1) c1] (.int .i64 lv)) := Lib.hid (LatCalls.of fun z => by have t := Last_any (c := c1) (HL.out z) (by rw [HK.out]; exact s1); rw [hlv, HK.out] at t; exact t)
      have HEq : Hid (LatCalls Try.prog V 15 #[.slice Aa R.length ca, .slice Ab R.length cb] (.bool true)) := Lib.hid (LatCalls.of fun z => by have t := DocEqual_any (c1 := ca) (c2 := cb) (HRa.out z) (HRb.out z) hlg; rw [eqBr_self R] at t; exact t)
      have CK : Hid (∀ z : LatW V, z.wd.cell? ⟨b, off + k * 2, none⟩ = some (.int .i64 lv)) := Lib.hid (fun z => (z.bel.cell (p := ⟨b, off + k * 2, none⟩) (Nat.lt_of_lt_of_le hlt HBV.out.size)).trans ((HBV.out.cell (p := ⟨b, off + k * 2, none⟩) hlt).trans x1))
      have ck := CK.out
      obtain ⟨z0, hz0⟩ := LatW.start V
      rw [← hz0]
      clear hz0
      go_wp2_with (first | (go_at_call 14; refine ((HDR.out).at_ _).mono ?_; rintro e w9 ⟨rfl, z9, rfl⟩) | (go_at_call 16; refine ((HR.out).at_ _).mono ?_; rintro e w9 ⟨rfl, z9, rfl⟩) | (go_at_call 17; refine ((HLa.out).at_ _).mono ?_; rintro e w9 ⟨rfl, z9, rfl⟩) | (go_at_call 15; refine ((HEq.out).at_ _).mono ?_; rintro e w9 ⟨rfl, z9, rfl⟩) | (go_at_call 11; refine ((HAw.out).at_ _).mono ?_; rintro e w9 ⟨rfl, z9, rfl⟩))
      go_ret
      exact ⟨rfl, lat_end HBV.out _⟩
set_option maxHeartbeats 8000000 in
set_option maxRecDepth 100000 in
theorem LineGoes_walk {w : World} {A1 : Option Addr} {c1 : Nat} {l1 : List Br} {q1 : Int} {ep more : Int} (h1 : BrsAt w w.heap.size A1 l1) (f1 : BrsFit l1) :
    Calls Try.prog 7 #[.agg #[.slice A1 l1.length c1, .int .i64 q1], .int .i64 ep, .int .i64 more] w fun e w' => e = .returned (.bool true) ∧ Below w.heap.size w w' := by
  obtain ⟨V, hV⟩ : ∃ V, V = w.alloc (.cells #[.slice A1 l1.length c1, .int .i64 q1] 36 (0, 0)) := ⟨_, rfl⟩
  have HBV : Hid (Below w.heap.size w V) := Lib.hid (by rw [hV]; exact below_one _ _)
  have HX1 : Hid (PosBox V (w.heap.size) A1 l1.length c1 q1) := Lib.hid (by rw [hV]; exact PosBox.of (heap_new _ _))
  have HA1 := Lib.hid (fun (z : LatW V) => h1.lat HBV.out z)
  have s1 := f1.1
  have HV := Lib.hid hV
  have HAw : Hid (LatCalls Try.prog V 11 #[] (.bool true)) := Lib.hid (LatCalls.of fun z => awake11_any z.wd)
  clear hV h1
  cases g1 : decide ((100 : Int) < (l1.length : Int)) with
  | true =>
    have x1 := HX1.out.c0 ⟨V, Below.refl _ _⟩
    have y1 := HX1.out.c1 ⟨V, Below.refl _ _⟩
    simp only at x1 y1
    rw [HV.out] at x1 y1
    go_enter Try.func7, Try.ntmps7
    go_wp2_with fail
    rw [← HV.out]
    clear x1 y1
    have a1 := HX1.out.c0
    have b1 := HX1.out.c1
    generalize w.heap.size = H at a1 b1 ⊢
    obtain ⟨z0, hz0⟩ := LatW.start V
    rw [← hz0]
    clear hz0
    first | (go_at_call 11; refine ((HAw.out).at_ _).mono ?_; rintro e w9 ⟨rfl, z9, rfl⟩)
    go_wp2_with (first | (go_at_call 11; refine ((HAw.out).at_ _).mono ?_; rintro e w9 ⟨rfl, z9, rfl⟩))
    go_ret
    exact ⟨rfl, lat_end HBV.out _⟩
  | false =>
  have HGr := Lib.hid (fun (z : LatW V) c => Grow_any (c := c) ep q1 (HA1.out z) s1)
  cases ok : placedB l1 q1 with
  | false =>
    have HP : Hid (LatCalls Try.prog V 18 #[.agg #[.slice A1 l1.length c1, .int .i64 q1]] (.bool false)) := Lib.hid (LatCalls.of fun z => by have t := Placed_any (c := c1) (q := q1) (HA1.out z) s1; rw [ok] at t; exact t)
    have x1 := HX1.out.c0 ⟨V, Below.refl _ _⟩
    have y1 := HX1.out.c1 ⟨V, Below.refl _ _⟩
    simp only at x1 y1
    rw [HV.out] at x1 y1
    go_enter Try.func7, Try.ntmps7
    go_wp2_with fail
    rw [← HV.out]
    clear x1 y1
    have a1 := HX1.out.c0
    have b1 := HX1.out.c1
    generalize w.heap.size = H at a1 b1 ⊢
    obtain ⟨z0, hz0⟩ := LatW.start V
    rw [← hz0]
    clear hz0
    first | (go_at_call 18; refine ((HP.out).at_ _).mono ?_; rintro e w9 ⟨rfl, z9, rfl⟩) | (go_at_call 11; refine ((HAw.out).at_ _).mono ?_; rintro e w9 ⟨rfl, z9, rfl⟩)
    go_wp2_with (first | (go_at_call 18; refine ((HP.out).at_ _).mono ?_; rintro e w9 ⟨rfl, z9, rfl⟩) | (go_at_call 11; refine ((HAw.out).at_ _).mono ?_; rintro e w9 ⟨rfl, z9, rfl⟩))
    go_ret
    exact ⟨rfl, lat_end HBV.out _⟩
  | true =>
  have HP : Hid (LatCalls Try.prog V 18 #[.agg #[.slice A1 l1.length c1, .int .i64 q1]] (.bool true)) := Lib.hid (LatCalls.of fun z => by have t := Placed_any (c := c1) (q := q1) (HA1.out z) s1; rw [ok] at t; exact t)
  cases k1 : decide (more < 0) with
  | true =>
    have x1 := HX1.out.c0 ⟨V, Below.refl _ _⟩
    have y1 := HX1.out.c1 ⟨V, Below.refl _ _⟩
    simp only at x1 y1
    rw [HV.out] at x1 y1
    go_enter Try.func7, Try.ntmps7
    go_wp2_with fail
    rw [← HV.out]
    clear x1 y1
    have a1 := HX1.out.c0
    have b1 := HX1.out.c1
    generalize w.heap.size = H at a1 b1 ⊢
    obtain ⟨z0, hz0⟩ := LatW.start V
    rw [← hz0]
    clear hz0
    first | (go_at_call 18; refine ((HP.out).at_ _).mono ?_; rintro e w9 ⟨rfl, z9, rfl⟩) | (go_at_call 11; refine ((HAw.out).at_ _).mono ?_; rintro e w9 ⟨rfl, z9, rfl⟩)
    go_wp2_with (first | (go_at_call 18; refine ((HP.out).at_ _).mono ?_; rintro e w9 ⟨rfl, z9, rfl⟩) | (go_at_call 11; refine ((HAw.out).at_ _).mono ?_; rintro e w9 ⟨rfl, z9, rfl⟩))
    go_ret
    exact ⟨rfl, lat_end HBV.out _⟩
  | false =>
  cases k2 : decide ((1048576 : Int) < more) with
  | true =>
    have x1 := HX1.out.c0 ⟨V, Below.refl _ _⟩
    have y1 := HX1.out.c1 ⟨V, Below.refl _ _⟩
    simp only at x1 y1
    rw [HV.out] at x1 y1
    go_enter Try.func7, Try.ntmps7
    go_wp2_with fail
    rw [← HV.out]
    clear x1 y1
    have a1 := HX1.out.c0
    have b1 := HX1.out.c1
    generalize w.heap.size = H at a1 b1 ⊢
    obtain ⟨z0, hz0⟩ := LatW.start V
    rw [← hz0]
    clear hz0
    first | (go_at_call 18; refine ((HP.out).at_ _).mono ?_; rintro e w9 ⟨rfl, z9, rfl⟩) | (go_at_call 11; refine ((HAw.out).at_ _).mono ?_; rintro e w9 ⟨rfl, z9, rfl⟩)
    go_wp2_with (first | (go_at_call 18; refine ((HP.out).at_ _).mono ?_; rintro e w9 ⟨rfl, z9, rfl⟩) | (go_at_call 11; refine ((HAw.out).at_ _).mono ?_; rintro e w9 ⟨rfl, z9, rfl⟩))
    go_ret
    exact ⟨rfl, lat_end HBV.out _⟩
  | false =>
  cases k3 : decide ((549755813888 : Int) < q1) with
  | true =>
    have x1 := HX1.out.c0 ⟨V, Below.refl _ _⟩
    have y1 := HX1.out.c1 ⟨V, Below.refl _ _⟩
    simp only at x1 y1
    rw [HV.out] at x1 y1
    go_enter Try.func7, Try.ntmps7
    go_wp2_with fail
    rw [← HV.out]
    clear x1 y1
    have a1 := HX1.out.c0
    have b1 := HX1.out.c1
    generalize w.heap.size = H at a1 b1 ⊢
    obtain ⟨z0, hz0⟩ := LatW.start V
    rw [← hz0]
    clear hz0
    first | (go_at_call 18; refine ((HP.out).at_ _).mono ?_; rintro e w9 ⟨rfl, z9, rfl⟩) | (go_at_call 11; refine ((HAw.out).at_ _).mono ?_; rintro e w9 ⟨rfl, z9, rfl⟩)
    go_wp2_with (first | (go_at_call 18; refine ((HP.out).at_ _).mono ?_; rintro e w9 ⟨rfl, z9, rfl⟩) | (go_at_call 11; refine ((HAw.out).at_ _).mono ?_; rintro e w9 ⟨rfl, z9, rfl⟩))
    go_ret
    exact ⟨rfl, lat_end HBV.out _⟩
  | false =>
  have k1p := of_decide_eq_false k1
  have k2p := of_decide_eq_false k2
  have k3p := of_decide_eq_false k3
  have hq0 := (place_pos ok).1
  have hg100 := of_decide_eq_false g1
  have hw : IntKind.i64.wrap (q1 + more) = q1 + more := by rw [IntKind.wrap_i64]; omega
  by_cases hE : growE l1 ep q1 = 0
  · 
    obtain ⟨t1, t2⟩ := grow_goes (more := more) ok hE (by omega) (by omega)
    have t3 : aheadB l1 q1 (l1 ++ [(ep, q1)]) (q1 + more) = true := by rw [aheadB_ok ok t1, t2]; simp
    have t4 : lastL (l1 ++ [(ep, q1)]) = ep := by rw [lastL_ok ((placedB_iff _ _).1 t1).1, lastB_append]
    have t5 : more = 0 ∨ epochP (l1 ++ [(ep, q1)]) (q1 + more) (q1 + more) = ep := by
      by_cases hm : more = 0
      · exact .inl hm
      · right; unfold epochP; rw [if_pos ⟨t1, by omega, by omega⟩]; exact grow_epoch ok (by omega)
    have hL : growL l1 ep q1 = l1 ++ [(ep, q1)] := by unfold growL; rw [if_pos hE]
    rw [hE, hL] at HGr
    have hlen : (l1 ++ [(ep, q1)]).length ≤ 9223372036854775807 := by rw [List.length_append]; simp; omega
    obtain ⟨R, hR⟩ : ∃ R, l1 ++ [(ep, q1)] = R := ⟨_, rfl⟩
    rw [hR] at HGr t1 t2 t3 t4 t5 hlen
    clear hL hR hE hg100
    have x1 := HX1.out.c0 ⟨V, Below.refl _ _⟩
    have y1 := HX1.out.c1 ⟨V, Below.refl _ _⟩
    simp only at x1 y1
    rw [HV.out] at x1 y1
    go_enter Try.func7, Try.ntmps7
    go_wp2_with fail
    rw [← HV.out]
    clear x1 y1
    have a1 := HX1.out.c0
    have b1 := HX1.out.c1
    generalize w.heap.size = H at a1 b1 ⊢
    obtain ⟨z0, hz0⟩ := LatW.start V
    rw [← hz0]
    clear hz0
    first | (go_at_call 18; refine ((HP.out).at_ _).mono ?_; rintro e w9 ⟨rfl, z9, rfl⟩) | (go_at_call 11; refine ((HAw.out).at_ _).mono ?_; rintro e w9 ⟨rfl, z9, rfl⟩)
    go_wp2_with (first | (go_at_call 18; refine ((HP.out).at_ _).mono ?_; rintro e w9 ⟨rfl, z9, rfl⟩) | (go_at_call 11; refine ((HAw.out).at_ _).mono ?_; rintro e w9 ⟨rfl, z9, rfl⟩))
    rename_i zz
    refine (HGr.out _ _).mono ?_
    rintro e w5 ⟨Ag, cg, rfl, hbr, hb5⟩
    obtain ⟨z5, hz5⟩ : ∃ z5 : LatW V, z5.wd = w5 := ⟨⟨w5, (LatW.bel _).trans (hb5.mono (LatW.bel _).size)⟩, rfl⟩
    have HB5 : Hid (Below w.heap.size w w5) := Lib.hid (by rw [← hz5]; exact lat_end HBV.out _)
    have e1 := a1 z5
    have e2 := b1 z5
    rw [hz5] at e1 e2
    obtain ⟨U, hU⟩ : ∃ U, U = w5.alloc (.cells #[.slice Ag R.length cg, .int .i64 (q1 + more)] 36 (0, 0)) := ⟨_, rfl⟩
    have hBU : Below w5.heap.size w5 U := by rw [hU]; exact below_one _ _
    have HXU : Hid (PosBox U w5.heap.size Ag R.length cg (q1 + more)) := Lib.hid (by rw [hU]; exact PosBox.of (heap_new _ _))
    have HAg := Lib.hid (fun (z : LatW U) => hbr.lat hBU z)
    have HBU := Lib.hid (HB5.out.trans (hBU.mono HB5.out.size))
    have HU := Lib.hid hU
    have HAl : Hid (∀ z : LatW U, BrsAt z.wd z.wd.heap.size A1 l1) := Lib.hid (fun z => ((HA1.out z5).next (by rw [hz5]; exact hBU)).next z.bel)
    have HXp : Hid (∀ z : LatW U, z.wd.cell? ⟨H, 0, none⟩ = some (.slice A1 l1.length c1) ∧ z.wd.cell? ⟨H, 1, none⟩ = some (.int .i64 q1)) := Lib.hid (fun z => by
      have hbz : Below V.heap.size V z.wd := by have h := z5.bel; rw [hz5] at h; exact (h.trans (hBU.mono h.size)).trans (z.bel.mono (Nat.le_trans h.size hBU.size))
      exact ⟨a1 ⟨z.wd, hbz⟩, b1 ⟨z.wd, hbz⟩⟩)
    clear hU hbr hb5 hBU hz5
    clear HP HAw
    have HAw : Hid (LatCalls Try.prog U 11 #[] (.bool true)) := Lib.hid (LatCalls.of fun z => awake11_any z.wd)
    have HP : Hid (LatCalls Try.prog U 18 #[.agg #[.slice Ag R.length cg, .int .i64 (q1 + more)]] (.bool true)) := Lib.hid (LatCalls.of fun z => by have t := Placed_any (c := cg) (q := q1 + more) (HAg.out z) hlen; rw [t1] at t; exact t)
    have HH : Hid (LatCalls Try.prog U 24 #[.agg #[.slice A1 l1.length c1, .int .i64 q1], .agg #[.slice Ag R.length cg, .int .i64 (q1 + more)]] (.bool true)) := Lib.hid (LatCalls.of fun z => by have t := Ahead_any (c1 := c1) (c2 := cg) (p := q1) (q := q1 + more) (HAl.out z) (HAg.out z) s1 hlen; rw [t3] at t; exact t)
    have HC : Hid (LatCalls Try.prog U 23 #[.agg #[.slice A1 l1.length c1, .int .i64 q1], .agg #[.slice Ag R.length cg, .int .i64 (q1 + more)]] (.int .i64 q1)) := Lib.hid (LatCalls.of fun z => by have t := Common_any (c1 := c1) (c2 := cg) (p := q1) (q := q1 + more) (HAl.out z) (HAg.out z) s1 hlen; rw [t2] at t; exact t)
    have HL : Hid (LatCalls Try.prog U 17 #[.slice Ag R.length cg] (.int .i64 ep)) := Lib.hid (LatCalls.of fun z => by have t := Last_any (c := cg) (HAg.out z) hlen; rw [t4] at t; exact t)
    have HT5 := Lib.hid t5
    clear t1 t2 t3 t4 t5 a1 b1
    go_wp2_with fail
    rw [← HU.out]
    clear e1 e2
    have a1 := fun z => (HXp.out z).1
    have b1 := fun z => (HXp.out z).2
    have a2 := HXU.out.c0
    have b2 := HXU.out.c1
    generalize w5.heap.size = G at a2 b2 ⊢
    obtain ⟨z0, hz0⟩ := LatW.start U
    rw [← hz0]
    clear hz0
    by_cases hm : more = 0
    · have hmb : (more == 0) = true := by rw [beq_iff_eq]; exact hm
      clear hm
      refine wp_region_in (LatW.bel _) (by kernel_rfl) (by kernel_rfl) ?_
      repeat (first | go_big_quiet_skip | quiet_step (first | (go_at_call 18; exact (HP.out).at_ _) | (go_at_call 24; exact (HH.out).at_ _) | (go_at_call 23; exact (HC.out).at_ _) | (go_at_call 17; exact (HL.out).at_ _) | (go_at_call 11; exact (HAw.out).at_ _)) | (go_big_quiet_want; go_big_quiet_op; go_big_quiet_on))
      refine wpQuiet_nil ?_
      intro w9 hw9
      obtain ⟨z9, hw9'⟩ := hw9
      subst hw9'
      go_wp2_with (first | (go_at_call 18; refine ((HP.out).at_ _).mono ?_; rintro e w9 ⟨rfl, z9, rfl⟩) | (go_at_call 24; refine ((HH.out).at_ _).mono ?_; rintro e w9 ⟨rfl, z9, rfl⟩) | (go_at_call 23; refine ((HC.out).at_ _).mono ?_; rintro e w9 ⟨rfl, z9, rfl⟩) | (go_at_call 17; refine ((HL.out).at_ _).mono ?_; rintro e w9 ⟨rfl, z9, rfl⟩) | (go_at_call 11; refine ((HAw.out).at_ _).mono ?_; rintro e w9 ⟨rfl, z9, rfl⟩))
      go_ret
      exact ⟨rfl, lat_end HBU.out _⟩
    · have hmb : (more == 0) = false := by rw [beq_eq_false_iff_ne]; exact hm
      have t5 : epochP R (q1 + more) (q1 + more) = ep := by rcases HT5.out with h | h; exact absurd h hm; exact h
      have HE : Hid (LatCalls Try.prog U 20 #[.agg #[.slice Ag R.length cg, .int .i64 (q1 + more)], .int .i64 (q1 + more)] (.int .i64 ep)) := Lib.hid (LatCalls.of fun z => by have t := Epoch_any (c := cg) (q := q1 + more) (q1 + more) (HAg.out z) hlen; rw [t5] at t; exact t)
      clear hm t5
      refine wp_region_in (LatW.bel _) (by kernel_rfl) (by kernel_rfl) ?_
      repeat (first | go_big_quiet_skip | quiet_step (first | (go_at_call 18; exact (HP.out).at_ _) | (go_at_call 24; exact (HH.out).at_ _) | (go_at_call 23; exact (HC.out).at_ _) | (go_at_call 17; exact (HL.out).at_ _) | (go_at_call 11; exact (HAw.out).at_ _) | (go_at_call 20; exact (HE.out).at_ _)) | (go_big_quiet_want; go_big_quiet_op; go_big_quiet_on))
      refine wpQuiet_nil ?_
      intro w9 hw9
      obtain ⟨z9, hw9'⟩ := hw9
      subst hw9'
      go_wp2_with (first | (go_at_call 18; refine ((HP.out).at_ _).mono ?_; rintro e w9 ⟨rfl, z9, rfl⟩) | (go_at_call 24; refine ((HH.out).at_ _).mono ?_; rintro e w9 ⟨rfl, z9, rfl⟩) | (go_at_call 23; refine ((HC.out).at_ _).mono ?_; rintro e w9 ⟨rfl, z9, rfl⟩) | (go_at_call 17; refine ((HL.out).at_ _).mono ?_; rintro e w9 ⟨rfl, z9, rfl⟩) | (go_at_call 11; refine ((HAw.out).at_ _).mono ?_; rintro e w9 ⟨rfl, z9, rfl⟩) | (go_at_call 20; refine ((HE.out).at_ _).mono ?_; rintro e w9 ⟨rfl, z9, rfl⟩))
      go_ret
      exact ⟨rfl, lat_end HBU.out _⟩
  · have hEb : (growE l1 ep q1 != 0) = true := by rw [bne_iff_ne]; exact hE
    rw [growE_ne hE] at HGr
    obtain ⟨ge, hge⟩ : ∃ ge, growE l1 ep q1 = ge := ⟨_, rfl⟩
    rw [hge] at HGr hEb
    clear hge hE hg100
    have x1 := HX1.out.c0 ⟨V, Below.refl _ _⟩
    have y1 := HX1.out.c1 ⟨V, Below.refl _ _⟩
    simp only at x1 y1
    rw [HV.out] at x1 y1
    go_enter Try.func7, Try.ntmps7
    go_wp2_with fail
    rw [← HV.out]
    clear x1 y1
    have a1 := HX1.out.c0
    have b1 := HX1.out.c1
    generalize w.heap.size = H at a1 b1 ⊢
    obtain ⟨z0, hz0⟩ := LatW.start V
    rw [← hz0]
    clear hz0
    first | (go_at_call 18; refine ((HP.out).at_ _).mono ?_; rintro e w9 ⟨rfl, z9, rfl⟩) | (go_at_call 11; refine ((HAw.out).at_ _).mono ?_; rintro e w9 ⟨rfl, z9, rfl⟩)
    go_wp2_with (first | (go_at_call 18; refine ((HP.out).at_ _).mono ?_; rintro e w9 ⟨rfl, z9, rfl⟩) | (go_at_call 11; refine ((HAw.out).at_ _).mono ?_; rintro e w9 ⟨rfl, z9, rfl⟩))
    refine (HGr.out _ _).mono ?_
    rintro e w5 ⟨Ag, cg, rfl, hbr, hb5⟩
    obtain ⟨z5, rfl⟩ : ∃ z5 : LatW V, z5.wd = w5 := ⟨⟨w5, (LatW.bel _).trans (hb5.mono (LatW.bel _).size)⟩, rfl⟩
    clear hbr hb5
    go_wp2_with (first | (go_at_call 18; refine ((HP.out).at_ _).mono ?_; rintro e w9 ⟨rfl, z9, rfl⟩) | (go_at_call 11; refine ((HAw.out).at_ _).mono ?_; rintro e w9 ⟨rfl, z9, rfl⟩))
    go_ret
    exact ⟨rfl, lat_end HBV.out _⟩
end Go.Proofs.Ytokdicaoonjimaa
