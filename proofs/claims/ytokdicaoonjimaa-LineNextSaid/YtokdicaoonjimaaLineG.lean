/- Lineages: contracts of Ahead, slices.Equal of branches, Same and Next. -/
import Derived.Test.YtokdicaoonjimaaLineF
namespace Go.Proofs.Ytokdicaoonjimaa
open Go.RowKit

theorem aheadB_a {l m : List Br} {p q : Int} (h : placedB l p = false) : aheadB l p m q = false := by unfold aheadB; rw [h]; rfl
theorem aheadB_b {l m : List Br} {p q : Int} (h : placedB m q = false) : aheadB l p m q = false := by unfold aheadB; rw [h]; simp
theorem aheadB_ok {l m : List Br} {p q : Int} (h1 : placedB l p = true) (h2 : placedB m q = true) : aheadB l p m q = (commonB l p m q == p) := by unfold aheadB; rw [h1, h2]; rfl

set_option maxHeartbeats 8000000 in
set_option maxRecDepth 100000 in
theorem Ahead_any {w : World} {A1 A2 : Option Addr} {c1 c2 : Nat} {l m : List Br} {p q : Int} (h1 : BrsAt w w.heap.size A1 l) (h2 : BrsAt w w.heap.size A2 m) (hl1 : l.length ≤ 9223372036854775807) (hl2 : m.length ≤ 9223372036854775807) :
    Calls Try.prog 24 #[.agg #[.slice A1 l.length c1, .int .i64 p], .agg #[.slice A2 m.length c2, .int .i64 q]] w fun e w' => e = .returned (.bool (aheadB l p m q)) ∧ Below w.heap.size w w' := by
  obtain ⟨V, hV⟩ : ∃ V, V = (w.alloc (.cells #[.slice A1 l.length c1, .int .i64 p] 36 (0, 0))).alloc (.cells #[.slice A2 m.length c2, .int .i64 q] 36 (0, 0)) := ⟨_, rfl⟩
  have HBV : Hid (Below w.heap.size w V) := Lib.hid (by rw [hV]; exact below_pos2 _ _ _)
  have HX1 : Hid (PosBox V w.heap.size A1 l.length c1 p) := Lib.hid (by rw [hV]; exact PosBox.of (heap_first _ _ _))
  have HX2 : Hid (PosBox V (w.heap.size + 1) A2 m.length c2 q) := Lib.hid (by rw [hV]; exact PosBox.of (heap_second _ _ _))
  have HV := Lib.hid hV
  have HP1 := Lib.hid (fun (z : LatW V) => Placed_any (c := c1) (q := p) (h1.lat HBV.out z) hl1)
  have HP2 := Lib.hid (fun (z : LatW V) => Placed_any (c := c2) (q := q) (h2.lat HBV.out z) hl2)
  have HC := Lib.hid (fun (z : LatW V) => Common_any (c1 := c1) (c2 := c2) (p := p) (q := q) (h1.lat HBV.out z) (h2.lat HBV.out z) hl1 hl2)
  clear hV h1 h2
  cases ok1 : placedB l p with
  | false =>
    rw [aheadB_a ok1]
    rw [ok1] at HP1
    go_enter Try.func24, Try.ntmps24
    go_wp2_with fail
    rw [← HV.out]
    have a0 := HX1.out.c0
    have a1 := HX1.out.c1
    have b0 := HX2.out.c0
    have b1 := HX2.out.c1
    generalize w.heap.size = H at a0 a1 b0 b1 ⊢
    refine wp_region_later (by kernel_rfl) (by kernel_rfl) ?_
    repeat (first | go_big_quiet_skip | quiet_step (first | (go_at_call 18; first | with_reducible exact Calls.later_of (HP1.out _) | with_reducible exact Calls.later_of (HP2.out _)) | (go_at_call 23; exact Calls.later_of (HC.out _))))
    refine wpQuiet_nil ?_
    intro w9 hw9
    obtain ⟨p9, hw9'⟩ := hw9
    subst hw9'
    go_wp2_with fail
    go_ret
    exact ⟨rfl, HBV.out.trans (p9.bel.mono HBV.out.size)⟩
  | true =>
  rw [ok1] at HP1
  cases ok2 : placedB m q with
  | false =>
    rw [aheadB_b ok2]
    rw [ok2] at HP2
    go_enter Try.func24, Try.ntmps24
    go_wp2_with fail
    rw [← HV.out]
    have a0 := HX1.out.c0
    have a1 := HX1.out.c1
    have b0 := HX2.out.c0
    have b1 := HX2.out.c1
    generalize w.heap.size = H at a0 a1 b0 b1 ⊢
    refine wp_region_later (by kernel_rfl) (by kernel_rfl) ?_
    repeat (first | go_big_quiet_skip | quiet_step (first | (go_at_call 18; first | with_reducible exact Calls.later_of (HP1.out _) | with_reducible exact Calls.later_of (HP2.out _)) | (go_at_call 23; exact Calls.later_of (HC.out _))))
    refine wpQuiet_nil ?_
    intro w9 hw9
    obtain ⟨p9, hw9'⟩ := hw9
    subst hw9'
    go_wp2_with fail
    go_ret
    exact ⟨rfl, HBV.out.trans (p9.bel.mono HBV.out.size)⟩
  | true =>
    rw [aheadB_ok ok1 ok2]
    rw [ok2] at HP2
    obtain ⟨cn, hcn⟩ : ∃ cn, commonB l p m q = cn := ⟨_, rfl⟩
    rw [hcn] at HC ⊢
    clear hcn ok1 ok2
    go_enter Try.func24, Try.ntmps24
    go_wp2_with fail
    rw [← HV.out]
    have a0 := HX1.out.c0
    have a1 := HX1.out.c1
    have b0 := HX2.out.c0
    have b1 := HX2.out.c1
    generalize w.heap.size = H at a0 a1 b0 b1 ⊢
    refine wp_region_later (by kernel_rfl) (by kernel_rfl) ?_
    repeat (first | go_big_quiet_skip | quiet_step (first | (go_at_call 18; first | with_reducible exact Calls.later_of (HP1.out _) | with_reducible exact Calls.later_of (HP2.out _)) | (go_at_call 23; exact Calls.later_of (HC.out _))))
    refine wpQuiet_nil ?_
    intro w9 hw9
    obtain ⟨p9, hw9'⟩ := hw9
    subst hw9'
    go_wp2_with fail
    go_ret
    exact ⟨rfl, HBV.out.trans (p9.bel.mono HBV.out.size)⟩

set_option maxHeartbeats 4000000 in
set_option maxRecDepth 100000 in
theorem EqualSl_any {w : World} {A1 A2 : Option Addr} {c1 c2 : Nat} {xs ys : List Br} (h1 : BrsAt w w.heap.size A1 xs) (h2 : BrsAt w w.heap.size A2 ys) (hl1 : xs.length ≤ 9223372036854775807) :
    Calls Try.prog 32 #[.slice A1 xs.length c1, .slice A2 ys.length c2] w fun e w' => e = .returned (.bool (eqBr xs ys)) ∧ Below w.heap.size w w' := by
  by_cases hlen : xs.length = ys.length
  · have H1 := Lib.hid h1
    have H2 := Lib.hid h2
    have mixed : Try.prog.follows .mixedOrders = true := by kernel_rfl
    obtain ⟨n, hn⟩ : ∃ n, xs.length = n := ⟨_, rfl⟩
    have HN1 := Lib.hid hn
    have HN2 : Hid (ys.length = n) := Lib.hid (by rw [← hlen]; exact hn)
    rw [← hlen, hn]
    rw [hn] at hl1
    clear h1 h2 hn hlen
    go_enter Try.func32, Try.ntmps32
    go_wp2
    go_loopg [13] n (fun kx i wr => ∃ k : Nat, k ≤ n ∧ n - k ≤ kx ∧ i = .int .i64 k ∧ Hid (xs.take k = ys.take k) ∧ Hid (Below w.heap.size w wr))
    case atStart => exact ⟨0, Nat.zero_le _, by omega, rfl, Lib.hid (by simp), Lib.hid (Below.refl _ _)⟩
    case round =>
      obtain ⟨k, hk, hkx, rfl, HK, HB⟩ := hrel
      by_cases hlt : k < n
      · have hk1 : k < xs.length := by rw [HN1.out]; exact hlt
        have hk2 : k < ys.length := by rw [HN2.out]; exact hlt
        obtain ⟨b1, o1, hA1, _, x1, x2⟩ := H1.out.at_ HB.out hk1
        obtain ⟨b2, o2, hA2, _, y1, y2⟩ := H2.out.at_ HB.out hk2
        subst hA1
        subst hA2
        have HNo : Hid (xs[k] ≠ ys[k] → eqBr xs ys = false) := Lib.hid (fun h => eqBr_ne (ne_at hk1 hk2 h))
        have HYes : Hid (xs[k] = ys[k] → xs.take (k + 1) = ys.take (k + 1)) := Lib.hid (fun h => take_eq_step HK.out hk1 hk2 h)
        obtain ⟨u, hu⟩ : ∃ u, xs[k] = u := ⟨_, rfl⟩
        obtain ⟨v, hv⟩ : ∃ v, ys[k] = v := ⟨_, rfl⟩
        rw [hu] at x1 x2 HNo HYes
        rw [hv] at y1 y2 HNo HYes
        clear hu hv hk1 hk2 HK
        obtain ⟨i1, j1⟩ := u
        obtain ⟨i2, j2⟩ := v
        simp only at x1 x2 y1 y2
        have hk0 : (0 : Int) ≤ (k : Int) := Int.natCast_nonneg _
        have hk8 : (k : Int) < (n : Int) := by omega
        have hne := neq_br (i1, j1) (i2, j2)
        have hgd := guard_br
        simp only at hne
        by_cases he : ((i1, j1) : Br) = (i2, j2)
        · have HE := Lib.hid (HYes.out he)
          rw [he, sameB_self] at hne
          simp only [Bool.not_true] at hne
          have e1 : i1 = i2 := congrArg Prod.fst he
          have e2 : j1 = j2 := congrArg Prod.snd he
          subst e1
          subst e2
          clear he HYes HNo
          go_wp2_with fail
          go_quiet (fail)
          go_wp2_with fail
          go_roundg (n - (k + 1))
          case measure => omega
          case rel => exact ⟨k + 1, by omega, Nat.le_refl _, by go_num, HE, Lib.hid (HB.out.trans ⟨rfl, rfl, rfl, Nat.le_refl _, fun _ _ => rfl⟩)⟩
        · have HE := Lib.hid (HNo.out he)
          rw [sameB_ne he] at hne
          simp only [Bool.not_false] at hne
          clear he HYes HNo
          go_wp2_with fail
          go_quiet (fail)
          go_wp2_with fail
          go_ret
          exact ⟨by rw [HE.out]; rfl, HB.out.trans ⟨rfl, rfl, rfl, Nat.le_refl _, fun _ _ => rfl⟩⟩
      · have hltz : ¬ (k : Int) < (n : Int) := by omega
        have HE : Hid (eqBr xs ys = true) := Lib.hid (by rw [take_eq_all HK.out (by rw [HN1.out]; omega) (by rw [HN2.out]; omega)]; exact eqBr_self _)
        go_wp2_with fail
        go_ret
        exact ⟨by rw [HE.out]; rfl, HB.out⟩
  · have hlz : ((xs.length : Int) != (ys.length : Int)) = true := by rw [bne_iff_ne]; omega
    have HE : Hid (eqBr xs ys = false) := Lib.hid (eqBr_ne (fun e => hlen (by rw [e])))
    clear h1 h2 hlen
    go_enter Try.func32, Try.ntmps32
    go_wp2
    go_ret
    exact ⟨by rw [HE.out]; rfl, Below.refl _ _⟩

theorem samePl_a {l m : List Br} {p q : Int} (h : placedB l p = false) : samePl l p m q = false := by unfold samePl; rw [h]; rfl
theorem samePl_b {l m : List Br} {p q : Int} (h : placedB m q = false) : samePl l p m q = false := by
  rw [Bool.eq_false_iff]; intro e
  simp only [samePl, Bool.and_eq_true, decide_eq_true_eq] at e
  obtain ⟨e1, e2, e3⟩ := e
  rw [e2, e3, h] at e1; cases e1
theorem samePl_s {l m : List Br} {p q : Int} (h : ¬ p = q) : samePl l p m q = false := by unfold samePl; rw [decide_eq_false h]; simp
theorem samePl_ok {l m : List Br} {p q : Int} (h : placedB l p = true) (h2 : p = q) : samePl l p m q = eqBr l m := by unfold samePl eqBr; rw [h, decide_eq_true h2]; rfl

set_option maxHeartbeats 8000000 in
set_option maxRecDepth 100000 in
theorem Same_any {w : World} {A1 A2 : Option Addr} {c1 c2 : Nat} {l m : List Br} {p q : Int} (h1 : BrsAt w w.heap.size A1 l) (h2 : BrsAt w w.heap.size A2 m) (hl1 : l.length ≤ 9223372036854775807) (hl2 : m.length ≤ 9223372036854775807) :
    Calls Try.prog 25 #[.agg #[.slice A1 l.length c1, .int .i64 p], .agg #[.slice A2 m.length c2, .int .i64 q]] w fun e w' => e = .returned (.bool (samePl l p m q)) ∧ Below w.heap.size w w' := by
  obtain ⟨V, hV⟩ : ∃ V, V = (w.alloc (.cells #[.slice A1 l.length c1, .int .i64 p] 36 (0, 0))).alloc (.cells #[.slice A2 m.length c2, .int .i64 q] 36 (0, 0)) := ⟨_, rfl⟩
  have HBV : Hid (Below w.heap.size w V) := Lib.hid (by rw [hV]; exact below_pos2 _ _ _)
  have HX1 : Hid (PosBox V w.heap.size A1 l.length c1 p) := Lib.hid (by rw [hV]; exact PosBox.of (heap_first _ _ _))
  have HX2 : Hid (PosBox V (w.heap.size + 1) A2 m.length c2 q) := Lib.hid (by rw [hV]; exact PosBox.of (heap_second _ _ _))
  have HV := Lib.hid hV
  have HP1 := Lib.hid (fun (z : LatW V) => Placed_any (c := c1) (q := p) (h1.lat HBV.out z) hl1)
  have HP2 := Lib.hid (fun (z : LatW V) => Placed_any (c := c2) (q := q) (h2.lat HBV.out z) hl2)
  have HE := Lib.hid (fun (z : LatW V) => EqualSl_any (c1 := c1) (c2 := c2) (h1.lat HBV.out z) (h2.lat HBV.out z) hl1)
  have Z0 := HX1.out.c0 ⟨V, Below.refl _ _⟩
  have Z1 := HX1.out.c1 ⟨V, Below.refl _ _⟩
  simp only at Z0 Z1
  clear hV h1 h2
  cases ok1 : placedB l p with
  | false =>
    rw [samePl_a ok1]
    rw [ok1] at HP1
    go_enter Try.func25, Try.ntmps25
    go_wp2_with fail
    rw [← HV.out]
    have a0 := HX1.out.c0
    have a1 := HX1.out.c1
    have b0 := HX2.out.c0
    have b1 := HX2.out.c1
    generalize w.heap.size = H at Z0 Z1 a0 a1 b0 b1 ⊢
    go_wp2_with fail
    refine (HP1.out ⟨V, Below.refl _ _⟩).mono ?_
    rintro e w1 ⟨rfl, hb1⟩
    obtain ⟨z1, rfl⟩ : ∃ z1 : LatW V, z1.wd = w1 := ⟨⟨w1, hb1⟩, rfl⟩
    clear hb1
    go_wp2_with fail
    go_ret
    exact ⟨rfl, HBV.out.trans (z1.bel.mono HBV.out.size)⟩
  | true =>
  rw [ok1] at HP1
  cases ok2 : placedB m q with
  | false =>
    rw [samePl_b ok2]
    rw [ok2] at HP2
    go_enter Try.func25, Try.ntmps25
    go_wp2_with fail
    rw [← HV.out]
    have a0 := HX1.out.c0
    have a1 := HX1.out.c1
    have b0 := HX2.out.c0
    have b1 := HX2.out.c1
    generalize w.heap.size = H at Z0 Z1 a0 a1 b0 b1 ⊢
    go_wp2_with fail
    refine (HP1.out ⟨V, Below.refl _ _⟩).mono ?_
    rintro e w1 ⟨rfl, hb1⟩
    obtain ⟨z1, rfl⟩ : ∃ z1 : LatW V, z1.wd = w1 := ⟨⟨w1, hb1⟩, rfl⟩
    clear hb1
    go_wp2_with fail
    refine (HP2.out z1).mono ?_
    rintro e w2 ⟨rfl, hb2⟩
    obtain ⟨z2, rfl⟩ : ∃ z2 : LatW V, z2.wd = w2 := ⟨⟨w2, z1.bel.trans (hb2.mono z1.bel.size)⟩, rfl⟩
    clear hb2
    go_wp2_with fail
    go_ret
    exact ⟨rfl, HBV.out.trans (z2.bel.mono HBV.out.size)⟩
  | true =>
  rw [ok2] at HP2
  by_cases hs : p = q
  · have HR := Lib.hid (samePl_ok (m := m) ok1 hs)
    rw [HR.out]
    subst hs
    clear HR
    go_enter Try.func25, Try.ntmps25
    go_wp2_with fail
    rw [← HV.out]
    have a0 := HX1.out.c0
    have a1 := HX1.out.c1
    have b0 := HX2.out.c0
    have b1 := HX2.out.c1
    generalize w.heap.size = H at Z0 Z1 a0 a1 b0 b1 ⊢
    go_wp2_with fail
    refine (HP1.out ⟨V, Below.refl _ _⟩).mono ?_
    rintro e w1 ⟨rfl, hb1⟩
    obtain ⟨z1, rfl⟩ : ∃ z1 : LatW V, z1.wd = w1 := ⟨⟨w1, hb1⟩, rfl⟩
    clear hb1
    go_wp2_with fail
    refine (HP2.out z1).mono ?_
    rintro e w2 ⟨rfl, hb2⟩
    obtain ⟨z2, rfl⟩ : ∃ z2 : LatW V, z2.wd = w2 := ⟨⟨w2, z1.bel.trans (hb2.mono z1.bel.size)⟩, rfl⟩
    clear hb2
    go_wp2_with fail
    refine (HE.out z2).mono ?_
    rintro e w3 ⟨rfl, hb3⟩
    obtain ⟨z3, rfl⟩ : ∃ z3 : LatW V, z3.wd = w3 := ⟨⟨w3, z2.bel.trans (hb3.mono z2.bel.size)⟩, rfl⟩
    clear hb3
    go_wp2_with fail
    go_ret
    exact ⟨rfl, HBV.out.trans (z3.bel.mono HBV.out.size)⟩
  · have hsb : (p == q) = false := by rw [beq_eq_false_iff_ne]; exact hs
    rw [samePl_s hs]
    go_enter Try.func25, Try.ntmps25
    go_wp2_with fail
    rw [← HV.out]
    have a0 := HX1.out.c0
    have a1 := HX1.out.c1
    have b0 := HX2.out.c0
    have b1 := HX2.out.c1
    generalize w.heap.size = H at Z0 Z1 a0 a1 b0 b1 ⊢
    go_wp2_with fail
    refine (HP1.out ⟨V, Below.refl _ _⟩).mono ?_
    rintro e w1 ⟨rfl, hb1⟩
    obtain ⟨z1, rfl⟩ : ∃ z1 : LatW V, z1.wd = w1 := ⟨⟨w1, hb1⟩, rfl⟩
    clear hb1
    go_wp2_with fail
    refine (HP2.out z1).mono ?_
    rintro e w2 ⟨rfl, hb2⟩
    obtain ⟨z2, rfl⟩ : ∃ z2 : LatW V, z2.wd = w2 := ⟨⟨w2, z1.bel.trans (hb2.mono z1.bel.size)⟩, rfl⟩
    clear hb2
    go_wp2_with fail
    go_ret
    exact ⟨rfl, HBV.out.trans (z2.bel.mono HBV.out.size)⟩

set_option maxHeartbeats 1600000 in
theorem Next_any (known site : Int) (w : World) (h1 : -9223372036854775808 ≤ known) (h2 : known ≤ 9223372036854775807) (h3 : -9223372036854775808 ≤ site) (h4 : site ≤ 9223372036854775807) :
    Calls Try.prog 26 #[.int .i64 known, .int .i64 site] w fun e w' => e = .returned (.int .i64 (nextB known site)) ∧ Below w.heap.size w w' := by
  by_cases g1 : known < 0
  · rw [show nextB known site = 0 from by unfold nextB; rw [if_neg (by omega)]]
    have hd : decide (known < 0) = true := decide_eq_true g1
    clear g1
    go_enter Try.func26, Try.ntmps26
    go_wp2_with fail
    go_ret
    exact ⟨rfl, Below.refl _ _⟩
  have hd1 : decide (known < 0) = false := decide_eq_false g1
  by_cases g2 : 1099511627774 < known
  · rw [show nextB known site = 0 from by unfold nextB; rw [if_neg (by omega)]]
    have hd : decide (1099511627774 < known) = true := decide_eq_true g2
    clear g1 g2
    go_enter Try.func26, Try.ntmps26
    go_wp2_with fail
    go_ret
    exact ⟨rfl, Below.refl _ _⟩
  have hd2 : decide (1099511627774 < known) = false := decide_eq_false g2
  by_cases g3 : site < 0
  · rw [show nextB known site = 0 from by unfold nextB; rw [if_neg (by omega)]]
    have hd : decide (site < 0) = true := decide_eq_true g3
    clear g1 g2 g3
    go_enter Try.func26, Try.ntmps26
    go_wp2_with fail
    go_ret
    exact ⟨rfl, Below.refl _ _⟩
  have hd3 : decide (site < 0) = false := decide_eq_false g3
  by_cases g4 : 2 ≤ site
  · rw [show nextB known site = 0 from by unfold nextB; rw [if_neg (by omega)]]
    have hd : decide (2 ≤ site) = true := decide_eq_true g4
    clear g1 g2 g3 g4
    go_enter Try.func26, Try.ntmps26
    go_wp2_with fail
    go_ret
    exact ⟨rfl, Below.refl _ _⟩
  have hd4 : decide (2 ≤ site) = false := decide_eq_false g4
  have hs : site = 0 ∨ site = 1 := by omega
  have hnb : nextB known site = if (known + 1) % 2 = 1 - site then known + 1 else known + 2 := by unfold nextB; rw [if_pos ⟨by omega, by omega, hs⟩]
  have ht : Int.tmod (known + 1) 2 = (known + 1) % 2 := Int.tmod_eq_emod_of_nonneg (by omega)
  obtain ⟨tm, htm⟩ : ∃ tm, (known + 1) % 2 = tm := ⟨_, rfl⟩
  have htm2 : tm = 0 ∨ tm = 1 := by omega
  rw [htm] at ht hnb
  have HNB := Lib.hid hnb
  clear hnb
  clear htm
  rcases hs with rfl | rfl
  · rcases htm2 with rfl | rfl
    · go_enter Try.func26, Try.ntmps26
      go_wp2_with fail
      go_ret
      exact ⟨by rw [HNB.out, if_neg (by omega), show known + 2 = known + 1 + 1 from by omega]; rfl, Below.refl _ _⟩
    · go_enter Try.func26, Try.ntmps26
      go_wp2_with fail
      go_ret
      exact ⟨by rw [HNB.out]; rfl, Below.refl _ _⟩
  · rcases htm2 with rfl | rfl
    · go_enter Try.func26, Try.ntmps26
      go_wp2_with fail
      go_ret
      exact ⟨by rw [HNB.out]; rfl, Below.refl _ _⟩
    · go_enter Try.func26, Try.ntmps26
      go_wp2_with fail
      go_ret
      exact ⟨by rw [HNB.out, if_neg (by omega), show known + 2 = known + 1 + 1 from by omega]; rfl, Below.refl _ _⟩
end Go.Proofs.Ytokdicaoonjimaa
