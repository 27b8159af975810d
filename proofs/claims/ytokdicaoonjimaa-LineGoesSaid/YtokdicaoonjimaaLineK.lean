/- Lineages: contract of the document's Common. -/
import Derived.Test.YtokdicaoonjimaaLineJ
namespace Go.Proofs.Ytokdicaoonjimaa
open Go.RowKit

theorem cutN_neg {n x : Int} (h : ¬ 0 ≤ x) : cutN n x = n := by unfold cutN; rw [if_neg (by omega)]
theorem cutN_big {n x : Int} (h : ¬ x < n) : cutN n x = n := by unfold cutN; rw [if_neg (by omega)]
theorem cutN_yes {n x : Int} (h0 : 0 ≤ x) (h : x < n) : cutN n x = x := by unfold cutN; rw [if_pos ⟨h0, h⟩]

/-- A region as of wp_region_later, at a world that is later already. -/
theorem wp_region_in {P : Program} {id : Nat} {Q : Exit → Act → World → Prop} {a : Act} {V w : World} {l : List Oper} (hw : Below V.heap.size V w) (hm : P.follows .mixedOrders = true) (hB : Region.lexB .any l.toArray = true)
    (h : wpQuiet P l.toArray (fun w' => ∃ p : LatW V, w' = p.wd) (fun a' => ∀ w', (∃ p : LatW V, w' = p.wd) → Q .normal a' w') l a) : (Code.region id l.toArray true).wp P Q a w :=
  wp_region_quiet (C := fun w' => ∃ p : LatW V, w' = p.wd) hm hB ⟨⟨w.drew, hw.drew⟩, rfl⟩ (by simpa using h)

set_option maxHeartbeats 8000000 in
set_option maxRecDepth 100000 in
theorem DCommon_any {w : World} {A1 A2 : Option Addr} {c1 c2 : Nat} {l m : List Br} {p q : Int} (h1 : BrsAt w w.heap.size A1 l) (h2 : BrsAt w w.heap.size A2 m) (hl1 : l.length ≤ 9223372036854775807) (hl2 : m.length ≤ 9223372036854775807) :
    Calls Try.prog 22 #[.agg #[.slice A1 l.length c1, .int .i64 p], .agg #[.slice A2 m.length c2, .int .i64 q]] w fun e w' => e = .returned (.int .i64 (commonB l p m q)) ∧ Below w.heap.size w w' := by
  obtain ⟨V, hV⟩ : ∃ V, V = (w.alloc (.cells #[.slice A1 l.length c1, .int .i64 p] 36 (0, 0))).alloc (.cells #[.slice A2 m.length c2, .int .i64 q] 36 (0, 0)) := ⟨_, rfl⟩
  have HBV : Hid (Below w.heap.size w V) := Lib.hid (by rw [hV]; exact below_pos2 _ _ _)
  have HX1 : Hid (PosBox V w.heap.size A1 l.length c1 p) := Lib.hid (by rw [hV]; exact PosBox.of (heap_first _ _ _))
  have HX2 : Hid (PosBox V (w.heap.size + 1) A2 m.length c2 q) := Lib.hid (by rw [hV]; exact PosBox.of (heap_second _ _ _))
  have HV := Lib.hid hV
  have HP1 := Lib.hid (fun (z : LatW V) => DPlaced_any (c := c1) (q := p) (h1.lat HBV.out z) hl1)
  have HP2 := Lib.hid (fun (z : LatW V) => DPlaced_any (c := c2) (q := q) (h2.lat HBV.out z) hl2)
  clear hV
  cases ok1 : placedB l p with
  | false =>
    rw [commonB_a ok1]
    rw [ok1] at HP1
    go_enter Try.func22, Try.ntmps22
    go_wp2_with fail
    rw [← HV.out]
    have a0 := HX1.out.c0
    have a1 := HX1.out.c1
    have b0 := HX2.out.c0
    have b1 := HX2.out.c1
    generalize w.heap.size = H at a0 a1 b0 b1 ⊢
    refine wp_region_later (by kernel_rfl) (by kernel_rfl) ?_
    repeat (first | go_big_quiet_skip | quiet_step (first | (go_at_call 19; exact Calls.later_of (HP1.out _))))
    refine wpQuiet_nil ?_
    intro w9 hw9
    obtain ⟨p9, hw9'⟩ := hw9
    subst hw9'
    go_wp2_with fail
    go_ret
    exact ⟨rfl, HBV.out.trans (p9.bel.mono HBV.out.size)⟩
  | true =>
  rw [ok1] at HP1
  cases ok2 : placedB m q with
  | false =>
    rw [commonB_b ok2]
    rw [ok2] at HP2
    go_enter Try.func22, Try.ntmps22
    go_wp2_with fail
    rw [← HV.out]
    have a0 := HX1.out.c0
    have a1 := HX1.out.c1
    have b0 := HX2.out.c0
    have b1 := HX2.out.c1
    generalize w.heap.size = H at a0 a1 b0 b1 ⊢
    refine wp_region_later (by kernel_rfl) (by kernel_rfl) ?_
    repeat (first | go_big_quiet_skip | quiet_step (first | (go_at_call 19; first | with_reducible exact Calls.later_of (HP1.out _) | with_reducible exact Calls.later_of (HP2.out _))))
    refine wpQuiet_nil ?_
    intro w9 hw9
    obtain ⟨p9, hw9'⟩ := hw9
    subst hw9'
    go_wp2_with fail
    go_ret
    exact ⟨rfl, HBV.out.trans (p9.bel.mono HBV.out.size)⟩
  | true =>
  rw [ok2] at HP2
  have H1 := Lib.hid h1
  have H2 := Lib.hid h2
  have hp1 := placed_len ok1
  have hp2 := placed_len ok2
  obtain ⟨g1, o1, hA1, hlt1, x1, x2⟩ := h1.at_ (Below.refl _ _) hp1
  obtain ⟨g2, o2, hA2, hlt2, y1, y2⟩ := h2.at_ (Below.refl _ _) hp2
  rw [Nat.zero_mul, Nat.add_zero] at x1 x2 y1 y2
  subst hA1
  subst hA2
  have HS := Lib.hid (sameHead_at hp1 hp2)
  obtain ⟨u, hu⟩ : ∃ u, l[0] = u := ⟨_, rfl⟩
  obtain ⟨v, hv⟩ : ∃ v, m[0] = v := ⟨_, rfl⟩
  rw [hu] at x1 x2 HS
  rw [hv] at y1 y2 HS
  obtain ⟨i1, j1⟩ := u
  obtain ⟨i2, j2⟩ := v
  simp only at x1 x2 y1 y2
  have X1 := fun z => LatW.far HBV.out z x1 hlt1
  have X2 := fun z => LatW.far HBV.out z x2 hlt1
  have Y1 := fun z => LatW.far HBV.out z y1 hlt2
  have Y2 := fun z => LatW.far HBV.out z y2 hlt2
  have hne := neq_br (i1, j1) (i2, j2)
  have hgd := guard_br
  simp only at hne
  clear hu hv h1 h2 x1 x2 y1 y2 hlt1 hlt2
  by_cases he : ((i1, j1) : Br) = (i2, j2)
  · rw [he, sameB_self, Bool.not_true] at hne
    have e1 : i1 = i2 := congrArg Prod.fst he
    have e2 : j1 = j2 := congrArg Prod.snd he
    have HC := Lib.hid (commonB_ok ok1 ok2 (by rw [HS.out]; exact decide_eq_true he))
    subst e1
    subst e2
    clear he HS
    have HP12 := Lib.hid (fun (z : LatW V) => DParts_any (c1 := c1) (c2 := c2) (H1.out.lat HBV.out z) (H2.out.lat HBV.out z) hl1)
    have HP21 := Lib.hid (fun (z : LatW V) => DParts_any (c1 := c2) (c2 := c1) (H2.out.lat HBV.out z) (H1.out.lat HBV.out z) hl2)
    rw [HC.out]
    have HK0 : Hid (commonN l p m q = cutN (cutN (if q < p then q else p) (partsB l m)) (partsB m l)) := Lib.hid rfl
    obtain ⟨x, hx⟩ : ∃ x, partsB l m = x := ⟨_, rfl⟩
    obtain ⟨y, hy⟩ : ∃ y, partsB m l = y := ⟨_, rfl⟩
    rw [hx] at HP12 HK0
    rw [hy] at HP21 HK0
    clear hx hy
    go_enter Try.func22, Try.ntmps22
    go_wp2_with fail
    rw [← HV.out]
    have a0 := HX1.out.c0
    have a1 := HX1.out.c1
    have b0 := HX2.out.c0
    have b1 := HX2.out.c1
    generalize w.heap.size = H at a0 a1 b0 b1 ⊢
    refine wp_region_later (by kernel_rfl) (by kernel_rfl) ?_
    repeat (first | go_big_quiet_skip | quiet_step (first | (go_at_call 19; first | with_reducible exact Calls.later_of (HP1.out _) | with_reducible exact Calls.later_of (HP2.out _))))
    refine wpQuiet_nil ?_
    intro w9 hw9
    obtain ⟨p9, hw9'⟩ := hw9
    subst hw9'
    clear X1 X2 Y1 Y2 hne hgd
    by_cases hpq : q < p
    · rw [if_pos hpq] at HK0
      go_wp2_with fail
      have hsub := p9.bel
      refine wp_region_in hsub (by kernel_rfl) (by kernel_rfl) ?_
      repeat (first | go_big_quiet_skip | quiet_step (first | (go_at_call 30; first | with_reducible exact Calls.later_of (HP12.out _) | with_reducible exact Calls.later_of (HP21.out _))))
      refine wpQuiet_nil ?_
      intro w8 hw8
      obtain ⟨p8, hw8'⟩ := hw8
      subst hw8'
      have HB8 := Lib.hid (HBV.out.trans (p8.bel.mono HBV.out.size))
      clear hsub
      cases gx0 : decide (0 ≤ x) with
      | false =>
        have Rgx := Lib.hid (cutN_neg (n := q) (of_decide_eq_false gx0))
        cases gy0 : decide (0 ≤ y) with
        | false =>
          have Rgy := Lib.hid (cutN_neg (n := q) (of_decide_eq_false gy0))
          have HK : Hid (commonN l p m q = q) := Lib.hid (by rw [HK0.out, Rgx.out, Rgy.out])
          clear Rgx Rgy HK0
          go_wp2_with fail
          go_ret
          exact ⟨by rw [HK.out]; rfl, HB8.out⟩
        | true =>
        cases gy1 : decide (y < q) with
        | false =>
          have Rgy := Lib.hid (cutN_big (of_decide_eq_false gy1))
          have HK : Hid (commonN l p m q = q) := Lib.hid (by rw [HK0.out, Rgx.out, Rgy.out])
          clear Rgx Rgy HK0
          go_wp2_with fail
          go_ret
          exact ⟨by rw [HK.out]; rfl, HB8.out⟩
        | true =>
          have Rgy := Lib.hid (cutN_yes (of_decide_eq_true gy0) (of_decide_eq_true gy1))
          have HK : Hid (commonN l p m q = y) := Lib.hid (by rw [HK0.out, Rgx.out, Rgy.out])
          clear Rgx Rgy HK0
          go_wp2_with fail
          go_ret
          exact ⟨by rw [HK.out]; rfl, HB8.out⟩
      | true =>
      cases gx1 : decide (x < q) with
      | false =>
        have Rgx := Lib.hid (cutN_big (of_decide_eq_false gx1))
        cases gy0 : decide (0 ≤ y) with
        | false =>
          have Rgy := Lib.hid (cutN_neg (n := q) (of_decide_eq_false gy0))
          have HK : Hid (commonN l p m q = q) := Lib.hid (by rw [HK0.out, Rgx.out, Rgy.out])
          clear Rgx Rgy HK0
          go_wp2_with fail
          go_ret
          exact ⟨by rw [HK.out]; rfl, HB8.out⟩
        | true =>
        cases gy1 : decide (y < q) with
        | false =>
          have Rgy := Lib.hid (cutN_big (of_decide_eq_false gy1))
          have HK : Hid (commonN l p m q = q) := Lib.hid (by rw [HK0.out, Rgx.out, Rgy.out])
          clear Rgx Rgy HK0
          go_wp2_with fail
          go_ret
          exact ⟨by rw [HK.out]; rfl, HB8.out⟩
        | true =>
          have Rgy := Lib.hid (cutN_yes (of_decide_eq_true gy0) (of_decide_eq_true gy1))
          have HK : Hid (commonN l p m q = y) := Lib.hid (by rw [HK0.out, Rgx.out, Rgy.out])
          clear Rgx Rgy HK0
          go_wp2_with fail
          go_ret
          exact ⟨by rw [HK.out]; rfl, HB8.out⟩
      | true =>
        have Rgx := Lib.hid (cutN_yes (of_decide_eq_true gx0) (of_decide_eq_true gx1))
        cases gy0 : decide (0 ≤ y) with
        | false =>
          have Rgy := Lib.hid (cutN_neg (n := x) (of_decide_eq_false gy0))
          have HK : Hid (commonN l p m q = x) := Lib.hid (by rw [HK0.out, Rgx.out, Rgy.out])
          clear Rgx Rgy HK0
          go_wp2_with fail
          go_ret
          exact ⟨by rw [HK.out]; rfl, HB8.out⟩
        | true =>
        cases gy1 : decide (y < x) with
        | false =>
          have Rgy := Lib.hid (cutN_big (of_decide_eq_false gy1))
          have HK : Hid (commonN l p m q = x) := Lib.hid (by rw [HK0.out, Rgx.out, Rgy.out])
          clear Rgx Rgy HK0
          go_wp2_with fail
          go_ret
          exact ⟨by rw [HK.out]; rfl, HB8.out⟩
        | true =>
          have Rgy := Lib.hid (cutN_yes (of_decide_eq_true gy0) (of_decide_eq_true gy1))
          have HK : Hid (commonN l p m q = y) := Lib.hid (by rw [HK0.out, Rgx.out, Rgy.out])
          clear Rgx Rgy HK0
          go_wp2_with fail
          go_ret
          exact ⟨by rw [HK.out]; rfl, HB8.out⟩
    · rw [if_neg hpq] at HK0
      go_wp2_with fail
      have hsub := p9.bel
      refine wp_region_in hsub (by kernel_rfl) (by kernel_rfl) ?_
      repeat (first | go_big_quiet_skip | quiet_step (first | (go_at_call 30; first | with_reducible exact Calls.later_of (HP12.out _) | with_reducible exact Calls.later_of (HP21.out _))))
      refine wpQuiet_nil ?_
      intro w8 hw8
      obtain ⟨p8, hw8'⟩ := hw8
      subst hw8'
      have HB8 := Lib.hid (HBV.out.trans (p8.bel.mono HBV.out.size))
      clear hsub
      cases gx0 : decide (0 ≤ x) with
      | false =>
        have Rgx := Lib.hid (cutN_neg (n := p) (of_decide_eq_false gx0))
        cases gy0 : decide (0 ≤ y) with
        | false =>
          have Rgy := Lib.hid (cutN_neg (n := p) (of_decide_eq_false gy0))
          have HK : Hid (commonN l p m q = p) := Lib.hid (by rw [HK0.out, Rgx.out, Rgy.out])
          clear Rgx Rgy HK0
          go_wp2_with fail
          go_ret
          exact ⟨by rw [HK.out]; rfl, HB8.out⟩
        | true =>
        cases gy1 : decide (y < p) with
        | false =>
          have Rgy := Lib.hid (cutN_big (of_decide_eq_false gy1))
          have HK : Hid (commonN l p m q = p) := Lib.hid (by rw [HK0.out, Rgx.out, Rgy.out])
          clear Rgx Rgy HK0
          go_wp2_with fail
          go_ret
          exact ⟨by rw [HK.out]; rfl, HB8.out⟩
        | true =>
          have Rgy := Lib.hid (cutN_yes (of_decide_eq_true gy0) (of_decide_eq_true gy1))
          have HK : Hid (commonN l p m q = y) := Lib.hid (by rw [HK0.out, Rgx.out, Rgy.out])
          clear Rgx Rgy HK0
          go_wp2_with fail
          go_ret
          exact ⟨by rw [HK.out]; rfl, HB8.out⟩
      | true =>
      cases gx1 : decide (x < p) with
      | false =>
        have Rgx := Lib.hid (cutN_big (of_decide_eq_false gx1))
        cases gy0 : decide (0 ≤ y) with
        | false =>
          have Rgy := Lib.hid (cutN_neg (n := p) (of_decide_eq_false gy0))
          have HK : Hid (commonN l p m q = p) := Lib.hid (by rw [HK0.out, Rgx.out, Rgy.out])
          clear Rgx Rgy HK0
          go_wp2_with fail
          go_ret
          exact ⟨by rw [HK.out]; rfl, HB8.out⟩
        | true =>
        cases gy1 : decide (y < p) with
        | false =>
          have Rgy := Lib.hid (cutN_big (of_decide_eq_false gy1))
          have HK : Hid (commonN l p m q = p) := Lib.hid (by rw [HK0.out, Rgx.out, Rgy.out])
          clear Rgx Rgy HK0
          go_wp2_with fail
          go_ret
          exact ⟨by rw [HK.out]; rfl, HB8.out⟩
        | true =>
          have Rgy := Lib.hid (cutN_yes (of_decide_eq_true gy0) (of_decide_eq_true gy1))
          have HK : Hid (commonN l p m q = y) := Lib.hid (by rw [HK0.out, Rgx.out, Rgy.out])
          clear Rgx Rgy HK0
          go_wp2_with fail
          go_ret
          exact ⟨by rw [HK.out]; rfl, HB8.out⟩
      | true =>
        have Rgx := Lib.hid (cutN_yes (of_decide_eq_true gx0) (of_decide_eq_true gx1))
        cases gy0 : decide (0 ≤ y) with
        | false =>
          have Rgy := Lib.hid (cutN_neg (n := x) (of_decide_eq_false gy0))
          have HK : Hid (commonN l p m q = x) := Lib.hid (by rw [HK0.out, Rgx.out, Rgy.out])
          clear Rgx Rgy HK0
          go_wp2_with fail
          go_ret
          exact ⟨by rw [HK.out]; rfl, HB8.out⟩
        | true =>
        cases gy1 : decide (y < x) with
        | false =>
          have Rgy := Lib.hid (cutN_big (of_decide_eq_false gy1))
          have HK : Hid (commonN l p m q = x) := Lib.hid (by rw [HK0.out, Rgx.out, Rgy.out])
          clear Rgx Rgy HK0
          go_wp2_with fail
          go_ret
          exact ⟨by rw [HK.out]; rfl, HB8.out⟩
        | true =>
          have Rgy := Lib.hid (cutN_yes (of_decide_eq_true gy0) (of_decide_eq_true gy1))
          have HK : Hid (commonN l p m q = y) := Lib.hid (by rw [HK0.out, Rgx.out, Rgy.out])
          clear Rgx Rgy HK0
          go_wp2_with fail
          go_ret
          exact ⟨by rw [HK.out]; rfl, HB8.out⟩
  · have HC := Lib.hid (commonB_h (p := p) (q := q) (by rw [HS.out]; exact decide_eq_false he))
    rw [sameB_ne he, Bool.not_false] at hne
    rw [HC.out]
    clear he HS HC
    go_enter Try.func22, Try.ntmps22
    go_wp2_with fail
    rw [← HV.out]
    have a0 := HX1.out.c0
    have a1 := HX1.out.c1
    have b0 := HX2.out.c0
    have b1 := HX2.out.c1
    generalize w.heap.size = H at a0 a1 b0 b1 ⊢
    refine wp_region_later (by kernel_rfl) (by kernel_rfl) ?_
    repeat (first | go_big_quiet_skip | quiet_step (first | (go_at_call 19; first | with_reducible exact Calls.later_of (HP1.out _) | with_reducible exact Calls.later_of (HP2.out _))))
    refine wpQuiet_nil ?_
    intro w9 hw9
    obtain ⟨p9, hw9'⟩ := hw9
    subst hw9'
    go_wp2_with fail
    go_ret
    exact ⟨rfl, HBV.out.trans (p9.bel.mono HBV.out.size)⟩
end Go.Proofs.Ytokdicaoonjimaa
