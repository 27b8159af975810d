/- Lineages: contract of Common. -/
import Derived.Test.YtokdicaoonjimaaLineE
namespace Go.Proofs.Ytokdicaoonjimaa
open Go.RowKit

theorem commonB_a {l m : List Br} {p q : Int} (h : placedB l p = false) : commonB l p m q = -1 := by unfold commonB; rw [h]; rfl
theorem commonB_b {l m : List Br} {p q : Int} (h : placedB m q = false) : commonB l p m q = -1 := by unfold commonB; rw [h]; simp
theorem commonB_h {l m : List Br} {p q : Int} (h : sameHead l m = false) : commonB l p m q = -1 := by unfold commonB; rw [h]; simp
theorem commonB_ok {l m : List Br} {p q : Int} (h1 : placedB l p = true) (h2 : placedB m q = true) (h : sameHead l m = true) : commonB l p m q = commonN l p m q := by unfold commonB; rw [h1, h2, h]; rfl
theorem sameHead_at {l m : List Br} (h1 : 0 < l.length) (h2 : 0 < m.length) : sameHead l m = decide (l[0] = m[0]) := by
  cases l with
  | nil => simp at h1
  | cons x r => cases m with
    | nil => simp at h2
    | cons y q => rfl
theorem placed_len {l : List Br} {p : Int} (h : placedB l p = true) : 0 < l.length := by
  have := lineOk_ne ((placedB_iff l p).1 h).1
  cases l with
  | nil => exact absurd rfl this
  | cons x r => simp
/-- The place at which a line has its branch D, if that is the smaller. -/
def cutAt (n : Int) (l : List Br) (D : Nat) : Int := match l[D]? with
  | some x => if n ≤ x.2 then n else x.2
  | none => n
theorem cutAt_none {n : Int} {l : List Br} {D : Nat} (h : ¬ D < l.length) : cutAt n l D = n := by unfold cutAt; rw [List.getElem?_eq_none (by omega)]
theorem cutAt_le {n : Int} {l : List Br} {D : Nat} (h : D < l.length) {v : Int} (hv : l[D].2 = v) (h1 : n ≤ v) : cutAt n l D = n := by
  unfold cutAt; rw [List.getElem?_eq_getElem h]; simp only [hv]; rw [if_pos h1]
theorem cutAt_gt {n : Int} {l : List Br} {D : Nat} (h : D < l.length) {v : Int} (hv : l[D].2 = v) (h1 : ¬ n ≤ v) : cutAt n l D = v := by
  unfold cutAt; rw [List.getElem?_eq_getElem h]; simp only [hv]; rw [if_neg h1]
theorem cutN_at (n : Int) (l m : List Br) (h : ∀ x ∈ l, 0 ≤ x.2) : cutN n (partsB l m) = cutAt n l (divN l m) := by
  rw [parts_div]
  unfold cutN cutAt
  cases e : l[divN l m]? with
  | none => simp only [Option.map_none, Option.getD_none]; rw [if_neg (by omega)]
  | some x =>
    have hx : 0 ≤ x.2 := h x (List.mem_of_getElem? e)
    simp only [Option.map_some, Option.getD_some]
    by_cases h1 : n ≤ x.2
    · rw [if_neg (by omega), if_pos h1]
    · rw [if_pos (by omega), if_neg h1]
theorem commonN_at {l m : List Br} {p q : Int} (h1 : placedB l p = true) (h2 : placedB m q = true) : commonN l p m q = cutAt (cutAt (if p ≤ q then p else q) l (divN l m)) m (divN l m) := by
  unfold commonN
  rw [cutN_at _ l m (place_pos h1).2.2, cutN_at _ m l (place_pos h2).2.2, divN_comm m l]
  have e : (if q < p then q else p) = if p ≤ q then p else q := by split <;> split <;> omega
  rw [e]

theorem below_pos2 (w : World) (o1 o2 : Obj) : Below w.heap.size w ((w.alloc o1).alloc o2) := below_two w o1 o2
theorem heap_first (w : World) (o1 o2 : Obj) : ((w.alloc o1).alloc o2).heap[w.heap.size]? = some o1 := by
  have h : (w.alloc o1).heap.size = w.heap.size + 1 := by simp
  rw [show ((w.alloc o1).alloc o2).heap = (w.alloc o1).heap.push o2 from rfl, Array.getElem?_push, if_neg (by omega)]
  exact heap_new w o1
theorem heap_second (w : World) (o1 o2 : Obj) : ((w.alloc o1).alloc o2).heap[w.heap.size + 1]? = some o2 := by
  have h : (w.alloc o1).heap.size = w.heap.size + 1 := by simp
  rw [← h]; exact heap_new _ _

theorem LatW.far {w V : World} (hb : Below w.heap.size w V) (z : LatW V) {b o : Nat} {v : Value} (h : w.cell? ⟨b, o, none⟩ = some v) (hlt : b < w.heap.size) : z.wd.cell? ⟨b, o, none⟩ = some v := (z.bel.cell (p := ⟨b, o, none⟩) (Nat.lt_of_lt_of_le hlt hb.size)).trans ((hb.cell (p := ⟨b, o, none⟩) hlt).trans h)

set_option maxHeartbeats 8000000 in
set_option maxRecDepth 100000 in
theorem Common_any {w : World} {A1 A2 : Option Addr} {c1 c2 : Nat} {l m : List Br} {p q : Int} (h1 : BrsAt w w.heap.size A1 l) (h2 : BrsAt w w.heap.size A2 m) (hl1 : l.length ≤ 9223372036854775807) (hl2 : m.length ≤ 9223372036854775807) :
    Calls Try.prog 23 #[.agg #[.slice A1 l.length c1, .int .i64 p], .agg #[.slice A2 m.length c2, .int .i64 q]] w fun e w' => e = .returned (.int .i64 (commonB l p m q)) ∧ Below w.heap.size w w' := by
  obtain ⟨V, hV⟩ : ∃ V, V = (w.alloc (.cells #[.slice A1 l.length c1, .int .i64 p] 36 (0, 0))).alloc (.cells #[.slice A2 m.length c2, .int .i64 q] 36 (0, 0)) := ⟨_, rfl⟩
  have HBV : Hid (Below w.heap.size w V) := Lib.hid (by rw [hV]; exact below_pos2 _ _ _)
  have HX1 : Hid (PosBox V w.heap.size A1 l.length c1 p) := Lib.hid (by rw [hV]; exact PosBox.of (heap_first _ _ _))
  have HX2 : Hid (PosBox V (w.heap.size + 1) A2 m.length c2 q) := Lib.hid (by rw [hV]; exact PosBox.of (heap_second _ _ _))
  have HV := Lib.hid hV
  have HP1 := Lib.hid (fun (z : LatW V) => Placed_any (c := c1) (q := p) (h1.lat HBV.out z) hl1)
  have HP2 := Lib.hid (fun (z : LatW V) => Placed_any (c := c2) (q := q) (h2.lat HBV.out z) hl2)
  clear hV
  cases ok1 : placedB l p with
  | false =>
    rw [commonB_a ok1]
    rw [ok1] at HP1
    go_enter Try.func23, Try.ntmps23
    go_wp2_with fail
    rw [← HV.out]
    have a0 := HX1.out.c0
    have a1 := HX1.out.c1
    have b0 := HX2.out.c0
    have b1 := HX2.out.c1
    generalize w.heap.size = H at a0 a1 b0 b1 ⊢
    refine wp_region_later (by kernel_rfl) (by kernel_rfl) ?_
    repeat (first | go_big_quiet_skip | quiet_step (first | (go_at_call 18; exact Calls.later_of (HP1.out _))))
    refine wpQuiet_nil ?_
    intro w9 hw9
    obtain ⟨p9, hw9'⟩ := hw9
    subst hw9'
    go_wp2_with fail
    go_ret
    exact ⟨rfl, HBV.out.trans (p9.bel.mono HBV.out.size)⟩
  | true =>
  rw [ok1] at HP1
  cases ok2 : placedB m q with
  | false =>
    rw [commonB_b ok2]
    rw [ok2] at HP2
    go_enter Try.func23, Try.ntmps23
    go_wp2_with fail
    rw [← HV.out]
    have a0 := HX1.out.c0
    have a1 := HX1.out.c1
    have b0 := HX2.out.c0
    have b1 := HX2.out.c1
    generalize w.heap.size = H at a0 a1 b0 b1 ⊢
    refine wp_region_later (by kernel_rfl) (by kernel_rfl) ?_
    repeat (first | go_big_quiet_skip | quiet_step (first | (go_at_call 18; first | with_reducible exact Calls.later_of (HP1.out _) | with_reducible exact Calls.later_of (HP2.out _))))
    refine wpQuiet_nil ?_
    intro w9 hw9
    obtain ⟨p9, hw9'⟩ := hw9
    subst hw9'
    go_wp2_with fail
    go_ret
    exact ⟨rfl, HBV.out.trans (p9.bel.mono HBV.out.size)⟩
  | true =>
  rw [ok2] at HP2
  have H1 := Lib.hid h1
  have H2 := Lib.hid h2
  have hp1 := placed_len ok1
  have hp2 := placed_len ok2
  obtain ⟨g1, o1, hA1, hlt1, x1, x2⟩ := h1.at_ (Below.refl _ _) hp1
  obtain ⟨g2, o2, hA2, hlt2, y1, y2⟩ := h2.at_ (Below.refl _ _) hp2
  rw [Nat.zero_mul, Nat.add_zero] at x1 x2 y1 y2
  subst hA1
  subst hA2
  have HS := Lib.hid (sameHead_at hp1 hp2)
  obtain ⟨u, hu⟩ : ∃ u, l[0] = u := ⟨_, rfl⟩
  obtain ⟨v, hv⟩ : ∃ v, m[0] = v := ⟨_, rfl⟩
  rw [hu] at x1 x2 HS
  rw [hv] at y1 y2 HS
  obtain ⟨i1, j1⟩ := u
  obtain ⟨i2, j2⟩ := v
  simp only at x1 x2 y1 y2
  have X1 := fun z => LatW.far HBV.out z x1 hlt1
  have X2 := fun z => LatW.far HBV.out z x2 hlt1
  have Y1 := fun z => LatW.far HBV.out z y1 hlt2
  have Y2 := fun z => LatW.far HBV.out z y2 hlt2
  have hne := neq_br (i1, j1) (i2, j2)
  have hgd := guard_br
  simp only at hne
  clear hu hv h1 h2 x1 x2 y1 y2 hlt1 hlt2
  by_cases he : ((i1, j1) : Br) = (i2, j2)
  · rw [he, sameB_self, Bool.not_true] at hne
    have e1 : i1 = i2 := congrArg Prod.fst he
    have e2 : j1 = j2 := congrArg Prod.snd he
    have HC := Lib.hid (commonB_ok ok1 ok2 (by rw [HS.out]; exact decide_eq_true he))
    subst e1
    subst e2
    clear he HS
    have HD1 := Lib.hid (fun (z : LatW V) => diverge_any (c1 := c1) (c2 := c2) (H1.out.lat HBV.out z) (H2.out.lat HBV.out z) hl1)
    rw [HC.out]
    obtain ⟨D, hD⟩ : ∃ D, divN l m = D := ⟨_, rfl⟩
    rw [hD] at HD1
    have HDD := Lib.hid hD
    clear hD
    go_enter Try.func23, Try.ntmps23
    go_wp2_with fail
    rw [← HV.out]
    have a0 := HX1.out.c0
    have a1 := HX1.out.c1
    have b0 := HX2.out.c0
    have b1 := HX2.out.c1
    generalize w.heap.size = H at a0 a1 b0 b1 ⊢
    refine wp_region_later (by kernel_rfl) (by kernel_rfl) ?_
    repeat (first | go_big_quiet_skip | quiet_step (first | (go_at_call 18; first | with_reducible exact Calls.later_of (HP1.out _) | with_reducible exact Calls.later_of (HP2.out _))))
    refine wpQuiet_nil ?_
    intro w9 hw9
    obtain ⟨p9, hw9'⟩ := hw9
    subst hw9'
    go_wp2_with fail
    refine (HD1.out p9).mono ?_
    rintro e w3 ⟨rfl, hb3⟩
    have HB3 := Lib.hid (p9.bel.trans (hb3.mono p9.bel.size))
    obtain ⟨p3, hp3⟩ : ∃ p3 : LatW V, p3.wd = w3 := ⟨⟨w3, HB3.out⟩, rfl⟩
    have d0 := a0 p3
    have d1 := a1 p3
    have d2 := b0 p3
    have d3 := b1 p3
    rw [hp3] at d0 d1 d2 d3
    clear a0 a1 b0 b1 X1 X2 Y1 Y2 hb3 hp3
    have HBw : Hid (Below w.heap.size w w3) := Lib.hid (HBV.out.trans (HB3.out.mono HBV.out.size))
    have HBa : Hid (∀ o, Below w.heap.size w (w3.alloc o)) := Lib.hid (fun o => HBw.out.alloc HBw.out.size o)
    have hD0 : (0 : Int) ≤ (D : Int) := Int.natCast_nonneg _
    have HK0 := Lib.hid (commonN_at (p := p) (q := q) ok1 ok2)
    rw [HDD.out] at HK0
    by_cases hpq : p ≤ q
    · rw [if_pos hpq] at HK0
      by_cases el : D < l.length
      · have eld : decide ((D : Int) < (l.length : Int)) = true := by rw [decide_eq_true_iff]; omega
        have eli : (D : Int) < (l.length : Int) := by omega
        obtain ⟨bl, fl, hAl, _, zl1, zl2⟩ := H1.out.at_ HBw.out el
        cases hAl
        obtain ⟨vl, hvl⟩ : ∃ v, l[D].2 = v := ⟨_, rfl⟩
        rw [hvl] at zl2
        have kl : ∀ o, (w3.alloc o).cell? ⟨g1, o1 + D * 2 + 1, none⟩ = some (.int .i64 vl) := fun o => by rw [(below_one w3 o).cell (p := ⟨g1, o1 + D * 2 + 1, none⟩) (World.block_lt_of_cell? w3 _ zl2)]; exact zl2
        clear zl1 zl2
        by_cases ql : p ≤ vl
        · have Rl := Lib.hid (cutAt_le (n := p) el hvl ql)
          clear hvl
          by_cases em : D < m.length
          · have emd : decide ((D : Int) < (m.length : Int)) = true := by rw [decide_eq_true_iff]; omega
            have emi : (D : Int) < (m.length : Int) := by omega
            obtain ⟨bm, fm, hAm, _, zm1, zm2⟩ := H2.out.at_ HBw.out em
            cases hAm
            obtain ⟨vm, hvm⟩ : ∃ v, m[D].2 = v := ⟨_, rfl⟩
            rw [hvm] at zm2
            have km : ∀ o, (w3.alloc o).cell? ⟨g2, o2 + D * 2 + 1, none⟩ = some (.int .i64 vm) := fun o => by rw [(below_one w3 o).cell (p := ⟨g2, o2 + D * 2 + 1, none⟩) (World.block_lt_of_cell? w3 _ zm2)]; exact zm2
            clear zm1 zm2
            by_cases qm : p ≤ vm
            · have Rm := Lib.hid (cutAt_le (n := p) em hvm qm)
              clear hvm
              have HK : Hid (commonN l p m q = p) := Lib.hid (by rw [HK0.out, Rl.out, Rm.out])
              clear Rl Rm HK0
              go_wp2_with fail
              refine wp_loop_rounds 3 ?_
              rw [rounds_succ]
              go_wp2_with fail
              rw [rounds_succ]
              go_wp2_with fail
              rw [rounds_succ]
              go_wp2_with fail
              go_ret
              exact ⟨by rw [HK.out]; rfl, HBa.out _⟩
            · have Rm := Lib.hid (cutAt_gt (n := p) em hvm qm)
              clear hvm
              have HK : Hid (commonN l p m q = vm) := Lib.hid (by rw [HK0.out, Rl.out, Rm.out])
              clear Rl Rm HK0
              go_wp2_with fail
              refine wp_loop_rounds 3 ?_
              rw [rounds_succ]
              go_wp2_with fail
              rw [rounds_succ]
              go_wp2_with fail
              rw [rounds_succ]
              go_wp2_with fail
              go_ret
              exact ⟨by rw [HK.out]; rfl, HBa.out _⟩
          · have emd : decide ((D : Int) < (m.length : Int)) = false := by rw [decide_eq_false_iff_not]; omega
            have Rm := Lib.hid (cutAt_none (n := p) em)
            have emi : ¬ (D : Int) < (m.length : Int) := by omega
            have HK : Hid (commonN l p m q = p) := Lib.hid (by rw [HK0.out, Rl.out, Rm.out])
            clear Rl Rm HK0
            go_wp2_with fail
            refine wp_loop_rounds 3 ?_
            rw [rounds_succ]
            go_wp2_with fail
            rw [rounds_succ]
            go_wp2_with fail
            rw [rounds_succ]
            go_wp2_with fail
            go_ret
            exact ⟨by rw [HK.out]; rfl, HBa.out _⟩
        · have Rl := Lib.hid (cutAt_gt (n := p) el hvl ql)
          clear hvl
          by_cases em : D < m.length
          · have emd : decide ((D : Int) < (m.length : Int)) = true := by rw [decide_eq_true_iff]; omega
            have emi : (D : Int) < (m.length : Int) := by omega
            obtain ⟨bm, fm, hAm, _, zm1, zm2⟩ := H2.out.at_ HBw.out em
            cases hAm
            obtain ⟨vm, hvm⟩ : ∃ v, m[D].2 = v := ⟨_, rfl⟩
            rw [hvm] at zm2
            have km : ∀ o, (w3.alloc o).cell? ⟨g2, o2 + D * 2 + 1, none⟩ = some (.int .i64 vm) := fun o => by rw [(below_one w3 o).cell (p := ⟨g2, o2 + D * 2 + 1, none⟩) (World.block_lt_of_cell? w3 _ zm2)]; exact zm2
            clear zm1 zm2
            by_cases qm : vl ≤ vm
            · have Rm := Lib.hid (cutAt_le (n := vl) em hvm qm)
              clear hvm
              have HK : Hid (commonN l p m q = vl) := Lib.hid (by rw [HK0.out, Rl.out, Rm.out])
              clear Rl Rm HK0
              go_wp2_with fail
              refine wp_loop_rounds 3 ?_
              rw [rounds_succ]
              go_wp2_with fail
              rw [rounds_succ]
              go_wp2_with fail
              rw [rounds_succ]
              go_wp2_with fail
              go_ret
              exact ⟨by rw [HK.out]; rfl, HBa.out _⟩
            · have Rm := Lib.hid (cutAt_gt (n := vl) em hvm qm)
              clear hvm
              have HK : Hid (commonN l p m q = vm) := Lib.hid (by rw [HK0.out, Rl.out, Rm.out])
              clear Rl Rm HK0
              go_wp2_with fail
              refine wp_loop_rounds 3 ?_
              rw [rounds_succ]
              go_wp2_with fail
              rw [rounds_succ]
              go_wp2_with fail
              rw [rounds_succ]
              go_wp2_with fail
              go_ret
              exact ⟨by rw [HK.out]; rfl, HBa.out _⟩
          · have emd : decide ((D : Int) < (m.length : Int)) = false := by rw [decide_eq_false_iff_not]; omega
            have Rm := Lib.hid (cutAt_none (n := vl) em)
            have emi : ¬ (D : Int) < (m.length : Int) := by omega
            have HK : Hid (commonN l p m q = vl) := Lib.hid (by rw [HK0.out, Rl.out, Rm.out])
            clear Rl Rm HK0
            go_wp2_with fail
            refine wp_loop_rounds 3 ?_
            rw [rounds_succ]
            go_wp2_with fail
            rw [rounds_succ]
            go_wp2_with fail
            rw [rounds_succ]
            go_wp2_with fail
            go_ret
            exact ⟨by rw [HK.out]; rfl, HBa.out _⟩
      · have eld : decide ((D : Int) < (l.length : Int)) = false := by rw [decide_eq_false_iff_not]; omega
        have Rl := Lib.hid (cutAt_none (n := p) el)
        have eli : ¬ (D : Int) < (l.length : Int) := by omega
        by_cases em : D < m.length
        · have emd : decide ((D : Int) < (m.length : Int)) = true := by rw [decide_eq_true_iff]; omega
          have emi : (D : Int) < (m.length : Int) := by omega
          obtain ⟨bm, fm, hAm, _, zm1, zm2⟩ := H2.out.at_ HBw.out em
          cases hAm
          obtain ⟨vm, hvm⟩ : ∃ v, m[D].2 = v := ⟨_, rfl⟩
          rw [hvm] at zm2
          have km : ∀ o, (w3.alloc o).cell? ⟨g2, o2 + D * 2 + 1, none⟩ = some (.int .i64 vm) := fun o => by rw [(below_one w3 o).cell (p := ⟨g2, o2 + D * 2 + 1, none⟩) (World.block_lt_of_cell? w3 _ zm2)]; exact zm2
          clear zm1 zm2
          by_cases qm : p ≤ vm
          · have Rm := Lib.hid (cutAt_le (n := p) em hvm qm)
            clear hvm
            have HK : Hid (commonN l p m q = p) := Lib.hid (by rw [HK0.out, Rl.out, Rm.out])
            clear Rl Rm HK0
            go_wp2_with fail
            refine wp_loop_rounds 3 ?_
            rw [rounds_succ]
            go_wp2_with fail
            rw [rounds_succ]
            go_wp2_with fail
            rw [rounds_succ]
            go_wp2_with fail
            go_ret
            exact ⟨by rw [HK.out]; rfl, HBa.out _⟩
          · have Rm := Lib.hid (cutAt_gt (n := p) em hvm qm)
            clear hvm
            have HK : Hid (commonN l p m q = vm) := Lib.hid (by rw [HK0.out, Rl.out, Rm.out])
            clear Rl Rm HK0
            go_wp2_with fail
            refine wp_loop_rounds 3 ?_
            rw [rounds_succ]
            go_wp2_with fail
            rw [rounds_succ]
            go_wp2_with fail
            rw [rounds_succ]
            go_wp2_with fail
            go_ret
            exact ⟨by rw [HK.out]; rfl, HBa.out _⟩
        · have emd : decide ((D : Int) < (m.length : Int)) = false := by rw [decide_eq_false_iff_not]; omega
          have Rm := Lib.hid (cutAt_none (n := p) em)
          have emi : ¬ (D : Int) < (m.length : Int) := by omega
          have HK : Hid (commonN l p m q = p) := Lib.hid (by rw [HK0.out, Rl.out, Rm.out])
          clear Rl Rm HK0
          go_wp2_with fail
          refine wp_loop_rounds 3 ?_
          rw [rounds_succ]
          go_wp2_with fail
          rw [rounds_succ]
          go_wp2_with fail
          rw [rounds_succ]
          go_wp2_with fail
          go_ret
          exact ⟨by rw [HK.out]; rfl, HBa.out _⟩
    · rw [if_neg hpq] at HK0
      by_cases el : D < l.length
      · have eld : decide ((D : Int) < (l.length : Int)) = true := by rw [decide_eq_true_iff]; omega
        have eli : (D : Int) < (l.length : Int) := by omega
        obtain ⟨bl, fl, hAl, _, zl1, zl2⟩ := H1.out.at_ HBw.out el
        cases hAl
        obtain ⟨vl, hvl⟩ : ∃ v, l[D].2 = v := ⟨_, rfl⟩
        rw [hvl] at zl2
        have kl : ∀ o, (w3.alloc o).cell? ⟨g1, o1 + D * 2 + 1, none⟩ = some (.int .i64 vl) := fun o => by rw [(below_one w3 o).cell (p := ⟨g1, o1 + D * 2 + 1, none⟩) (World.block_lt_of_cell? w3 _ zl2)]; exact zl2
        clear zl1 zl2
        by_cases ql : q ≤ vl
        · have Rl := Lib.hid (cutAt_le (n := q) el hvl ql)
          clear hvl
          by_cases em : D < m.length
          · have emd : decide ((D : Int) < (m.length : Int)) = true := by rw [decide_eq_true_iff]; omega
            have emi : (D : Int) < (m.length : Int) := by omega
            obtain ⟨bm, fm, hAm, _, zm1, zm2⟩ := H2.out.at_ HBw.out em
            cases hAm
            obtain ⟨vm, hvm⟩ : ∃ v, m[D].2 = v := ⟨_, rfl⟩
            rw [hvm] at zm2
            have km : ∀ o, (w3.alloc o).cell? ⟨g2, o2 + D * 2 + 1, none⟩ = some (.int .i64 vm) := fun o => by rw [(below_one w3 o).cell (p := ⟨g2, o2 + D * 2 + 1, none⟩) (World.block_lt_of_cell? w3 _ zm2)]; exact zm2
            clear zm1 zm2
            by_cases qm : q ≤ vm
            · have Rm := Lib.hid (cutAt_le (n := q) em hvm qm)
              clear hvm
              have HK : Hid (commonN l p m q = q) := Lib.hid (by rw [HK0.out, Rl.out, Rm.out])
              clear Rl Rm HK0
              go_wp2_with fail
              refine wp_loop_rounds 3 ?_
              rw [rounds_succ]
              go_wp2_with fail
              rw [rounds_succ]
              go_wp2_with fail
              rw [rounds_succ]
              go_wp2_with fail
              go_ret
              exact ⟨by rw [HK.out]; rfl, HBa.out _⟩
            · have Rm := Lib.hid (cutAt_gt (n := q) em hvm qm)
              clear hvm
              have HK : Hid (commonN l p m q = vm) := Lib.hid (by rw [HK0.out, Rl.out, Rm.out])
              clear Rl Rm HK0
              go_wp2_with fail
              refine wp_loop_rounds 3 ?_
              rw [rounds_succ]
              go_wp2_with fail
              rw [rounds_succ]
              go_wp2_with fail
              rw [rounds_succ]
              go_wp2_with fail
              go_ret
              exact ⟨by rw [HK.out]; rfl, HBa.out _⟩
          · have emd : decide ((D : Int) < (m.length : Int)) = false := by rw [decide_eq_false_iff_not]; omega
            have Rm := Lib.hid (cutAt_none (n := q) em)
            have emi : ¬ (D : Int) < (m.length : Int) := by omega
            have HK : Hid (commonN l p m q = q) := Lib.hid (by rw [HK0.out, Rl.out, Rm.out])
            clear Rl Rm HK0
            go_wp2_with fail
            refine wp_loop_rounds 3 ?_
            rw [rounds_succ]
            go_wp2_with fail
            rw [rounds_succ]
            go_wp2_with fail
            rw [rounds_succ]
            go_wp2_with fail
            go_ret
            exact ⟨by rw [HK.out]; rfl, HBa.out _⟩
        · have Rl := Lib.hid (cutAt_gt (n := q) el hvl ql)
          clear hvl
          by_cases em : D < m.length
          · have emd : decide ((D : Int) < (m.length : Int)) = true := by rw [decide_eq_true_iff]; omega
            have emi : (D : Int) < (m.length : Int) := by omega
            obtain ⟨bm, fm, hAm, _, zm1, zm2⟩ := H2.out.at_ HBw.out em
            cases hAm
            obtain ⟨vm, hvm⟩ : ∃ v, m[D].2 = v := ⟨_, rfl⟩
            rw [hvm] at zm2
            have km : ∀ o, (w3.alloc o).cell? ⟨g2, o2 + D * 2 + 1, none⟩ = some (.int .i64 vm) := fun o => by rw [(below_one w3 o).cell (p := ⟨g2, o2 + D * 2 + 1, none⟩) (World.block_lt_of_cell? w3 _ zm2)]; exact zm2
            clear zm1 zm2
            by_cases qm : vl ≤ vm
            · have Rm := Lib.hid (cutAt_le (n := vl) em hvm qm)
              clear hvm
              have HK : Hid (commonN l p m q = vl) := Lib.hid (by rw [HK0.out, Rl.out, Rm.out])
              clear Rl Rm HK0
              go_wp2_with fail
              refine wp_loop_rounds 3 ?_
              rw [rounds_succ]
              go_wp2_with fail
              rw [rounds_succ]
              go_wp2_with fail
              rw [rounds_succ]
              go_wp2_with fail
              go_ret
              exact ⟨by rw [HK.out]; rfl, HBa.out _⟩
            · have Rm := Lib.hid (cutAt_gt (n := vl) em hvm qm)
              clear hvm
              have HK : Hid (commonN l p m q = vm) := Lib.hid (by rw [HK0.out, Rl.out, Rm.out])
              clear Rl Rm HK0
              go_wp2_with fail
              refine wp_loop_rounds 3 ?_
              rw [rounds_succ]
              go_wp2_with fail
              rw [rounds_succ]
              go_wp2_with fail
              rw [rounds_succ]
              go_wp2_with fail
              go_ret
              exact ⟨by rw [HK.out]; rfl, HBa.out _⟩
          · have emd : decide ((D : Int) < (m.length : Int)) = false := by rw [decide_eq_false_iff_not]; omega
            have Rm := Lib.hid (cutAt_none (n := vl) em)
            have emi : ¬ (D : Int) < (m.length : Int) := by omega
            have HK : Hid (commonN l p m q = vl) := Lib.hid (by rw [HK0.out, Rl.out, Rm.out])
            clear Rl Rm HK0
            go_wp2_with fail
            refine wp_loop_rounds 3 ?_
            rw [rounds_succ]
            go_wp2_with fail
            rw [rounds_succ]
            go_wp2_with fail
            rw [rounds_succ]
            go_wp2_with fail
            go_ret
            exact ⟨by rw [HK.out]; rfl, HBa.out _⟩
      · have eld : decide ((D : Int) < (l.length : Int)) = false := by rw [decide_eq_false_iff_not]; omega
        have Rl := Lib.hid (cutAt_none (n := q) el)
        have eli : ¬ (D : Int) < (l.length : Int) := by omega
        by_cases em : D < m.length
        · have emd : decide ((D : Int) < (m.length : Int)) = true := by rw [decide_eq_true_iff]; omega
          have emi : (D : Int) < (m.length : Int) := by omega
          obtain ⟨bm, fm, hAm, _, zm1, zm2⟩ := H2.out.at_ HBw.out em
          cases hAm
          obtain ⟨vm, hvm⟩ : ∃ v, m[D].2 = v := ⟨_, rfl⟩
          rw [hvm] at zm2
          have km : ∀ o, (w3.alloc o).cell? ⟨g2, o2 + D * 2 + 1, none⟩ = some (.int .i64 vm) := fun o => by rw [(below_one w3 o).cell (p := ⟨g2, o2 + D * 2 + 1, none⟩) (World.block_lt_of_cell? w3 _ zm2)]; exact zm2
          clear zm1 zm2
          by_cases qm : q ≤ vm
          · have Rm := Lib.hid (cutAt_le (n := q) em hvm qm)
            clear hvm
            have HK : Hid (commonN l p m q = q) := Lib.hid (by rw [HK0.out, Rl.out, Rm.out])
            clear Rl Rm HK0
            go_wp2_with fail
            refine wp_loop_rounds 3 ?_
            rw [rounds_succ]
            go_wp2_with fail
            rw [rounds_succ]
            go_wp2_with fail
            rw [rounds_succ]
            go_wp2_with fail
            go_ret
            exact ⟨by rw [HK.out]; rfl, HBa.out _⟩
          · have Rm := Lib.hid (cutAt_gt (n := q) em hvm qm)
            clear hvm
            have HK : Hid (commonN l p m q = vm) := Lib.hid (by rw [HK0.out, Rl.out, Rm.out])
            clear Rl Rm HK0
            go_wp2_with fail
            refine wp_loop_rounds 3 ?_
            rw [rounds_succ]
            go_wp2_with fail
            rw [rounds_succ]
            go_wp2_with fail
            rw [rounds_succ]
            go_wp2_with fail
            go_ret
            exact ⟨by rw [HK.out]; rfl, HBa.out _⟩
        · have emd : decide ((D : Int) < (m.length : Int)) = false := by rw [decide_eq_false_iff_not]; omega
          have Rm := Lib.hid (cutAt_none (n := q) em)
          have emi : ¬ (D : Int) < (m.length : Int) := by omega
          have HK : Hid (commonN l p m q = q) := Lib.hid (by rw [HK0.out, Rl.out, Rm.out])
          clear Rl Rm HK0
          go_wp2_with fail
          refine wp_loop_rounds 3 ?_
          rw [rounds_succ]
          go_wp2_with fail
          rw [rounds_succ]
          go_wp2_with fail
          rw [rounds_succ]
          go_wp2_with fail
          go_ret
          exact ⟨by rw [HK.out]; rfl, HBa.out _⟩
  · have HC := Lib.hid (commonB_h (p := p) (q := q) (by rw [HS.out]; exact decide_eq_false he))
    rw [sameB_ne he, Bool.not_false] at hne
    rw [HC.out]
    clear he HS HC
    go_enter Try.func23, Try.ntmps23
    go_wp2_with fail
    rw [← HV.out]
    have a0 := HX1.out.c0
    have a1 := HX1.out.c1
    have b0 := HX2.out.c0
    have b1 := HX2.out.c1
    generalize w.heap.size = H at a0 a1 b0 b1 ⊢
    refine wp_region_later (by kernel_rfl) (by kernel_rfl) ?_
    repeat (first | go_big_quiet_skip | quiet_step (first | (go_at_call 18; first | with_reducible exact Calls.later_of (HP1.out _) | with_reducible exact Calls.later_of (HP2.out _))))
    refine wpQuiet_nil ?_
    intro w9 hw9
    obtain ⟨p9, hw9'⟩ := hw9
    subst hw9'
    go_wp2_with fail
    go_ret
    exact ⟨rfl, HBV.out.trans (p9.bel.mono HBV.out.size)⟩
end Go.Proofs.Ytokdicaoonjimaa
