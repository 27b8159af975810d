/- Queues, the document's answer: contract of Right. -/
import Derived.Test.YthajgoigmkkbgaaQueMb
namespace Go.Proofs.Ythajgoigmkkbgaa
open Go.Shelf Go.RowKit Go.Lib Go.Sort

/-- A fact of all later worlds holds in those that are later still. -/
theorem LatW.still {V : World} {p : Addr} {v : Value} (h : ∀ z : LatW V, z.wd.cell? p = some v) (z : LatW V) : ∀ y : LatW z.wd, y.wd.cell? p = some v := fun y => h ⟨y.wd, z.bel.trans (y.bel.mono z.bel.size)⟩
theorem LatW.up {V : World} (z : LatW V) (y : LatW z.wd) : ∃ x : LatW V, y.wd = x.wd := ⟨⟨y.wd, z.bel.trans (y.bel.mono z.bel.size)⟩, rfl⟩
theorem setOk_parts (x : DSet) : setOk x = true ↔ okN x.frm = true ∧ okN x.to_ = true ∧ x.frm < x.to_ ∧ foldW x.ws = x.ws := by
  rw [setOk_iff, okN_iff, okN_iff]
theorem setOk_no {x : DSet} (h : ¬ (okN x.frm = true ∧ okN x.to_ = true ∧ x.frm < x.to_ ∧ foldW x.ws = x.ws)) : setOk x = false := by rw [Bool.eq_false_iff]; exact fun e => h ((setOk_parts x).1 e)

set_option maxHeartbeats 8000000 in
set_option maxRecDepth 100000 in
theorem DQRight_any {w : World} {q : QuV} (h : QuAt w w.heap.size q) (hs : q.sets.length ≤ 9223372036854775807) (he : ∀ x ∈ q.sets, x.ws.length ≤ 4000) (ho : q.opn.length ≤ 4000) :
    Calls Try.prog 30 #[q.val] w fun e w' => e = .returned (.bool (quRight q.qu)) ∧ Below w.heap.size w w' := by
  have HS1 := Lib.hid (fun i => @doc_set q.qu i)
  have HS2 := Lib.hid (fun i => @doc_step q.qu i)
  have HS3 := Lib.hid (fun i => @doc_last q.qu i)
  have HS4 := Lib.hid (@doc_rest q.qu)
  have HOK := Lib.hid (@doc_ok q.qu)
  obtain ⟨A, c, l, A2, c2, ws, f, t⟩ := q
  show Calls _ _ #[.agg #[.slice A l.length c, .slice A2 ws.length c2, .int .i64 f, .int .i64 t]] w _
  have HBV := Lib.hid (below_one w (.cells #[.slice A l.length c, .slice A2 ws.length c2, .int .i64 f, .int .i64 t] 27 (0, 0)))
  have HX := Lib.hid (Four.new w (.slice A l.length c) (.slice A2 ws.length c2) (.int .i64 f) (.int .i64 t) 27)
  have HO : Hid (LatCalls Try.prog (w.alloc (.cells #[.slice A l.length c, .slice A2 ws.length c2, .int .i64 f, .int .i64 t] 27 (0, 0))) 55 #[.slice A2 ws.length c2] (.bool (eqW ws (foldW ws)))) := Lib.hid (LatCalls.of fun z => folded_any (h.lat HBV.out z).opn ho)
  have HS := Lib.hid (fun z => (h.lat HBV.out z).sets)
  have HE := Lib.hid he
  have hpl : (QuV.qu ⟨A, c, l, A2, c2, ws, f, t⟩).sets = plainS l := rfl
  have hge : ∀ i (h : i < (plainS l).length), (plainS l)[i] = (l[i]'(by rw [plainS_length] at h; exact h)).set := fun i h => by unfold plainS; exact List.getElem_map ..
  have KA : Hid (∀ i (h : i < l.length), setOk l[i].set = false → quRight (QuV.qu ⟨A, c, l, A2, c2, ws, f, t⟩) = false) := Lib.hid (fun i h e => HS1.out i (by rw [hpl, plainS_length]; exact h) (by rw [← e]; congr 1; exact hge i _))
  have KB : Hid (∀ i (h : i + 1 < l.length), l[i].to_ ≠ l[i + 1].frm → quRight (QuV.qu ⟨A, c, l, A2, c2, ws, f, t⟩) = false) := Lib.hid (fun i h e => HS2.out i (by rw [hpl, plainS_length]; exact h) (by
    intro e2; apply e
    have g1 := hge i (by rw [plainS_length]; omega)
    have g2 := hge (i + 1) (by rw [plainS_length]; omega)
    have e3 : ((plainS l)[i]'(by rw [plainS_length]; omega)).to_ = ((plainS l)[i + 1]'(by rw [plainS_length]; omega)).frm := e2
    rw [g1, g2] at e3; exact e3))
  have KC : Hid (∀ i (h : l.length = i + 1), (l[i]'(by omega)).to_ ≠ f → quRight (QuV.qu ⟨A, c, l, A2, c2, ws, f, t⟩) = false) := Lib.hid (fun i h e => HS3.out i (by rw [hpl, plainS_length]; exact h) (by
    intro e2; apply e
    have g1 := hge i (by rw [plainS_length]; omega)
    have e3 : ((plainS l)[i]'(by rw [plainS_length]; omega)).to_ = f := e2
    rw [g1] at e3; exact e3))
  have KD : Hid (¬ (okN f = true ∧ okN t = true ∧ f ≤ t ∧ foldW ws = ws ∧ (f < t ∨ ws = [])) → quRight (QuV.qu ⟨A, c, l, A2, c2, ws, f, t⟩) = false) := Lib.hid HS4.out
  have KE : Hid ((∀ i, (h : i < l.length) → setOk l[i].set = true) → (∀ i, (h : i + 1 < l.length) → l[i].to_ = l[i + 1].frm) → (∀ i, (h : l.length = i + 1) → (l[i]'(by omega)).to_ = f) → okN f = true → okN t = true → f ≤ t → foldW ws = ws → (f < t ∨ ws = []) → quRight (QuV.qu ⟨A, c, l, A2, c2, ws, f, t⟩) = true) := Lib.hid (fun h1 h2 h3 h4 h5 h6 h7 h8 => HOK.out
    (fun i h => by rw [← h1 i (by rw [hpl, plainS_length] at h; exact h)]; congr 1; exact hge i _)
    (fun i h => by
      have h' : i + 1 < l.length := by rw [hpl, plainS_length] at h; exact h
      have g1 := hge i (by rw [plainS_length]; omega)
      have g2 := hge (i + 1) (by rw [plainS_length]; omega)
      show ((plainS l)[i]'(by rw [plainS_length]; omega)).to_ = ((plainS l)[i + 1]'(by rw [plainS_length]; omega)).frm
      rw [g1, g2]; exact h2 i h')
    (fun i h => by
      have h' : l.length = i + 1 := by rw [hpl, plainS_length] at h; exact h
      have g1 := hge i (by rw [plainS_length]; omega)
      show ((plainS l)[i]'(by rw [plainS_length]; omega)).to_ = f
      rw [g1]; exact h3 i h')
    h4 h5 h6 h7 h8)
  generalize quRight (QuV.qu ⟨A, c, l, A2, c2, ws, f, t⟩) = G at KA KB KC KD KE ⊢
  clear HS1 HS2 HS3 HS4 HOK hpl hge
  have HFt := Lib.hid (fun w => fits_any t w)
  have HFf := Lib.hid (fun w => fits_any f w)
  simp only at hs
  obtain ⟨n, hn⟩ : ∃ n, l.length = n := ⟨_, rfl⟩
  have HN := Lib.hid hn
  obtain ⟨m, hm⟩ : ∃ m, ws.length = m := ⟨_, rfl⟩
  have HM := Lib.hid hm
  rw [hn, hm] at HBV HX HO HS ⊢
  rw [hn] at hs
  clear h he ho hn hm
  go_enter Try.func30, Try.ntmps30
  go_wp2_with fail
  generalize w.alloc (.cells #[.slice A n c, .slice A2 m c2, .int .i64 f, .int .i64 t] 27) = V at HBV HX HO HS ⊢
  have x0 := fun z : LatW V => (HX.out.lat z).c0
  have x1 := fun z : LatW V => (HX.out.lat z).c1
  have x2 := fun z : LatW V => (HX.out.lat z).c2
  have x3 := fun z : LatW V => (HX.out.lat z).c3
  have HEnd : Hid (∀ z : LatW V, Below w.heap.size w z.wd) := Lib.hid (fun z => lat_end HBV.out z)
  clear HBV
  generalize w.heap.size = H at x0 x1 x2 x3 ⊢
  obtain ⟨z0, hz0⟩ := LatW.start V
  rw [← hz0]
  clear hz0
  go_loopg [4] n (fun kx s4 wr => ∃ k : Nat, s4 = .int .i64 k ∧ k ≤ n ∧ n - k ≤ kx ∧ Hid (∀ i, (h : i < l.length) → i < k → setOk l[i].set = true) ∧ Hid (∀ i, (h : i + 1 < l.length) → i + 1 < k → l[i].to_ = l[i + 1].frm) ∧ Hid (∃ z : LatW V, wr = z.wd))
  case atStart => exact ⟨0, rfl, Nat.zero_le _, by omega, Lib.hid (fun i _ h => by omega), Lib.hid (fun i _ h => by omega), Lib.hid ⟨_, rfl⟩⟩
  case round =>
    obtain ⟨k, rfl, hk, hkx, HG1, HG2, HZ⟩ := hrel
    obtain ⟨z, rfl⟩ := HZ.out
    clear HZ
    by_cases hlt : k < n
    · have hltz : (k : Int) < (n : Int) := by omega
      have hkl : k < l.length := by rw [HN.out]; exact hlt
      obtain ⟨b, off, hA, hbl, y1, y2, y3, y4, -⟩ := (HS.out z).at_ (Below.refl _ _) hkl
      have KAx := Lib.hid (KA.out k hkl)
      have HL := Lib.hid (HE.out l[k] (List.getElem_mem hkl))
      obtain ⟨x, hx⟩ : ∃ x, l[k] = x := ⟨_, rfl⟩
      have HXe := Lib.hid hx
      rw [hx] at y1 y2 y3 y4 HL KAx
      clear hx
      obtain ⟨xf, xt, xw, xa, xc⟩ := x
      simp only at y1 y2 y3 y4
      have HY := Lib.hid y4
      have hA0 := hA
      subst hA
      have HNo : Hid (¬ (okN xf = true ∧ okN xt = true ∧ xf < xt ∧ foldW xw = xw) → G = false) := Lib.hid (fun h => KAx.out (setOk_no h))
      clear y4 KAx
      have HF1 := Lib.hid (fun w => fits_any xf w)
      have HF2 := Lib.hid (fun w => fits_any xt w)
      obtain ⟨zn, hzn0⟩ := z.made (.cells #[.int .i64 xf, .int .i64 xt, .slice xa xw.length xc] 42 (0, 0))
      have hzn := Lib.hid hzn0
      clear hzn0
      have HEz := Lib.hid (show Below w.heap.size w (z.wd.alloc (.cells #[.int .i64 xf, .int .i64 xt, .slice xa xw.length xc] 42 (0, 0))) from by rw [hzn.out]; exact HEnd.out zn)
      cases e1 : okN xf with
      | false =>
        have hG : G = false := HNo.out (fun e => by rw [e1] at e; cases e.1)
        rw [e1] at HF1
        go_wp2_with (first | (go_at_call 54; with_reducible refine (HF1.out _).mono ?_; rintro e w5 ⟨rfl, rfl⟩))
        go_ret
        exact ⟨by first | (rw [hG]; rfl) | rfl, HEz.out⟩
      | true =>
      rw [e1] at HF1
      cases e2 : okN xt with
      | false =>
        have hG : G = false := HNo.out (fun e => by rw [e2] at e; cases e.2.1)
        rw [e2] at HF2
        go_wp2_with (first | (go_at_call 54; (first | with_reducible refine (HF1.out _).mono ?_ | with_reducible refine (HF2.out _).mono ?_); rintro e w5 ⟨rfl, rfl⟩))
        go_ret
        exact ⟨by first | (rw [hG]; rfl) | rfl, HEz.out⟩
      | true =>
      rw [e2] at HF2
      cases e3 : decide (xt ≤ xf) with
      | true =>
        have hG : G = false := HNo.out (fun e => by have := of_decide_eq_true e3; omega)
        go_wp2_with (first | (go_at_call 54; (first | with_reducible refine (HF1.out _).mono ?_ | with_reducible refine (HF2.out _).mono ?_); rintro e w5 ⟨rfl, rfl⟩))
        go_ret
        exact ⟨by first | (rw [hG]; rfl) | rfl, HEz.out⟩
      | false =>
      have hla := HL.out
      simp only at hla
      have HFx := Lib.hid (folded_any (c := xc) (HY.out.next (below_one z.wd (.cells #[.int .i64 xf, .int .i64 xt, .slice xa xw.length xc] 42 (0, 0)))) hla)
      cases e4 : eqW xw (foldW xw) with
      | false =>
        have hG : G = false := HNo.out (fun e => by rw [(eqW_fold xw).2 e.2.2.2] at e4; cases e4)
        rw [e4] at HFx
        obtain ⟨nx, hnx⟩ : ∃ nx, xw.length = nx := ⟨_, rfl⟩
        rw [hnx] at y3 HFx HEz
        clear hnx hla
        go_wp2_with (first | (go_at_call 54; (first | with_reducible refine (HF1.out _).mono ?_ | with_reducible refine (HF2.out _).mono ?_); rintro e w5 ⟨rfl, rfl⟩) | (go_at_call 55; refine HFx.out.mono ?_; rintro e w5 ⟨rfl, hb5⟩; replace hb5 := Lib.hid hb5))
        go_ret
        exact ⟨by first | (rw [hG]; rfl) | rfl, HEz.out.trans (hb5.out.mono HEz.out.size)⟩
      | true =>
        have HG1b : Hid (∀ i, (h : i < l.length) → i < k + 1 → setOk l[i].set = true) := Lib.hid (fun i h hi => by
          by_cases e : i = k
          · subst e
            rw [HXe.out]
            exact (setOk_parts _).2 ⟨e1, e2, by have := of_decide_eq_false e3; show xf < xt; omega, (eqW_fold xw).1 e4⟩
          · exact HG1.out i h (by omega))
        rw [e4] at HFx
        have HC0 : Hid (∀ y : LatW zn.wd, y.wd.cell? ⟨z.wd.heap.size, 0, none⟩ = some (.int .i64 xf)) := Lib.hid (by
          rw [← hzn.out]
          exact fun y => y.cell (by rw [Lib.cell_of_heap (heap_new _ _)]; rfl) (by simp))
        obtain ⟨nx, hnx⟩ : ∃ nx, xw.length = nx := ⟨_, rfl⟩
        rw [hnx] at y3 HFx HEz hzn
        clear hnx hla HEz
        by_cases hk0 : k = 0
        · have HG2b : Hid (∀ i, (h : i + 1 < l.length) → i + 1 < k + 1 → l[i].to_ = l[i + 1].frm) := Lib.hid (fun i h hi => by omega)
          have hk1 : decide (0 < k) = false := by rw [hk0]; rfl
          have HK1 := Lib.hid hk1
          clear hk0 hk1
          go_wp2_with (first | (go_at_call 54; (first | with_reducible refine (HF1.out _).mono ?_ | with_reducible refine (HF2.out _).mono ?_); rintro e w5 ⟨rfl, rfl⟩) | (go_at_call 55; refine HFx.out.mono ?_; rintro e w5 ⟨rfl, hb5⟩; rw [hzn.out] at hb5; obtain ⟨z5, hz5⟩ : ∃ z5 : LatW zn.wd, w5 = z5.wd := ⟨⟨w5, hb5⟩, rfl⟩; subst hz5; clear hb5))
          have hk1 := HK1.out
          refine wp_region_later (by kernel_rfl) (by kernel_rfl) ?_
          repeat (first | go_big_quiet_skip | quiet_step (first | fail) | (go_big_quiet_want; go_big_quiet_op; go_big_quiet_on))
          refine wpQuiet_nil ?_
          intro w9 hw9
          obtain ⟨p9, hw9'⟩ := hw9
          subst hw9'
          go_wp2_with fail
          go_roundg (n - (k + 1))
          case measure => omega
          case rel => exact ⟨k + 1, by go_num, by omega, Nat.le_refl _, HG1b, HG2b, Lib.hid ⟨⟨p9.wd, zn.bel.trans ((z5.bel.trans (p9.bel.mono z5.bel.size)).mono zn.bel.size)⟩, rfl⟩⟩
        · obtain ⟨j, hj⟩ : ∃ j, k = j + 1 := ⟨k - 1, by omega⟩
          have hjl : j < l.length := by omega
          have hjl1 : j + 1 < l.length := by omega
          have HJ : Hid (∀ y : LatW V, y.wd.cell? ⟨b, off + j * 3 + 1, none⟩ = some (.int .i64 l[j].to_)) := Lib.hid (fun y => by
            obtain ⟨b', off', hA', _, _, g2, _⟩ := (HS.out y).at_ (Below.refl _ _) hjl
            cases hA'; exact g2)
          have HXj : l[j + 1].frm = xf := by
            have h1 := HXe.out
            subst hj
            rw [h1]
          have HNj : Hid ((l[j]'hjl).to_ ≠ xf → G = false) := Lib.hid (fun e => KB.out j hjl1 (by rw [HXj]; exact e))
          have HYj : Hid ((l[j]'hjl).to_ = xf → ∀ i, (h : i + 1 < l.length) → i + 1 < k + 1 → (l[i]'(Nat.lt_of_succ_lt h)).to_ = (l[i + 1]'h).frm) := Lib.hid (fun e i h hi => by
            by_cases e2 : i = j
            · subst e2; rw [HXj]; exact e
            · exact HG2.out i h (by omega))
          clear HXj
          obtain ⟨v, hv⟩ : ∃ v, (l[j]'hjl).to_ = v := ⟨_, rfl⟩
          rw [hv] at HJ HNj HYj
          clear hv
          have HK1 : Hid (decide (0 < k) = true) := Lib.hid (decide_eq_true (by omega))
          have HK2 : Hid (IntKind.i64.wrap ((k : Int) - 1) = (j : Int)) := Lib.hid (by rw [IntKind.wrap_i64]; omega)
          have HK3 : Hid ((0 : Int) ≤ (j : Int)) := Lib.hid (Int.natCast_nonneg _)
          have HK4 : Hid ((j : Int) < (n : Int)) := Lib.hid (by omega)
          clear hk0 hj hjl hjl1
          cases e5 : (v != xf) with
          | true =>
            have HGf : Hid (G = false) := Lib.hid (HNj.out (by simpa using e5))
            go_wp2_with (first | (go_at_call 54; (first | with_reducible refine (HF1.out _).mono ?_ | with_reducible refine (HF2.out _).mono ?_); rintro e w5 ⟨rfl, rfl⟩) | (go_at_call 55; refine HFx.out.mono ?_; rintro e w5 ⟨rfl, hb5⟩; rw [hzn.out] at hb5; obtain ⟨z5, hz5⟩ : ∃ z5 : LatW zn.wd, w5 = z5.wd := ⟨⟨w5, hb5⟩, rfl⟩; subst hz5; clear hb5))
            have hk1 := HK1.out
            have hk2 := HK2.out
            have hk3 := HK3.out
            have hk4 := HK4.out
            have q0 := LatW.still (LatW.still x0 zn) z5
            have q1 := LatW.still HC0.out z5
            have q2 := LatW.still (LatW.still HJ.out zn) z5
            refine wp_region_later (by kernel_rfl) (by kernel_rfl) ?_
            repeat (first | go_big_quiet_skip | quiet_step (first | fail) | (go_big_quiet_want; go_big_quiet_op; go_big_quiet_on))
            refine wpQuiet_nil ?_
            intro w9 hw9
            obtain ⟨p9, hw9'⟩ := hw9
            subst hw9'
            go_wp2_with fail
            go_ret
            exact ⟨by rw [HGf.out]; rfl, HEnd.out ⟨p9.wd, zn.bel.trans ((z5.bel.trans (p9.bel.mono z5.bel.size)).mono zn.bel.size)⟩⟩
          | false =>
            have HG2b := Lib.hid (HYj.out (by simpa using e5))
            go_wp2_with (first | (go_at_call 54; (first | with_reducible refine (HF1.out _).mono ?_ | with_reducible refine (HF2.out _).mono ?_); rintro e w5 ⟨rfl, rfl⟩) | (go_at_call 55; refine HFx.out.mono ?_; rintro e w5 ⟨rfl, hb5⟩; rw [hzn.out] at hb5; obtain ⟨z5, hz5⟩ : ∃ z5 : LatW zn.wd, w5 = z5.wd := ⟨⟨w5, hb5⟩, rfl⟩; subst hz5; clear hb5))
            have hk1 := HK1.out
            have hk2 := HK2.out
            have hk3 := HK3.out
            have hk4 := HK4.out
            have q0 := LatW.still (LatW.still x0 zn) z5
            have q1 := LatW.still HC0.out z5
            have q2 := LatW.still (LatW.still HJ.out zn) z5
            refine wp_region_later (by kernel_rfl) (by kernel_rfl) ?_
            repeat (first | go_big_quiet_skip | quiet_step (first | fail) | (go_big_quiet_want; go_big_quiet_op; go_big_quiet_on))
            refine wpQuiet_nil ?_
            intro w9 hw9
            obtain ⟨p9, hw9'⟩ := hw9
            subst hw9'
            go_wp2_with fail
            go_roundg (n - (k + 1))
            case measure => omega
            case rel => exact ⟨k + 1, by go_num, by omega, Nat.le_refl _, HG1b, HG2b, Lib.hid ⟨⟨p9.wd, zn.bel.trans ((z5.bel.trans (p9.bel.mono z5.bel.size)).mono zn.bel.size)⟩, rfl⟩⟩
    · have hltz : ¬ (k : Int) < (n : Int) := by omega
      have HAll1 : Hid (∀ i, (h : i < l.length) → setOk l[i].set = true) := Lib.hid (fun i h => HG1.out i h (by rw [HN.out] at h; omega))
      have HAll2 : Hid (∀ i, (h : i + 1 < l.length) → l[i].to_ = l[i + 1].frm) := Lib.hid (fun i h => HG2.out i h (by rw [HN.out] at h; omega))
      clear HG1 HG2
      by_cases hn0 : n = 0
      · have hk1 : decide (0 < n) = false := by rw [hn0]; rfl
        have HLst : Hid (∀ i (h : l.length = i + 1), (l[i]'(by omega)).to_ = f) := Lib.hid (fun i h => by have := HN.out; omega)
        clear hn0
        go_wp2_with fail
        refine wp_region_later (by kernel_rfl) (by kernel_rfl) ?_
        repeat (first | go_big_quiet_skip | quiet_step (first | fail) | (go_big_quiet_want; go_big_quiet_op; go_big_quiet_on))
        refine wpQuiet_nil ?_
        intro w9 hw9
        obtain ⟨p9, hw9'⟩ := hw9
        subst hw9'
        have x1p := LatW.still x1 z
        have x2p := LatW.still x2 z
        have x3p := LatW.still x3 z
        obtain ⟨y9, hy9⟩ := LatW.up z p9
        rw [hy9]
        clear hy9 p9 x1p x2p x3p
        have HE9 := Lib.hid (fun y : LatW V => HEnd.out y)
        have HEp := Lib.hid (HEnd.out y9)
        have HO9 := HO
        cases k1 : okN f with
        | false =>
          rw [k1] at HFf
          have hG : G = false := KD.out (fun e => by rw [k1] at e; cases e.1)
          go_wp2_with (first | (go_at_call 54; (first | with_reducible refine (HFf.out _).mono ?_ | with_reducible refine (HFt.out _).mono ?_); rintro e w5 ⟨rfl, rfl⟩) | (go_at_call 55; refine (HO9.out.at_ _).mono ?_; rintro e w5 ⟨rfl, z5, rfl⟩))
          go_ret
          exact ⟨by first | (rw [hG]; rfl) | rfl, by first | exact HE9.out _ | exact HEp.out⟩
        | true =>
        rw [k1] at HFf
        cases k2 : okN t with
        | false =>
          rw [k2] at HFt
          have hG : G = false := KD.out (fun e => by rw [k2] at e; cases e.2.1)
          go_wp2_with (first | (go_at_call 54; (first | with_reducible refine (HFf.out _).mono ?_ | with_reducible refine (HFt.out _).mono ?_); rintro e w5 ⟨rfl, rfl⟩) | (go_at_call 55; refine (HO9.out.at_ _).mono ?_; rintro e w5 ⟨rfl, z5, rfl⟩))
          go_ret
          exact ⟨by first | (rw [hG]; rfl) | rfl, by first | exact HE9.out _ | exact HEp.out⟩
        | true =>
        rw [k2] at HFt
        cases k3 : decide (t < f) with
        | true =>
          have hG : G = false := KD.out (fun e => by have := of_decide_eq_true k3; have := e.2.2.1; omega)
          go_wp2_with (first | (go_at_call 54; (first | with_reducible refine (HFf.out _).mono ?_ | with_reducible refine (HFt.out _).mono ?_); rintro e w5 ⟨rfl, rfl⟩) | (go_at_call 55; refine (HO9.out.at_ _).mono ?_; rintro e w5 ⟨rfl, z5, rfl⟩))
          go_ret
          exact ⟨by first | (rw [hG]; rfl) | rfl, by first | exact HE9.out _ | exact HEp.out⟩
        | false =>
        cases k4 : eqW ws (foldW ws) with
        | false =>
          rw [k4] at HO9
          have hG : G = false := KD.out (fun e => by rw [(eqW_fold ws).2 e.2.2.2.1] at k4; cases k4)
          go_wp2_with (first | (go_at_call 54; (first | with_reducible refine (HFf.out _).mono ?_ | with_reducible refine (HFt.out _).mono ?_); rintro e w5 ⟨rfl, rfl⟩) | (go_at_call 55; refine (HO9.out.at_ _).mono ?_; rintro e w5 ⟨rfl, z5, rfl⟩))
          go_ret
          exact ⟨by first | (rw [hG]; rfl) | rfl, by first | exact HE9.out _ | exact HEp.out⟩
        | true =>
        rw [k4] at HO9
        have HOK2 : Hid ((f < t ∨ ws = []) → G = true) := Lib.hid (fun h8 => KE.out HAll1.out HAll2.out HLst.out k1 k2 (by have := of_decide_eq_false k3; omega) ((eqW_fold ws).1 k4) h8)
        cases k5 : decide (f < t) with
        | true =>
          have hG : G = true := HOK2.out (Or.inl (of_decide_eq_true k5))
          go_wp2_with (first | (go_at_call 54; (first | with_reducible refine (HFf.out _).mono ?_ | with_reducible refine (HFt.out _).mono ?_); rintro e w5 ⟨rfl, rfl⟩) | (go_at_call 55; refine (HO9.out.at_ _).mono ?_; rintro e w5 ⟨rfl, z5, rfl⟩))
          go_ret
          exact ⟨by first | (rw [hG]; rfl) | rfl, by first | exact HE9.out _ | exact HEp.out⟩
        | false =>
          have hG : G = ((m : Int) == 0) := by
            cases e4 : ((m : Int) == 0) with
            | true => exact HOK2.out (Or.inr (List.eq_nil_of_length_eq_zero (by
              rw [HM.out]
              have h4 : (m : Int) = 0 := by simpa using e4
              omega)))
            | false =>
              refine KD.out (fun e => ?_)
              rcases e.2.2.2.2 with e | e
              · exact absurd e (of_decide_eq_false k5)
              · have := HM.out; rw [e] at this; subst this; simp at e4
          go_wp2_with (first | (go_at_call 54; (first | with_reducible refine (HFf.out _).mono ?_ | with_reducible refine (HFt.out _).mono ?_); rintro e w5 ⟨rfl, rfl⟩) | (go_at_call 55; refine (HO9.out.at_ _).mono ?_; rintro e w5 ⟨rfl, z5, rfl⟩))
          go_ret
          exact ⟨by first | (rw [hG]; rfl) | rfl, by first | exact HE9.out _ | exact HEp.out⟩
      · obtain ⟨j, hj⟩ : ∃ j, n = j + 1 := ⟨n - 1, by omega⟩
        have hjl : j < l.length := by rw [HN.out]; omega
        have HJ : Hid (∀ y : LatW V, ∃ b off, A = some ⟨b, off, none⟩ ∧ y.wd.cell? ⟨b, off + j * 3 + 1, none⟩ = some (.int .i64 l[j].to_)) := Lib.hid (fun y => by
          obtain ⟨b', off', hA', _, _, g2, _⟩ := (HS.out y).at_ (Below.refl _ _) hjl
          exact ⟨b', off', hA', g2⟩)
        have HNj : Hid (l[j].to_ ≠ f → G = false) := Lib.hid (fun e => KC.out j (by rw [HN.out]; exact hj) e)
        have HYj : Hid ((l[j]'hjl).to_ = f → ∀ i (h : l.length = i + 1), (l[i]'(h ▸ Nat.lt_succ_self i)).to_ = f) := Lib.hid (fun e i h => by
          have : i = j := by have := HN.out; omega
          subst this; exact e)
        obtain ⟨v, hv⟩ : ∃ v, (l[j]'hjl).to_ = v := ⟨_, rfl⟩
        rw [hv] at HJ HNj HYj
        clear hv
        have hk1 : decide (0 < n) = true := decide_eq_true (by omega)
        have HK2 : Hid (IntKind.i64.wrap ((n : Int) - 1) = (j : Int)) := Lib.hid (by rw [IntKind.wrap_i64]; omega)
        have HK3 : Hid ((0 : Int) ≤ (j : Int)) := Lib.hid (Int.natCast_nonneg _)
        have HK4 : Hid ((j : Int) < (n : Int)) := Lib.hid (by omega)
        obtain ⟨b, off, hA, -⟩ := HJ.out z
        have HJ2 : Hid (∀ y : LatW V, y.wd.cell? ⟨b, off + j * 3 + 1, none⟩ = some (.int .i64 v)) := Lib.hid (fun y => by
          obtain ⟨b', off', hA', g⟩ := HJ.out y
          rw [hA] at hA'; cases hA'; exact g)
        clear HJ hn0 hj hjl
        subst hA
        cases e5 : (v != f) with
        | true =>
          have HGf : Hid (G = false) := Lib.hid (HNj.out (by simpa using e5))
          go_wp2_with fail
          have hk2 := HK2.out
          have hk3 := HK3.out
          have hk4 := HK4.out
          have q0 := LatW.still x0 z
          have q1 := LatW.still x2 z
          have q2 := LatW.still HJ2.out z
          refine wp_region_later (by kernel_rfl) (by kernel_rfl) ?_
          repeat (first | go_big_quiet_skip | quiet_step (first | fail) | (go_big_quiet_want; go_big_quiet_op; go_big_quiet_on))
          refine wpQuiet_nil ?_
          intro w9 hw9
          obtain ⟨p9, hw9'⟩ := hw9
          subst hw9'
          go_wp2_with fail
          go_ret
          exact ⟨by rw [HGf.out]; rfl, HEnd.out ⟨p9.wd, z.bel.trans (p9.bel.mono z.bel.size)⟩⟩
        | false =>
          have HLst := Lib.hid (HYj.out (by simpa using e5))
          go_wp2_with fail
          have hk2 := HK2.out
          have hk3 := HK3.out
          have hk4 := HK4.out
          have q0 := LatW.still x0 z
          have q1 := LatW.still x2 z
          have q2 := LatW.still HJ2.out z
          refine wp_region_later (by kernel_rfl) (by kernel_rfl) ?_
          repeat (first | go_big_quiet_skip | quiet_step (first | fail) | (go_big_quiet_want; go_big_quiet_op; go_big_quiet_on))
          refine wpQuiet_nil ?_
          intro w9 hw9
          obtain ⟨p9, hw9'⟩ := hw9
          subst hw9'
          clear q0 q1 q2 hk2 hk3 hk4
          have x1p := LatW.still x1 z
          have x2p := LatW.still x2 z
          have x3p := LatW.still x3 z
          obtain ⟨y9, hy9⟩ := LatW.up z p9
          rw [hy9]
          clear hy9 p9 x1p x2p x3p
          have HE9 := Lib.hid (fun y : LatW V => HEnd.out y)
          have HEp := Lib.hid (HEnd.out y9)
          have HO9 := HO
          cases k1 : okN f with
          | false =>
            rw [k1] at HFf
            have hG : G = false := KD.out (fun e => by rw [k1] at e; cases e.1)
            go_wp2_with (first | (go_at_call 54; (first | with_reducible refine (HFf.out _).mono ?_ | with_reducible refine (HFt.out _).mono ?_); rintro e w5 ⟨rfl, rfl⟩) | (go_at_call 55; refine (HO9.out.at_ _).mono ?_; rintro e w5 ⟨rfl, z5, rfl⟩))
            go_ret
            exact ⟨by first | (rw [hG]; rfl) | rfl, by first | exact HE9.out _ | exact HEp.out⟩
          | true =>
          rw [k1] at HFf
          cases k2 : okN t with
          | false =>
            rw [k2] at HFt
            have hG : G = false := KD.out (fun e => by rw [k2] at e; cases e.2.1)
            go_wp2_with (first | (go_at_call 54; (first | with_reducible refine (HFf.out _).mono ?_ | with_reducible refine (HFt.out _).mono ?_); rintro e w5 ⟨rfl, rfl⟩) | (go_at_call 55; refine (HO9.out.at_ _).mono ?_; rintro e w5 ⟨rfl, z5, rfl⟩))
            go_ret
            exact ⟨by first | (rw [hG]; rfl) | rfl, by first | exact HE9.out _ | exact HEp.out⟩
          | true =>
          rw [k2] at HFt
          cases k3 : decide (t < f) with
          | true =>
            have hG : G = false := KD.out (fun e => by have := of_decide_eq_true k3; have := e.2.2.1; omega)
            go_wp2_with (first | (go_at_call 54; (first | with_reducible refine (HFf.out _).mono ?_ | with_reducible refine (HFt.out _).mono ?_); rintro e w5 ⟨rfl, rfl⟩) | (go_at_call 55; refine (HO9.out.at_ _).mono ?_; rintro e w5 ⟨rfl, z5, rfl⟩))
            go_ret
            exact ⟨by first | (rw [hG]; rfl) | rfl, by first | exact HE9.out _ | exact HEp.out⟩
          | false =>
          cases k4 : eqW ws (foldW ws) with
          | false =>
            rw [k4] at HO9
            have hG : G = false := KD.out (fun e => by rw [(eqW_fold ws).2 e.2.2.2.1] at k4; cases k4)
            go_wp2_with (first | (go_at_call 54; (first | with_reducible refine (HFf.out _).mono ?_ | with_reducible refine (HFt.out _).mono ?_); rintro e w5 ⟨rfl, rfl⟩) | (go_at_call 55; refine (HO9.out.at_ _).mono ?_; rintro e w5 ⟨rfl, z5, rfl⟩))
            go_ret
            exact ⟨by first | (rw [hG]; rfl) | rfl, by first | exact HE9.out _ | exact HEp.out⟩
          | true =>
          rw [k4] at HO9
          have HOK2 : Hid ((f < t ∨ ws = []) → G = true) := Lib.hid (fun h8 => KE.out HAll1.out HAll2.out HLst.out k1 k2 (by have := of_decide_eq_false k3; omega) ((eqW_fold ws).1 k4) h8)
          cases k5 : decide (f < t) with
          | true =>
            have hG : G = true := HOK2.out (Or.inl (of_decide_eq_true k5))
            go_wp2_with (first | (go_at_call 54; (first | with_reducible refine (HFf.out _).mono ?_ | with_reducible refine (HFt.out _).mono ?_); rintro e w5 ⟨rfl, rfl⟩) | (go_at_call 55; refine (HO9.out.at_ _).mono ?_; rintro e w5 ⟨rfl, z5, rfl⟩))
            go_ret
            exact ⟨by first | (rw [hG]; rfl) | rfl, by first | exact HE9.out _ | exact HEp.out⟩
          | false =>
            have hG : G = ((m : Int) == 0) := by
              cases e4 : ((m : Int) == 0) with
              | true => exact HOK2.out (Or.inr (List.eq_nil_of_length_eq_zero (by
                rw [HM.out]
                have h4 : (m : Int) = 0 := by simpa using e4
                omega)))
              | false =>
                refine KD.out (fun e => ?_)
                rcases e.2.2.2.2 with e | e
                · exact absurd e (of_decide_eq_false k5)
                · have := HM.out; rw [e] at this; subst this; simp at e4
            go_wp2_with (first | (go_at_call 54; (first | with_reducible refine (HFf.out _).mono ?_ | with_reducible refine (HFt.out _).mono ?_); rintro e w5 ⟨rfl, rfl⟩) | (go_at_call 55; refine (HO9.out.at_ _).mono ?_; rintro e w5 ⟨rfl, z5, rfl⟩))
            go_ret
            exact ⟨by first | (rw [hG]; rfl) | rfl, by first | exact HE9.out _ | exact HEp.out⟩
end Go.Proofs.Ythajgoigmkkbgaa
