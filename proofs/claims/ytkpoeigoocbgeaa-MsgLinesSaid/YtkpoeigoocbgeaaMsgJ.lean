/- Contract of the document's Equal of messages. -/
import Derived.Test.YtkpoeigoocbgeaaMsgI
import Derived.Test.YtkpoeigoocbgeaaLatSeq
namespace Go.Proofs.Ytkpoeigoocbgeaa
open Go.RowKit

/-- Messages that are the same, as a test. -/
noncomputable def eqMg (a b : Mg) : Bool :=
  decide (a.sizes = b.sizes) && (decide (a.kind = b.kind) && (decide (a.epoch = b.epoch) && (eqBr a.line b.line && (decide (a.seq = b.seq) && (decide (a.n = b.n) && (decide (a.of_ = b.of_) && (decide (a.full = b.full) && (eqBr a.anc b.anc && (decide (a.ancS = b.ancS) && (eqBt a.bits b.bits && (decide (a.from_ = b.from_) && (decide (a.to_ = b.to_) && eqW a.ws b.ws))))))))))))
theorem eqBr_iff17 (a b : List Br) : eqBr a b = true ↔ a = b := by unfold eqBr; exact decide_eq_true_iff
theorem eqBt_iff17 (a b : List Bt) : eqBt a b = true ↔ a = b := ⟨fun h => (by
  by_cases e : a = b
  · exact e
  · rw [eqBt_ne e] at h; cases h), fun h => by rw [h]; exact eqBt_self b⟩
theorem eqW_iff17 (a b : List Wr) : eqW a b = true ↔ a = b := ⟨fun h => (by
  by_cases e : a = b
  · exact e
  · rw [eqW_ne e] at h; cases h), fun h => by rw [h]; exact eqW_self b⟩
theorem eqMg_iff (a b : Mg) : eqMg a b = true ↔ a = b := by
  unfold eqMg
  simp only [Bool.and_eq_true, decide_eq_true_eq, eqBr_iff17, eqBt_iff17, eqW_iff17]
  constructor
  · rintro ⟨h0, h1, h2, h3, h4, h5, h6, h7, h8, h9, h10, h11, h12, h13⟩
    cases a; cases b
    dsimp only at *
    subst h0 h1 h2 h3 h4 h5 h6 h7 h8 h9 h10 h11 h12 h13
    rfl
  · rintro rfl
    exact ⟨rfl, rfl, rfl, rfl, rfl, rfl, rfl, rfl, rfl, rfl, rfl, rfl, rfl, rfl⟩

set_option maxHeartbeats 8000000 in
set_option maxRecDepth 100000 in
theorem equal17_any {w : World} (a b : Mg) (x y : MgM) (h : MgAt w a x) (h' : MgAt w b y) (hf : MgFit a) (_hf' : MgFit b) :
    Calls Try.prog 28 #[a.val x, b.val y] w fun e w' => e = .returned (.bool (eqMg a b)) ∧ Below w.heap.size w w' := by
  obtain ⟨V1, hV1⟩ : ∃ V, V = w.alloc (.cells (a.cells x) 52) := ⟨_, rfl⟩
  obtain ⟨V, hV⟩ : ∃ V, V = V1.alloc (.cells (b.cells y) 52) := ⟨_, rfl⟩
  have hb1 : Below w.heap.size w V1 := by rw [hV1]; exact below_one _ _
  have hb2 : Below V1.heap.size V1 V := by rw [hV]; exact below_one _ _
  have hb0 := below_next hb1 hb2
  have HX := Lib.hid ((show BoxMg V1 w.heap.size a x from BoxMg.of (by rw [hV1]; exact heap_new _ _)).next hb2)
  have HY := Lib.hid (show BoxMg V V1.heap.size b y from BoxMg.of (by rw [hV]; exact heap_new _ _))
  have hs1 : V1.heap.size = w.heap.size + 1 := by rw [hV1]; simp
  rw [hs1] at HY
  have HB0 := Lib.hid hb0
  have HM := Lib.hid (h.next hb0)
  have HM' := Lib.hid (h'.next hb0)
  have HV : Hid ((w.alloc (.cells (a.cells x) 52)).alloc (.cells (b.cells y) 52) = V) := Lib.hid (by rw [hV, hV1])
  have HLn := Lib.hid (fun W (hb : Below V.heap.size V W) => DocEqualL_any (c1 := x.lC) (c2 := y.lC) (HM.out.line.next hb) (HM'.out.line.next hb) hf.line)
  have HAn := Lib.hid (fun W (hb : Below V.heap.size V W) => DocEqualL_any (c1 := x.aC) (c2 := y.aC) (HM.out.anc.next hb) (HM'.out.anc.next hb) hf.anc)
  have HBi := Lib.hid (fun W (hb : Below V.heap.size V W) => DbEqual_any (c1 := x.bC) (c2 := y.bC) (HM.out.bits.next hb) (HM'.out.bits.next hb) hf.bits.1)
  have HWr := Lib.hid (fun W (hb : Below V.heap.size V W) => RefEqW_any (c1 := x.wC) (c2 := y.wC) (HM.out.ws.next hb) (HM'.out.ws.next hb) hf.ws)
  have hsz := hf.sizes
  have HTo := Lib.hid (fun W (hb : Below V.heap.size V W) => below_next HB0.out hb)
  obtain ⟨R, hR⟩ : ∃ R, eqMg a b = R := ⟨_, rfl⟩
  rw [hR]
  have HR := Lib.hid hR
  unfold eqMg at HR
  unfold Mg.cells at HV
  clear h h' hf _hf' hb0 hb1 hb2 hV hV1 hR hs1
  unfold Mg.val Mg.cells
  obtain ⟨H, hH⟩ : ∃ H, w.heap.size = H := ⟨_, rfl⟩
  rw [hH] at HX HY HB0
  have HH := Lib.hid hH
  obtain ⟨a0, a1, a2, a3, a4, a5, a6, a7, a8, a9, a10, a11, a12, a13⟩ := HX.out
  obtain ⟨b0, b1, b2, b3, b4, b5, b6, b7, b8, b9, b10, b11, b12, b13⟩ := HY.out
  clear a6 b6 a7 b7
  go_enter Try.func28, Try.ntmps28
  go_upto_region 1 with fail
  rw [HV.out]
  by_cases hlen : a.sizes.length = b.sizes.length
  case neg =>
    have hl2 : ((a.sizes.length : Int) == (b.sizes.length : Int)) = false := by rw [beq_eq_false_iff_ne]; omega
    have hl3 : ¬ (a.sizes.length : Int) = (b.sizes.length : Int) := by omega
    have HE : Hid (R = false) := Lib.hid (by rw [← HR.out, decide_eq_false (fun e => hlen (by rw [e]))]; rfl)
    clear hlen
    go_wp2
    go_ret
    rw [HE.out]
    exact ⟨rfl, by first | exact HB0.out | (rw [HH.out]; exact HB0.out)⟩
  obtain ⟨n, hn⟩ : ∃ n, a.sizes.length = n := ⟨_, rfl⟩
  have HN1 := Lib.hid hn
  have HN2 : Hid (b.sizes.length = n) := Lib.hid (by rw [← hlen]; exact hn)
  rw [hn] at a10 hsz
  rw [HN2.out] at b10
  clear hlen hn
  go_wp2
  go_loopw [5] (fun i wr => ∃ k q : Nat, k ≤ n ∧ i = .int .i64 k ∧ Hid (a.sizes.take k = b.sizes.take k) ∧ wr = V.drewN q) (fun i _ => n - (intOf i).toNat)
  case atStart => exact ⟨0, 0, by omega, rfl, Lib.hid (by simp), rfl⟩
  case round =>
    obtain ⟨k, q, hk, rfl, HT, rfl⟩ := hrel
    by_cases hlt : k < n
    · have k1 : k < a.sizes.length := by rw [HN1.out]; exact hlt
      have k2 : k < b.sizes.length := by rw [HN2.out]; exact hlt
      obtain ⟨g1, o1, hA1, _, hc1⟩ := HM.out.sizes.at_ (by intro e; have := congrArg List.length e; rw [List.length_map, HN1.out] at this; simp at this; omega)
      obtain ⟨g2, o2, hA2, _, hc2⟩ := HM'.out.sizes.at_ (by intro e; have := congrArg List.length e; rw [List.length_map, HN2.out] at this; simp at this; omega)
      have e1 := hc1 k (by rw [List.length_map]; exact k1)
      have e2 := hc2 k (by rw [List.length_map]; exact k2)
      rw [List.getElem_map] at e1 e2
      rw [hA1] at a10
      rw [hA2] at b10
      have HNe : Hid (a.sizes[k] ≠ b.sizes[k] → a.sizes ≠ b.sizes) := Lib.hid (fun hne e => hne (by simp only [e]))
      have HSt : Hid (a.sizes[k] = b.sizes[k] → a.sizes.take (k + 1) = b.sizes.take (k + 1)) := Lib.hid (fun e => by rw [List.take_succ_eq_append_getElem k1, List.take_succ_eq_append_getElem k2, HT.out, e])
      obtain ⟨v1, hv1⟩ : ∃ v, a.sizes[k] = v := ⟨_, rfl⟩
      obtain ⟨v2, hv2⟩ : ∃ v, b.sizes[k] = v := ⟨_, rfl⟩
      rw [hv1] at e1 HNe HSt
      rw [hv2] at e2 HNe HSt
      have hi0 : (0 : Int) ≤ (k : Int) := by omega
      have hi1 : (k : Int) < (n : Int) := by omega
      clear hc1 hc2 hA1 hA2 k1 k2 hv1 hv2 a0 a1 a2 a3 a4 a5 a8 a9 a11 a12 a13 b0 b1 b2 b3 b4 b5 b8 b9 b11 b12 b13
      by_cases ht : v1 = v2
      · subst ht
        have HT2 := Lib.hid (HSt.out rfl)
        go_wp2
        go_quiet (fail)
        go_wp2
        go_roundw
        case rel => exact ⟨k + 1, q + nq, by omega, by go_num, HT2, rfl⟩
        case measure => simp [intOf]; omega
      · have ht' : (v1 == v2) = false := beq_eq_false_iff_ne.2 ht
        have HE : Hid (R = false) := Lib.hid (by rw [← HR.out, decide_eq_false (HNe.out ht)]; rfl)
        go_wp2
        go_quiet (fail)
        go_wp2
        go_ret
        rw [HE.out]
        exact ⟨rfl, by first | exact below_drewN (below_drewN HB0.out _) _ | (rw [HH.out]; exact below_drewN (below_drewN HB0.out _) _)⟩
    · obtain rfl : k = n := by omega
      have hkn2 : ¬ (k : Int) < (k : Int) := by omega
      have HSz : Hid (a.sizes = b.sizes) := Lib.hid (by have := HT.out; rwa [List.take_of_length_le (by rw [HN1.out]; exact Nat.le_refl _), List.take_of_length_le (by rw [HN2.out]; exact Nat.le_refl _)] at this)
      have HBq := Lib.hid (show Below V.heap.size V (V.drewN q) from below_drewN (Below.refl _ _) _)
      clear a0 a1 a2 a3 a4 a5 a8 a9 a10 a11 a12 a13 b0 b1 b2 b3 b4 b5 b8 b9 b10 b11 b12 b13
      have a10 := (HX.out.next HBq.out).c10
      have b10 := (HY.out.next HBq.out).c10
      rw [HN1.out] at a10
      rw [HN2.out] at b10
      have HBV := Lib.hid HBq.out
      have HXW := Lib.hid (HX.out.next HBq.out)
      have HYW := Lib.hid (HY.out.next HBq.out)
      generalize V.drewN q = W at HBV HXW HYW a10 b10 ⊢
      have HC1 := Lib.hid (show LatCalls Try.prog W 15 #[.slice x.lA a.line.length x.lC, .slice y.lA b.line.length y.lC] (.bool (eqBr a.line b.line)) from LatCalls.of fun z => HLn.out z.wd (below_next HBV.out z.bel))
      have HC2 := Lib.hid (show LatCalls Try.prog W 15 #[.slice x.aA a.anc.length x.aC, .slice y.aA b.anc.length y.aC] (.bool (eqBr a.anc b.anc)) from LatCalls.of fun z => HAn.out z.wd (below_next HBV.out z.bel))
      have HC3 := Lib.hid (show LatCalls Try.prog W 62 #[.slice x.bA a.bits.length x.bC, .slice y.bA b.bits.length y.bC] (.bool (eqBt a.bits b.bits)) from LatCalls.of fun z => HBi.out z.wd (below_next HBV.out z.bel))
      have HC4 := Lib.hid (show LatCalls Try.prog W 21 #[.slice x.wA a.ws.length x.wC, .slice y.wA b.ws.length y.wC] (.bool (eqW a.ws b.ws)) from LatCalls.of fun z => HWr.out z.wd (below_next HBV.out z.bel))
      go_upto_region 8 with fail
      clear a10 b10 HLn HAn HBi HWr
      by_cases t0 : a.kind = b.kind
      case neg =>
        have u0 : (a.kind == b.kind) = false := beq_eq_false_iff_ne.2 t0
        have HE : Hid (R = false) := Lib.hid (by rw [← HR.out]; simp [HSz.out, t0])
        have a0 := fun z : LatW W => (HXW.out.next z.bel).c0
        have b0 := fun z : LatW W => (HYW.out.next z.bel).c0
        refine wp_region_seq ?_
        dsimp only [List.append]
        repeat (go_big_quiet_step (fail))
        refine wpQuiet_nil ?_
        intro w9 hw9
        obtain ⟨p9, hw9'⟩ := hw9
        subst hw9'
        go_wp2_with fail
        go_ret
        rw [HE.out]
        exact ⟨rfl, by first | exact HTo.out _ (below_next HBV.out p9.bel) | (have hz := HTo.out _ (below_next HBV.out p9.bel); rw [HH.out] at hz; exact hz)⟩
      by_cases t1 : a.epoch = b.epoch
      case neg =>
        have u1 : (a.epoch == b.epoch) = false := beq_eq_false_iff_ne.2 t1
        have HE : Hid (R = false) := Lib.hid (by rw [← HR.out]; simp [HSz.out, t0, t1])
        have a0 := fun z : LatW W => (HXW.out.next z.bel).c0
        have b0 := fun z : LatW W => (HYW.out.next z.bel).c0
        have a1 := fun z : LatW W => (HXW.out.next z.bel).c1
        have b1 := fun z : LatW W => (HYW.out.next z.bel).c1
        refine wp_region_seq ?_
        dsimp only [List.append]
        repeat (go_big_quiet_step (fail))
        refine wpQuiet_nil ?_
        intro w9 hw9
        obtain ⟨p9, hw9'⟩ := hw9
        subst hw9'
        go_wp2_with fail
        go_ret
        rw [HE.out]
        exact ⟨rfl, by first | exact HTo.out _ (below_next HBV.out p9.bel) | (have hz := HTo.out _ (below_next HBV.out p9.bel); rw [HH.out] at hz; exact hz)⟩
      by_cases t2 : eqBr a.line b.line = true
      case neg =>
        rw [Bool.not_eq_true] at t2
        have HE : Hid (R = false) := Lib.hid (by rw [← HR.out]; simp [HSz.out, t0, t1, t2])
        have a0 := fun z : LatW W => (HXW.out.next z.bel).c0
        have b0 := fun z : LatW W => (HYW.out.next z.bel).c0
        have a1 := fun z : LatW W => (HXW.out.next z.bel).c1
        have b1 := fun z : LatW W => (HYW.out.next z.bel).c1
        have a2 := fun z : LatW W => (HXW.out.next z.bel).c2
        have b2 := fun z : LatW W => (HYW.out.next z.bel).c2
        refine wp_region_seq ?_
        dsimp only [List.append]
        repeat (go_big_quiet_step (first | (go_at_call 15; with_reducible exact HC1.out.at_ _)))
        refine wpQuiet_nil ?_
        intro w9 hw9
        obtain ⟨p9, hw9'⟩ := hw9
        subst hw9'
        go_wp2_with fail
        go_ret
        rw [HE.out]
        exact ⟨rfl, by first | exact HTo.out _ (below_next HBV.out p9.bel) | (have hz := HTo.out _ (below_next HBV.out p9.bel); rw [HH.out] at hz; exact hz)⟩
      by_cases t3 : a.seq = b.seq
      case neg =>
        have u3 : (a.seq == b.seq) = false := beq_eq_false_iff_ne.2 t3
        have HE : Hid (R = false) := Lib.hid (by rw [← HR.out]; simp [HSz.out, t0, t1, t2, t3])
        have a0 := fun z : LatW W => (HXW.out.next z.bel).c0
        have b0 := fun z : LatW W => (HYW.out.next z.bel).c0
        have a1 := fun z : LatW W => (HXW.out.next z.bel).c1
        have b1 := fun z : LatW W => (HYW.out.next z.bel).c1
        have a2 := fun z : LatW W => (HXW.out.next z.bel).c2
        have b2 := fun z : LatW W => (HYW.out.next z.bel).c2
        have a3 := fun z : LatW W => (HXW.out.next z.bel).c3
        have b3 := fun z : LatW W => (HYW.out.next z.bel).c3
        refine wp_region_seq ?_
        dsimp only [List.append]
        repeat (go_big_quiet_step (first | (go_at_call 15; with_reducible exact HC1.out.at_ _)))
        refine wpQuiet_nil ?_
        intro w9 hw9
        obtain ⟨p9, hw9'⟩ := hw9
        subst hw9'
        go_wp2_with fail
        go_ret
        rw [HE.out]
        exact ⟨rfl, by first | exact HTo.out _ (below_next HBV.out p9.bel) | (have hz := HTo.out _ (below_next HBV.out p9.bel); rw [HH.out] at hz; exact hz)⟩
      by_cases t4 : a.n = b.n
      case neg =>
        have u4 : (a.n == b.n) = false := beq_eq_false_iff_ne.2 t4
        have HE : Hid (R = false) := Lib.hid (by rw [← HR.out]; simp [HSz.out, t0, t1, t2, t3, t4])
        have a0 := fun z : LatW W => (HXW.out.next z.bel).c0
        have b0 := fun z : LatW W => (HYW.out.next z.bel).c0
        have a1 := fun z : LatW W => (HXW.out.next z.bel).c1
        have b1 := fun z : LatW W => (HYW.out.next z.bel).c1
        have a2 := fun z : LatW W => (HXW.out.next z.bel).c2
        have b2 := fun z : LatW W => (HYW.out.next z.bel).c2
        have a3 := fun z : LatW W => (HXW.out.next z.bel).c3
        have b3 := fun z : LatW W => (HYW.out.next z.bel).c3
        have a4 := fun z : LatW W => (HXW.out.next z.bel).c4
        have b4 := fun z : LatW W => (HYW.out.next z.bel).c4
        refine wp_region_seq ?_
        dsimp only [List.append]
        repeat (go_big_quiet_step (first | (go_at_call 15; with_reducible exact HC1.out.at_ _)))
        refine wpQuiet_nil ?_
        intro w9 hw9
        obtain ⟨p9, hw9'⟩ := hw9
        subst hw9'
        go_wp2_with fail
        go_ret
        rw [HE.out]
        exact ⟨rfl, by first | exact HTo.out _ (below_next HBV.out p9.bel) | (have hz := HTo.out _ (below_next HBV.out p9.bel); rw [HH.out] at hz; exact hz)⟩
      by_cases t5 : a.of_ = b.of_
      case neg =>
        have u5 : (a.of_ == b.of_) = false := beq_eq_false_iff_ne.2 t5
        have HE : Hid (R = false) := Lib.hid (by rw [← HR.out]; simp [HSz.out, t0, t1, t2, t3, t4, t5])
        have a0 := fun z : LatW W => (HXW.out.next z.bel).c0
        have b0 := fun z : LatW W => (HYW.out.next z.bel).c0
        have a1 := fun z : LatW W => (HXW.out.next z.bel).c1
        have b1 := fun z : LatW W => (HYW.out.next z.bel).c1
        have a2 := fun z : LatW W => (HXW.out.next z.bel).c2
        have b2 := fun z : LatW W => (HYW.out.next z.bel).c2
        have a3 := fun z : LatW W => (HXW.out.next z.bel).c3
        have b3 := fun z : LatW W => (HYW.out.next z.bel).c3
        have a4 := fun z : LatW W => (HXW.out.next z.bel).c4
        have b4 := fun z : LatW W => (HYW.out.next z.bel).c4
        have a5 := fun z : LatW W => (HXW.out.next z.bel).c5
        have b5 := fun z : LatW W => (HYW.out.next z.bel).c5
        refine wp_region_seq ?_
        dsimp only [List.append]
        repeat (go_big_quiet_step (first | (go_at_call 15; with_reducible exact HC1.out.at_ _)))
        refine wpQuiet_nil ?_
        intro w9 hw9
        obtain ⟨p9, hw9'⟩ := hw9
        subst hw9'
        go_wp2_with fail
        go_ret
        rw [HE.out]
        exact ⟨rfl, by first | exact HTo.out _ (below_next HBV.out p9.bel) | (have hz := HTo.out _ (below_next HBV.out p9.bel); rw [HH.out] at hz; exact hz)⟩
      by_cases t6 : a.full = b.full
      case neg =>
        have u6 : (a.full == b.full) = false := beq_eq_false_iff_ne.2 t6
        have HE : Hid (R = false) := Lib.hid (by rw [← HR.out]; simp [HSz.out, t0, t1, t2, t3, t4, t5, t6])
        have a0 := fun z : LatW W => (HXW.out.next z.bel).c0
        have b0 := fun z : LatW W => (HYW.out.next z.bel).c0
        have a1 := fun z : LatW W => (HXW.out.next z.bel).c1
        have b1 := fun z : LatW W => (HYW.out.next z.bel).c1
        have a2 := fun z : LatW W => (HXW.out.next z.bel).c2
        have b2 := fun z : LatW W => (HYW.out.next z.bel).c2
        have a3 := fun z : LatW W => (HXW.out.next z.bel).c3
        have b3 := fun z : LatW W => (HYW.out.next z.bel).c3
        have a4 := fun z : LatW W => (HXW.out.next z.bel).c4
        have b4 := fun z : LatW W => (HYW.out.next z.bel).c4
        have a5 := fun z : LatW W => (HXW.out.next z.bel).c5
        have b5 := fun z : LatW W => (HYW.out.next z.bel).c5
        have a6 := fun z : LatW W => (HXW.out.next z.bel).c6
        have b6 := fun z : LatW W => (HYW.out.next z.bel).c6
        refine wp_region_seq ?_
        dsimp only [List.append]
        repeat (go_big_quiet_step (first | (go_at_call 15; with_reducible exact HC1.out.at_ _)))
        refine wpQuiet_nil ?_
        intro w9 hw9
        obtain ⟨p9, hw9'⟩ := hw9
        subst hw9'
        go_wp2_with fail
        go_ret
        rw [HE.out]
        exact ⟨rfl, by first | exact HTo.out _ (below_next HBV.out p9.bel) | (have hz := HTo.out _ (below_next HBV.out p9.bel); rw [HH.out] at hz; exact hz)⟩
      by_cases t7 : eqBr a.anc b.anc = true
      case neg =>
        rw [Bool.not_eq_true] at t7
        have HE : Hid (R = false) := Lib.hid (by rw [← HR.out]; simp [HSz.out, t0, t1, t2, t3, t4, t5, t6, t7])
        have a0 := fun z : LatW W => (HXW.out.next z.bel).c0
        have b0 := fun z : LatW W => (HYW.out.next z.bel).c0
        have a1 := fun z : LatW W => (HXW.out.next z.bel).c1
        have b1 := fun z : LatW W => (HYW.out.next z.bel).c1
        have a2 := fun z : LatW W => (HXW.out.next z.bel).c2
        have b2 := fun z : LatW W => (HYW.out.next z.bel).c2
        have a3 := fun z : LatW W => (HXW.out.next z.bel).c3
        have b3 := fun z : LatW W => (HYW.out.next z.bel).c3
        have a4 := fun z : LatW W => (HXW.out.next z.bel).c4
        have b4 := fun z : LatW W => (HYW.out.next z.bel).c4
        have a5 := fun z : LatW W => (HXW.out.next z.bel).c5
        have b5 := fun z : LatW W => (HYW.out.next z.bel).c5
        have a6 := fun z : LatW W => (HXW.out.next z.bel).c6
        have b6 := fun z : LatW W => (HYW.out.next z.bel).c6
        have a7 := fun z : LatW W => (HXW.out.next z.bel).c7
        have b7 := fun z : LatW W => (HYW.out.next z.bel).c7
        refine wp_region_seq ?_
        dsimp only [List.append]
        repeat (go_big_quiet_step (first | (go_at_call 15; with_reducible exact HC1.out.at_ _) | (go_at_call 15; with_reducible exact HC2.out.at_ _)))
        refine wpQuiet_nil ?_
        intro w9 hw9
        obtain ⟨p9, hw9'⟩ := hw9
        subst hw9'
        go_wp2_with fail
        go_ret
        rw [HE.out]
        exact ⟨rfl, by first | exact HTo.out _ (below_next HBV.out p9.bel) | (have hz := HTo.out _ (below_next HBV.out p9.bel); rw [HH.out] at hz; exact hz)⟩
      by_cases t8 : a.ancS = b.ancS
      case neg =>
        have u8 : (a.ancS == b.ancS) = false := beq_eq_false_iff_ne.2 t8
        have HE : Hid (R = false) := Lib.hid (by rw [← HR.out]; simp [HSz.out, t0, t1, t2, t3, t4, t5, t6, t7, t8])
        have a0 := fun z : LatW W => (HXW.out.next z.bel).c0
        have b0 := fun z : LatW W => (HYW.out.next z.bel).c0
        have a1 := fun z : LatW W => (HXW.out.next z.bel).c1
        have b1 := fun z : LatW W => (HYW.out.next z.bel).c1
        have a2 := fun z : LatW W => (HXW.out.next z.bel).c2
        have b2 := fun z : LatW W => (HYW.out.next z.bel).c2
        have a3 := fun z : LatW W => (HXW.out.next z.bel).c3
        have b3 := fun z : LatW W => (HYW.out.next z.bel).c3
        have a4 := fun z : LatW W => (HXW.out.next z.bel).c4
        have b4 := fun z : LatW W => (HYW.out.next z.bel).c4
        have a5 := fun z : LatW W => (HXW.out.next z.bel).c5
        have b5 := fun z : LatW W => (HYW.out.next z.bel).c5
        have a6 := fun z : LatW W => (HXW.out.next z.bel).c6
        have b6 := fun z : LatW W => (HYW.out.next z.bel).c6
        have a7 := fun z : LatW W => (HXW.out.next z.bel).c7
        have b7 := fun z : LatW W => (HYW.out.next z.bel).c7
        have a8 := fun z : LatW W => (HXW.out.next z.bel).c8
        have b8 := fun z : LatW W => (HYW.out.next z.bel).c8
        refine wp_region_seq ?_
        dsimp only [List.append]
        repeat (go_big_quiet_step (first | (go_at_call 15; with_reducible exact HC1.out.at_ _) | (go_at_call 15; with_reducible exact HC2.out.at_ _)))
        refine wpQuiet_nil ?_
        intro w9 hw9
        obtain ⟨p9, hw9'⟩ := hw9
        subst hw9'
        go_wp2_with fail
        go_ret
        rw [HE.out]
        exact ⟨rfl, by first | exact HTo.out _ (below_next HBV.out p9.bel) | (have hz := HTo.out _ (below_next HBV.out p9.bel); rw [HH.out] at hz; exact hz)⟩
      by_cases t9 : eqBt a.bits b.bits = true
      case neg =>
        rw [Bool.not_eq_true] at t9
        have HE : Hid (R = false) := Lib.hid (by rw [← HR.out]; simp [HSz.out, t0, t1, t2, t3, t4, t5, t6, t7, t8, t9])
        have a0 := fun z : LatW W => (HXW.out.next z.bel).c0
        have b0 := fun z : LatW W => (HYW.out.next z.bel).c0
        have a1 := fun z : LatW W => (HXW.out.next z.bel).c1
        have b1 := fun z : LatW W => (HYW.out.next z.bel).c1
        have a2 := fun z : LatW W => (HXW.out.next z.bel).c2
        have b2 := fun z : LatW W => (HYW.out.next z.bel).c2
        have a3 := fun z : LatW W => (HXW.out.next z.bel).c3
        have b3 := fun z : LatW W => (HYW.out.next z.bel).c3
        have a4 := fun z : LatW W => (HXW.out.next z.bel).c4
        have b4 := fun z : LatW W => (HYW.out.next z.bel).c4
        have a5 := fun z : LatW W => (HXW.out.next z.bel).c5
        have b5 := fun z : LatW W => (HYW.out.next z.bel).c5
        have a6 := fun z : LatW W => (HXW.out.next z.bel).c6
        have b6 := fun z : LatW W => (HYW.out.next z.bel).c6
        have a7 := fun z : LatW W => (HXW.out.next z.bel).c7
        have b7 := fun z : LatW W => (HYW.out.next z.bel).c7
        have a8 := fun z : LatW W => (HXW.out.next z.bel).c8
        have b8 := fun z : LatW W => (HYW.out.next z.bel).c8
        have a9 := fun z : LatW W => (HXW.out.next z.bel).c9
        have b9 := fun z : LatW W => (HYW.out.next z.bel).c9
        refine wp_region_seq ?_
        dsimp only [List.append]
        repeat (go_big_quiet_step (first | (go_at_call 15; with_reducible exact HC1.out.at_ _) | (go_at_call 15; with_reducible exact HC2.out.at_ _) | (go_at_call 62; with_reducible exact HC3.out.at_ _)))
        refine wpQuiet_nil ?_
        intro w9 hw9
        obtain ⟨p9, hw9'⟩ := hw9
        subst hw9'
        go_wp2_with fail
        go_ret
        rw [HE.out]
        exact ⟨rfl, by first | exact HTo.out _ (below_next HBV.out p9.bel) | (have hz := HTo.out _ (below_next HBV.out p9.bel); rw [HH.out] at hz; exact hz)⟩
      by_cases t10 : a.from_ = b.from_
      case neg =>
        have u10 : (a.from_ == b.from_) = false := beq_eq_false_iff_ne.2 t10
        have HE : Hid (R = false) := Lib.hid (by rw [← HR.out]; simp [HSz.out, t0, t1, t2, t3, t4, t5, t6, t7, t8, t9, t10])
        have a0 := fun z : LatW W => (HXW.out.next z.bel).c0
        have b0 := fun z : LatW W => (HYW.out.next z.bel).c0
        have a1 := fun z : LatW W => (HXW.out.next z.bel).c1
        have b1 := fun z : LatW W => (HYW.out.next z.bel).c1
        have a2 := fun z : LatW W => (HXW.out.next z.bel).c2
        have b2 := fun z : LatW W => (HYW.out.next z.bel).c2
        have a3 := fun z : LatW W => (HXW.out.next z.bel).c3
        have b3 := fun z : LatW W => (HYW.out.next z.bel).c3
        have a4 := fun z : LatW W => (HXW.out.next z.bel).c4
        have b4 := fun z : LatW W => (HYW.out.next z.bel).c4
        have a5 := fun z : LatW W => (HXW.out.next z.bel).c5
        have b5 := fun z : LatW W => (HYW.out.next z.bel).c5
        have a6 := fun z : LatW W => (HXW.out.next z.bel).c6
        have b6 := fun z : LatW W => (HYW.out.next z.bel).c6
        have a7 := fun z : LatW W => (HXW.out.next z.bel).c7
        have b7 := fun z : LatW W => (HYW.out.next z.bel).c7
        have a8 := fun z : LatW W => (HXW.out.next z.bel).c8
        have b8 := fun z : LatW W => (HYW.out.next z.bel).c8
        have a9 := fun z : LatW W => (HXW.out.next z.bel).c9
        have b9 := fun z : LatW W => (HYW.out.next z.bel).c9
        have a11 := fun z : LatW W => (HXW.out.next z.bel).c11
        have b11 := fun z : LatW W => (HYW.out.next z.bel).c11
        refine wp_region_seq ?_
        dsimp only [List.append]
        repeat (go_big_quiet_step (first | (go_at_call 15; with_reducible exact HC1.out.at_ _) | (go_at_call 15; with_reducible exact HC2.out.at_ _) | (go_at_call 62; with_reducible exact HC3.out.at_ _)))
        refine wpQuiet_nil ?_
        intro w9 hw9
        obtain ⟨p9, hw9'⟩ := hw9
        subst hw9'
        go_wp2_with fail
        go_ret
        rw [HE.out]
        exact ⟨rfl, by first | exact HTo.out _ (below_next HBV.out p9.bel) | (have hz := HTo.out _ (below_next HBV.out p9.bel); rw [HH.out] at hz; exact hz)⟩
      by_cases t11 : a.to_ = b.to_
      case neg =>
        have u11 : (a.to_ == b.to_) = false := beq_eq_false_iff_ne.2 t11
        have HE : Hid (R = false) := Lib.hid (by rw [← HR.out]; simp [HSz.out, t0, t1, t2, t3, t4, t5, t6, t7, t8, t9, t10, t11])
        have a0 := fun z : LatW W => (HXW.out.next z.bel).c0
        have b0 := fun z : LatW W => (HYW.out.next z.bel).c0
        have a1 := fun z : LatW W => (HXW.out.next z.bel).c1
        have b1 := fun z : LatW W => (HYW.out.next z.bel).c1
        have a2 := fun z : LatW W => (HXW.out.next z.bel).c2
        have b2 := fun z : LatW W => (HYW.out.next z.bel).c2
        have a3 := fun z : LatW W => (HXW.out.next z.bel).c3
        have b3 := fun z : LatW W => (HYW.out.next z.bel).c3
        have a4 := fun z : LatW W => (HXW.out.next z.bel).c4
        have b4 := fun z : LatW W => (HYW.out.next z.bel).c4
        have a5 := fun z : LatW W => (HXW.out.next z.bel).c5
        have b5 := fun z : LatW W => (HYW.out.next z.bel).c5
        have a6 := fun z : LatW W => (HXW.out.next z.bel).c6
        have b6 := fun z : LatW W => (HYW.out.next z.bel).c6
        have a7 := fun z : LatW W => (HXW.out.next z.bel).c7
        have b7 := fun z : LatW W => (HYW.out.next z.bel).c7
        have a8 := fun z : LatW W => (HXW.out.next z.bel).c8
        have b8 := fun z : LatW W => (HYW.out.next z.bel).c8
        have a9 := fun z : LatW W => (HXW.out.next z.bel).c9
        have b9 := fun z : LatW W => (HYW.out.next z.bel).c9
        have a11 := fun z : LatW W => (HXW.out.next z.bel).c11
        have b11 := fun z : LatW W => (HYW.out.next z.bel).c11
        have a12 := fun z : LatW W => (HXW.out.next z.bel).c12
        have b12 := fun z : LatW W => (HYW.out.next z.bel).c12
        refine wp_region_seq ?_
        dsimp only [List.append]
        repeat (go_big_quiet_step (first | (go_at_call 15; with_reducible exact HC1.out.at_ _) | (go_at_call 15; with_reducible exact HC2.out.at_ _) | (go_at_call 62; with_reducible exact HC3.out.at_ _)))
        refine wpQuiet_nil ?_
        intro w9 hw9
        obtain ⟨p9, hw9'⟩ := hw9
        subst hw9'
        go_wp2_with fail
        go_ret
        rw [HE.out]
        exact ⟨rfl, by first | exact HTo.out _ (below_next HBV.out p9.bel) | (have hz := HTo.out _ (below_next HBV.out p9.bel); rw [HH.out] at hz; exact hz)⟩
      by_cases t12 : eqW a.ws b.ws = true
      case neg =>
        rw [Bool.not_eq_true] at t12
        have HE : Hid (R = false) := Lib.hid (by rw [← HR.out]; simp [HSz.out, t0, t1, t2, t3, t4, t5, t6, t7, t8, t9, t10, t11, t12])
        have a0 := fun z : LatW W => (HXW.out.next z.bel).c0
        have b0 := fun z : LatW W => (HYW.out.next z.bel).c0
        have a1 := fun z : LatW W => (HXW.out.next z.bel).c1
        have b1 := fun z : LatW W => (HYW.out.next z.bel).c1
        have a2 := fun z : LatW W => (HXW.out.next z.bel).c2
        have b2 := fun z : LatW W => (HYW.out.next z.bel).c2
        have a3 := fun z : LatW W => (HXW.out.next z.bel).c3
        have b3 := fun z : LatW W => (HYW.out.next z.bel).c3
        have a4 := fun z : LatW W => (HXW.out.next z.bel).c4
        have b4 := fun z : LatW W => (HYW.out.next z.bel).c4
        have a5 := fun z : LatW W => (HXW.out.next z.bel).c5
        have b5 := fun z : LatW W => (HYW.out.next z.bel).c5
        have a6 := fun z : LatW W => (HXW.out.next z.bel).c6
        have b6 := fun z : LatW W => (HYW.out.next z.bel).c6
        have a7 := fun z : LatW W => (HXW.out.next z.bel).c7
        have b7 := fun z : LatW W => (HYW.out.next z.bel).c7
        have a8 := fun z : LatW W => (HXW.out.next z.bel).c8
        have b8 := fun z : LatW W => (HYW.out.next z.bel).c8
        have a9 := fun z : LatW W => (HXW.out.next z.bel).c9
        have b9 := fun z : LatW W => (HYW.out.next z.bel).c9
        have a11 := fun z : LatW W => (HXW.out.next z.bel).c11
        have b11 := fun z : LatW W => (HYW.out.next z.bel).c11
        have a12 := fun z : LatW W => (HXW.out.next z.bel).c12
        have b12 := fun z : LatW W => (HYW.out.next z.bel).c12
        have a13 := fun z : LatW W => (HXW.out.next z.bel).c13
        have b13 := fun z : LatW W => (HYW.out.next z.bel).c13
        refine wp_region_seq ?_
        dsimp only [List.append]
        repeat (go_big_quiet_step (first | (go_at_call 15; with_reducible exact HC1.out.at_ _) | (go_at_call 15; with_reducible exact HC2.out.at_ _) | (go_at_call 62; with_reducible exact HC3.out.at_ _) | (go_at_call 21; with_reducible exact HC4.out.at_ _)))
        refine wpQuiet_nil ?_
        intro w9 hw9
        obtain ⟨p9, hw9'⟩ := hw9
        subst hw9'
        go_wp2_with fail
        go_ret
        rw [HE.out]
        exact ⟨rfl, by first | exact HTo.out _ (below_next HBV.out p9.bel) | (have hz := HTo.out _ (below_next HBV.out p9.bel); rw [HH.out] at hz; exact hz)⟩
      have HE : Hid (R = true) := Lib.hid (by rw [← HR.out]; simp [HSz.out, t0, t1, t2, t3, t4, t5, t6, t7, t8, t9, t10, t11, t12])
      have a0 := fun z : LatW W => (HXW.out.next z.bel).c0
      have b0 := fun z : LatW W => (HYW.out.next z.bel).c0
      have a1 := fun z : LatW W => (HXW.out.next z.bel).c1
      have b1 := fun z : LatW W => (HYW.out.next z.bel).c1
      have a2 := fun z : LatW W => (HXW.out.next z.bel).c2
      have b2 := fun z : LatW W => (HYW.out.next z.bel).c2
      have a3 := fun z : LatW W => (HXW.out.next z.bel).c3
      have b3 := fun z : LatW W => (HYW.out.next z.bel).c3
      have a4 := fun z : LatW W => (HXW.out.next z.bel).c4
      have b4 := fun z : LatW W => (HYW.out.next z.bel).c4
      have a5 := fun z : LatW W => (HXW.out.next z.bel).c5
      have b5 := fun z : LatW W => (HYW.out.next z.bel).c5
      have a6 := fun z : LatW W => (HXW.out.next z.bel).c6
      have b6 := fun z : LatW W => (HYW.out.next z.bel).c6
      have a7 := fun z : LatW W => (HXW.out.next z.bel).c7
      have b7 := fun z : LatW W => (HYW.out.next z.bel).c7
      have a8 := fun z : LatW W => (HXW.out.next z.bel).c8
      have b8 := fun z : LatW W => (HYW.out.next z.bel).c8
      have a9 := fun z : LatW W => (HXW.out.next z.bel).c9
      have b9 := fun z : LatW W => (HYW.out.next z.bel).c9
      have a11 := fun z : LatW W => (HXW.out.next z.bel).c11
      have b11 := fun z : LatW W => (HYW.out.next z.bel).c11
      have a12 := fun z : LatW W => (HXW.out.next z.bel).c12
      have b12 := fun z : LatW W => (HYW.out.next z.bel).c12
      have a13 := fun z : LatW W => (HXW.out.next z.bel).c13
      have b13 := fun z : LatW W => (HYW.out.next z.bel).c13
      refine wp_region_seq ?_
      dsimp only [List.append]
      repeat (go_big_quiet_step (first | (go_at_call 15; with_reducible exact HC1.out.at_ _) | (go_at_call 15; with_reducible exact HC2.out.at_ _) | (go_at_call 62; with_reducible exact HC3.out.at_ _) | (go_at_call 21; with_reducible exact HC4.out.at_ _)))
      refine wpQuiet_nil ?_
      intro w9 hw9
      obtain ⟨p9, hw9'⟩ := hw9
      subst hw9'
      go_wp2_with fail
      go_ret
      rw [HE.out]
      exact ⟨rfl, by first | exact HTo.out _ (below_next HBV.out p9.bel) | (have hz := HTo.out _ (below_next HBV.out p9.bel); rw [HH.out] at hz; exact hz)⟩
end Go.Proofs.Ytkpoeigoocbgeaa
