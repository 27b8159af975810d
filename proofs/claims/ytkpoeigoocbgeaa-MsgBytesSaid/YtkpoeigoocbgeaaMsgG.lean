/- Messages in memory; contracts of the document's none, Small and Right. -/
import Derived.Test.YtkpoeigoocbgeaaMsgF
import Derived.Test.YtkpoeigoocbgeaaMsDir
import Derived.Test.YtkpoeigoocbgeaaLatSeq
namespace Go.Proofs.Ytkpoeigoocbgeaa
open Go.RowKit

/-- Where a message's rows lie. -/
structure MgM where
  lA : Option Addr
  lC : Nat
  aA : Option Addr
  aC : Nat
  bA : Option Addr
  bC : Nat
  sA : Option Addr
  sC : Nat
  wA : Option Addr
  wC : Nat
def Mg.cells (m : Mg) (x : MgM) : Array Value :=
  #[.int .i64 m.kind, .int .i64 m.epoch, .slice x.lA m.line.length x.lC, .int .i64 m.seq, .int .i64 m.n, .int .i64 m.of_, .bool m.full, .slice x.aA m.anc.length x.aC, .int .i64 m.ancS, .slice x.bA m.bits.length x.bC, .slice x.sA m.sizes.length x.sC, .int .i64 m.from_, .int .i64 m.to_, .slice x.wA m.ws.length x.wC]
def Mg.val (m : Mg) (x : MgM) : Value := .agg (m.cells x)
structure MgAt (w : World) (m : Mg) (x : MgM) : Prop where
  line : BrsAt w w.heap.size x.lA m.line
  anc : BrsAt w w.heap.size x.aA m.anc
  bits : BtsAt w w.heap.size x.bA m.bits
  sizes : Lies w w.heap.size x.sA (m.sizes.map (Value.int .i64))
  ws : WrsAt w w.heap.size x.wA m.ws
/-- Lists no longer than a machine's. -/
structure MgFit (m : Mg) : Prop where
  line : m.line.length ≤ 9223372036854775807
  anc : m.anc.length ≤ 9223372036854775807
  bits : BtsFit m.bits
  sizes : m.sizes.length ≤ 9223372036854775807
  ws : m.ws.length ≤ 9223372036854775807
theorem MgAt.next {w w' : World} {m : Mg} {x : MgM} (h : MgAt w m x) (hb : Below w.heap.size w w') : MgAt w' m x :=
  ⟨h.line.next hb, h.anc.next hb, h.bits.next hb, h.sizes.next hb, h.ws.next hb⟩

theorem noneB_iff (l : List Br) (s : Int) : noneB l s = true ↔ l.length = 0 ∧ s = 0 := by
  unfold noneB
  rw [Bool.and_eq_true, decide_eq_true_iff, List.isEmpty_iff, List.length_eq_zero_iff]
theorem none17_any {w : World} {A : Option Addr} {c : Nat} (l : List Br) (s : Int) :
    Calls Try.prog 48 #[.agg #[.slice A l.length c, .int .i64 s]] w fun e w' => e = .returned (.bool (noneB l s)) ∧ Below w.heap.size w w' := by
  have hb := below_one w (.cells #[.slice A l.length c, .int .i64 s] 46)
  have HB := Lib.hid hb
  obtain ⟨n, hn⟩ : ∃ n, l.length = n := ⟨_, rfl⟩
  have hni := noneB_iff l s
  rw [hn] at hni HB ⊢
  obtain ⟨b, hbb⟩ : ∃ b, noneB l s = b := ⟨_, rfl⟩
  rw [hbb] at hni ⊢
  have HI := Lib.hid hni
  clear hb hn hbb hni
  by_cases h0 : n = 0
  · subst h0
    by_cases h1 : s = 0
    · subst h1
      have HE : Hid (b = true) := Lib.hid (HI.out.2 ⟨rfl, rfl⟩)
      go_enter Try.func48, Try.ntmps48
      go_wp2
      go_ret
      rw [HE.out]
      exact ⟨rfl, HB.out⟩
    · have HE : Hid (b = false) := Lib.hid (by cases b with | false => rfl | true => exact absurd (HI.out.1 rfl).2 h1)
      have h2 : (s == 0) = false := beq_eq_false_iff_ne.2 h1
      go_enter Try.func48, Try.ntmps48
      go_wp2
      go_ret
      rw [HE.out]
      exact ⟨rfl, HB.out⟩
  · have HE : Hid (b = false) := Lib.hid (by cases b with | false => rfl | true => exact absurd (HI.out.1 rfl).1 h0)
    have h2 : ((n : Int) == 0) = false := beq_eq_false_iff_ne.2 (by omega)
    have h3 : ¬ (n : Int) = 0 := by omega
    go_enter Try.func48, Try.ntmps48
    go_wp2
    go_ret
    rw [HE.out]
    exact ⟨rfl, HB.out⟩

/-- A message's box. -/
structure BoxMg (W : World) (H : Nat) (m : Mg) (x : MgM) : Prop where
  c0 : W.cell? ⟨H, 0, none⟩ = some (.int .i64 m.kind)
  c1 : W.cell? ⟨H, 1, none⟩ = some (.int .i64 m.epoch)
  c2 : W.cell? ⟨H, 2, none⟩ = some (.slice x.lA m.line.length x.lC)
  c3 : W.cell? ⟨H, 3, none⟩ = some (.int .i64 m.seq)
  c4 : W.cell? ⟨H, 4, none⟩ = some (.int .i64 m.n)
  c5 : W.cell? ⟨H, 5, none⟩ = some (.int .i64 m.of_)
  c6 : W.cell? ⟨H, 6, none⟩ = some (.bool m.full)
  c7 : W.cell? ⟨H, 7, none⟩ = some (.slice x.aA m.anc.length x.aC)
  c8 : W.cell? ⟨H, 8, none⟩ = some (.int .i64 m.ancS)
  c9 : W.cell? ⟨H, 9, none⟩ = some (.slice x.bA m.bits.length x.bC)
  c10 : W.cell? ⟨H, 10, none⟩ = some (.slice x.sA m.sizes.length x.sC)
  c11 : W.cell? ⟨H, 11, none⟩ = some (.int .i64 m.from_)
  c12 : W.cell? ⟨H, 12, none⟩ = some (.int .i64 m.to_)
  c13 : W.cell? ⟨H, 13, none⟩ = some (.slice x.wA m.ws.length x.wC)
theorem BoxMg.of {W : World} {H : Nat} {m : Mg} {x : MgM} {t : TypeId} (h : W.heap[H]? = some (.cells (m.cells x) t (0, 0))) : BoxMg W H m x :=
  have hc := Lib.cell_of_heap h
  ⟨hc 0, hc 1, hc 2, hc 3, hc 4, hc 5, hc 6, hc 7, hc 8, hc 9, hc 10, hc 11, hc 12, hc 13⟩
theorem BoxMg.next {W W' : World} {H : Nat} {m : Mg} {x : MgM} (h : BoxMg W H m x) (hb : Below W.heap.size W W') : BoxMg W' H m x :=
  have k : ∀ {o : Nat} {v : Value}, W.cell? ⟨H, o, none⟩ = some v → W'.cell? ⟨H, o, none⟩ = some v := fun {o _} e => (hb.cell (p := ⟨H, o, none⟩) (World.block_lt_of_cell? _ _ e)).trans e
  ⟨k h.c0, k h.c1, k h.c2, k h.c3, k h.c4, k h.c5, k h.c6, k h.c7, k h.c8, k h.c9, k h.c10, k h.c11, k h.c12, k h.c13⟩

/-- A message that is valid, as a test. -/
noncomputable def mgOkB (m : Mg) : Bool :=
  decide (0 < m.kind) && (decide (m.kind < 10) && (fitB m.epoch && (fitB m.seq && (fitB m.n && (fitB m.of_ && (fitB m.from_ && (fitB m.to_ && (decide (m.from_ ≤ m.to_) && (lined m.line && ((noneB m.anc m.ancS || placedB m.anc m.ancS) && (bitsOk m.bits && (blankOk m.sizes && writable m.ws))))))))))))
theorem mgOkB_iff {m : Mg} (h : BtsFit m.bits) : mgOkB m = true ↔ MgOk m := by
  unfold mgOkB
  simp only [Bool.and_eq_true, decide_eq_true_eq]
  constructor
  · rintro ⟨h0, h1, h2, h3, h4, h5, h6, h7, h8, h9, h10, h11, h12, h13⟩
    exact ⟨⟨h0, h1⟩, h2, h3, h4, h5, h6, h7, h8, h9, h10, ⟨h11, fun b hb => (h.2 b hb).1⟩, h12, (writable_iff _).1 h13⟩
  · intro k
    exact ⟨k.kind.1, k.kind.2, k.epoch, k.seq, k.n, k.of_, k.from_, k.to_, k.le, k.line, k.anc, k.bits.1, k.sizes, (writable_iff _).2 k.ws⟩

set_option maxHeartbeats 8000000 in
set_option maxRecDepth 100000 in
theorem right17_any {w : World} (m : Mg) (x : MgM) (h : MgAt w m x) (hf : MgFit m) :
    Calls Try.prog 24 #[m.val x] w fun e w' => e = .returned (.bool (mgOkB m)) ∧ Below w.heap.size w w' := by
  obtain ⟨V, hV⟩ : ∃ V, V = w.alloc (.cells (m.cells x) 52) := ⟨_, rfl⟩
  have hb0 : Below w.heap.size w V := by rw [hV]; exact below_one _ _
  have HX := Lib.hid (show BoxMg V w.heap.size m x from BoxMg.of (by rw [hV]; exact heap_new _ _))
  have HB0 := Lib.hid hb0
  have HM := Lib.hid (h.next hb0)
  have HF := Lib.hid hf
  have HV := Lib.hid hV
  have HBl := Lib.hid (RefBlank_any (c := x.sC) HM.out.sizes hf.sizes)
  obtain ⟨R, hR⟩ : ∃ R, mgOkB m = R := ⟨_, rfl⟩
  rw [hR]
  have HR := Lib.hid hR
  unfold mgOkB at HR
  unfold RefBlankEnd at HBl
  unfold Mg.cells at HV
  clear h hf hb0 hV hR
  unfold Mg.val Mg.cells
  have e10 := HX.out.c10
  go_enter Try.func24, Try.ntmps24
  go_upto_region 1 with fail
  rw [← HV.out]
  go_upto_region 2 with (go_at_call 46; (with_reducible refine HBl.out.mono ?_); rintro e W ⟨A1, n1, c1, rfl, _, hb1⟩; have HBW := Lib.hid hb1; clear hb1)
  have HXW := Lib.hid (HX.out.next HBW.out)
  have HMW := Lib.hid (HM.out.next HBW.out)
  have HTo := Lib.hid (below_next HB0.out HBW.out)
  have LF := Lib.hid (fun n => show LatCalls Try.prog W 47 #[.int .i64 n] (.bool (fitB n)) from LatCalls.of fun z => (fits17_any n z.wd).mono (fun e w' ⟨h1, h2⟩ => ⟨h1, by subst h2; exact Below.refl _ _⟩))
  have LL := Lib.hid (show LatCalls Try.prog W 11 #[.slice x.lA m.line.length x.lC] (.bool (lined m.line)) from LatCalls.of fun z => lined17_any (HMW.out.line.next z.bel) HF.out.line)
  have LN := Lib.hid (show LatCalls Try.prog W 48 #[.agg #[.slice x.aA m.anc.length x.aC, .int .i64 m.ancS]] (.bool (noneB m.anc m.ancS)) from LatCalls.of fun z => none17_any m.anc m.ancS)
  have LP := Lib.hid (show LatCalls Try.prog W 49 #[.agg #[.slice x.aA m.anc.length x.aC, .int .i64 m.ancS]] (.bool (placedB m.anc m.ancS)) from LatCalls.of fun z => DPlaced_any (q := m.ancS) (HMW.out.anc.next z.bel) HF.out.anc)
  have LB := Lib.hid (show LatCalls Try.prog W 50 #[.slice x.bA m.bits.length x.bC] (.bool (bitsOk m.bits)) from LatCalls.of fun z => DbRight_any (HMW.out.bits.next z.bel) HF.out.bits.1)
  have LW := Lib.hid (show LatCalls Try.prog W 17 #[.slice x.wA m.ws.length x.wC] (.bool (writable m.ws)) from LatCalls.of fun z => writable17_any (HMW.out.ws.next z.bel) HF.out.ws)
  clear e10 HBl HX HM
  by_cases t0 : 0 < m.kind
  case neg =>
    have HE : Hid (R = false) := Lib.hid (by rw [← HR.out]; simp [t0])
    have a0 := fun z : LatW W => (HXW.out.next z.bel).c0
    refine wp_region_seq ?_
    (try dsimp only [List.append])
    repeat (go_big_quiet_step (fail))
    refine wpQuiet_nil ?_
    intro w9 hw9
    obtain ⟨p9, hw9'⟩ := hw9
    subst hw9'
    go_wp2_with fail
    go_ret
    rw [HE.out]
    exact ⟨rfl, below_next HTo.out p9.bel⟩
  by_cases t1 : m.kind < 10
  case neg =>
    have HE : Hid (R = false) := Lib.hid (by rw [← HR.out]; simp [t0, t1])
    have a0 := fun z : LatW W => (HXW.out.next z.bel).c0
    refine wp_region_seq ?_
    (try dsimp only [List.append])
    repeat (go_big_quiet_step (fail))
    refine wpQuiet_nil ?_
    intro w9 hw9
    obtain ⟨p9, hw9'⟩ := hw9
    subst hw9'
    go_wp2_with fail
    go_ret
    rw [HE.out]
    exact ⟨rfl, below_next HTo.out p9.bel⟩
  by_cases t2 : fitB m.epoch = true
  case neg =>
    rw [Bool.not_eq_true] at t2
    have HE : Hid (R = false) := Lib.hid (by rw [← HR.out]; simp [t0, t1, t2])
    have a0 := fun z : LatW W => (HXW.out.next z.bel).c0
    have a1 := fun z : LatW W => (HXW.out.next z.bel).c1
    refine wp_region_seq ?_
    (try dsimp only [List.append])
    repeat (go_big_quiet_step (first | (go_at_call 47; with_reducible exact (LF.out _).at_ _)))
    refine wpQuiet_nil ?_
    intro w9 hw9
    obtain ⟨p9, hw9'⟩ := hw9
    subst hw9'
    go_wp2_with fail
    go_ret
    rw [HE.out]
    exact ⟨rfl, below_next HTo.out p9.bel⟩
  by_cases t3 : fitB m.seq = true
  case neg =>
    rw [Bool.not_eq_true] at t3
    have HE : Hid (R = false) := Lib.hid (by rw [← HR.out]; simp [t0, t1, t2, t3])
    have a0 := fun z : LatW W => (HXW.out.next z.bel).c0
    have a1 := fun z : LatW W => (HXW.out.next z.bel).c1
    have a3 := fun z : LatW W => (HXW.out.next z.bel).c3
    refine wp_region_seq ?_
    (try dsimp only [List.append])
    repeat (go_big_quiet_step (first | (go_at_call 47; with_reducible exact (LF.out _).at_ _)))
    refine wpQuiet_nil ?_
    intro w9 hw9
    obtain ⟨p9, hw9'⟩ := hw9
    subst hw9'
    go_wp2_with fail
    go_ret
    rw [HE.out]
    exact ⟨rfl, below_next HTo.out p9.bel⟩
  by_cases t4 : fitB m.n = true
  case neg =>
    rw [Bool.not_eq_true] at t4
    have HE : Hid (R = false) := Lib.hid (by rw [← HR.out]; simp [t0, t1, t2, t3, t4])
    have a0 := fun z : LatW W => (HXW.out.next z.bel).c0
    have a1 := fun z : LatW W => (HXW.out.next z.bel).c1
    have a3 := fun z : LatW W => (HXW.out.next z.bel).c3
    have a4 := fun z : LatW W => (HXW.out.next z.bel).c4
    refine wp_region_seq ?_
    (try dsimp only [List.append])
    repeat (go_big_quiet_step (first | (go_at_call 47; with_reducible exact (LF.out _).at_ _)))
    refine wpQuiet_nil ?_
    intro w9 hw9
    obtain ⟨p9, hw9'⟩ := hw9
    subst hw9'
    go_wp2_with fail
    go_ret
    rw [HE.out]
    exact ⟨rfl, below_next HTo.out p9.bel⟩
  by_cases t5 : fitB m.of_ = true
  case neg =>
    rw [Bool.not_eq_true] at t5
    have HE : Hid (R = false) := Lib.hid (by rw [← HR.out]; simp [t0, t1, t2, t3, t4, t5])
    have a0 := fun z : LatW W => (HXW.out.next z.bel).c0
    have a1 := fun z : LatW W => (HXW.out.next z.bel).c1
    have a3 := fun z : LatW W => (HXW.out.next z.bel).c3
    have a4 := fun z : LatW W => (HXW.out.next z.bel).c4
    have a5 := fun z : LatW W => (HXW.out.next z.bel).c5
    refine wp_region_seq ?_
    (try dsimp only [List.append])
    repeat (go_big_quiet_step (first | (go_at_call 47; with_reducible exact (LF.out _).at_ _)))
    refine wpQuiet_nil ?_
    intro w9 hw9
    obtain ⟨p9, hw9'⟩ := hw9
    subst hw9'
    go_wp2_with fail
    go_ret
    rw [HE.out]
    exact ⟨rfl, below_next HTo.out p9.bel⟩
  by_cases t6 : fitB m.from_ = true
  case neg =>
    rw [Bool.not_eq_true] at t6
    have HE : Hid (R = false) := Lib.hid (by rw [← HR.out]; simp [t0, t1, t2, t3, t4, t5, t6])
    have a0 := fun z : LatW W => (HXW.out.next z.bel).c0
    have a1 := fun z : LatW W => (HXW.out.next z.bel).c1
    have a3 := fun z : LatW W => (HXW.out.next z.bel).c3
    have a4 := fun z : LatW W => (HXW.out.next z.bel).c4
    have a5 := fun z : LatW W => (HXW.out.next z.bel).c5
    have a11 := fun z : LatW W => (HXW.out.next z.bel).c11
    refine wp_region_seq ?_
    (try dsimp only [List.append])
    repeat (go_big_quiet_step (first | (go_at_call 47; with_reducible exact (LF.out _).at_ _)))
    refine wpQuiet_nil ?_
    intro w9 hw9
    obtain ⟨p9, hw9'⟩ := hw9
    subst hw9'
    go_wp2_with fail
    go_ret
    rw [HE.out]
    exact ⟨rfl, below_next HTo.out p9.bel⟩
  by_cases t7 : fitB m.to_ = true
  case neg =>
    rw [Bool.not_eq_true] at t7
    have HE : Hid (R = false) := Lib.hid (by rw [← HR.out]; simp [t0, t1, t2, t3, t4, t5, t6, t7])
    have a0 := fun z : LatW W => (HXW.out.next z.bel).c0
    have a1 := fun z : LatW W => (HXW.out.next z.bel).c1
    have a3 := fun z : LatW W => (HXW.out.next z.bel).c3
    have a4 := fun z : LatW W => (HXW.out.next z.bel).c4
    have a5 := fun z : LatW W => (HXW.out.next z.bel).c5
    have a11 := fun z : LatW W => (HXW.out.next z.bel).c11
    have a12 := fun z : LatW W => (HXW.out.next z.bel).c12
    refine wp_region_seq ?_
    (try dsimp only [List.append])
    repeat (go_big_quiet_step (first | (go_at_call 47; with_reducible exact (LF.out _).at_ _)))
    refine wpQuiet_nil ?_
    intro w9 hw9
    obtain ⟨p9, hw9'⟩ := hw9
    subst hw9'
    go_wp2_with fail
    go_ret
    rw [HE.out]
    exact ⟨rfl, below_next HTo.out p9.bel⟩
  by_cases t8 : m.from_ ≤ m.to_
  case neg =>
    have HE : Hid (R = false) := Lib.hid (by rw [← HR.out]; simp [t0, t1, t2, t3, t4, t5, t6, t7, t8])
    have a0 := fun z : LatW W => (HXW.out.next z.bel).c0
    have a1 := fun z : LatW W => (HXW.out.next z.bel).c1
    have a3 := fun z : LatW W => (HXW.out.next z.bel).c3
    have a4 := fun z : LatW W => (HXW.out.next z.bel).c4
    have a5 := fun z : LatW W => (HXW.out.next z.bel).c5
    have a11 := fun z : LatW W => (HXW.out.next z.bel).c11
    have a12 := fun z : LatW W => (HXW.out.next z.bel).c12
    refine wp_region_seq ?_
    (try dsimp only [List.append])
    repeat (go_big_quiet_step (first | (go_at_call 47; with_reducible exact (LF.out _).at_ _)))
    refine wpQuiet_nil ?_
    intro w9 hw9
    obtain ⟨p9, hw9'⟩ := hw9
    subst hw9'
    go_wp2_with fail
    go_ret
    rw [HE.out]
    exact ⟨rfl, below_next HTo.out p9.bel⟩
  by_cases t9 : lined m.line = true
  case neg =>
    rw [Bool.not_eq_true] at t9
    have HE : Hid (R = false) := Lib.hid (by rw [← HR.out]; simp [t0, t1, t2, t3, t4, t5, t6, t7, t8, t9])
    have a0 := fun z : LatW W => (HXW.out.next z.bel).c0
    have a1 := fun z : LatW W => (HXW.out.next z.bel).c1
    have a2 := fun z : LatW W => (HXW.out.next z.bel).c2
    have a3 := fun z : LatW W => (HXW.out.next z.bel).c3
    have a4 := fun z : LatW W => (HXW.out.next z.bel).c4
    have a5 := fun z : LatW W => (HXW.out.next z.bel).c5
    have a11 := fun z : LatW W => (HXW.out.next z.bel).c11
    have a12 := fun z : LatW W => (HXW.out.next z.bel).c12
    refine wp_region_seq ?_
    (try dsimp only [List.append])
    repeat (go_big_quiet_step (first | (go_at_call 47; with_reducible exact (LF.out _).at_ _) | (go_at_call 11; with_reducible exact LL.out.at_ _)))
    refine wpQuiet_nil ?_
    intro w9 hw9
    obtain ⟨p9, hw9'⟩ := hw9
    subst hw9'
    go_wp2_with fail
    go_ret
    rw [HE.out]
    exact ⟨rfl, below_next HTo.out p9.bel⟩
  by_cases tn : noneB m.anc m.ancS = true
  case pos =>
    rw [tn] at LN
    by_cases t11 : bitsOk m.bits = true
    case neg =>
      rw [Bool.not_eq_true] at t11
      have HE : Hid (R = false) := Lib.hid (by rw [← HR.out]; simp [t0, t1, t2, t3, t4, t5, t6, t7, t8, t9, tn, t11])
      have a0 := fun z : LatW W => (HXW.out.next z.bel).c0
      have a1 := fun z : LatW W => (HXW.out.next z.bel).c1
      have a2 := fun z : LatW W => (HXW.out.next z.bel).c2
      have a3 := fun z : LatW W => (HXW.out.next z.bel).c3
      have a4 := fun z : LatW W => (HXW.out.next z.bel).c4
      have a5 := fun z : LatW W => (HXW.out.next z.bel).c5
      have a7 := fun z : LatW W => (HXW.out.next z.bel).c7
      have a8 := fun z : LatW W => (HXW.out.next z.bel).c8
      have a9 := fun z : LatW W => (HXW.out.next z.bel).c9
      have a11 := fun z : LatW W => (HXW.out.next z.bel).c11
      have a12 := fun z : LatW W => (HXW.out.next z.bel).c12
      refine wp_region_seq ?_
      (try dsimp only [List.append])
      repeat (go_big_quiet_step (first | (go_at_call 47; with_reducible exact (LF.out _).at_ _) | (go_at_call 11; with_reducible exact LL.out.at_ _) | (go_at_call 48; with_reducible exact LN.out.at_ _) | (go_at_call 50; with_reducible exact LB.out.at_ _)))
      refine wpQuiet_nil ?_
      intro w9 hw9
      obtain ⟨p9, hw9'⟩ := hw9
      subst hw9'
      go_wp2_with fail
      go_ret
      rw [HE.out]
      exact ⟨rfl, below_next HTo.out p9.bel⟩
    by_cases t12 : blankOk m.sizes = true
    case neg =>
      rw [Bool.not_eq_true] at t12
      have HE : Hid (R = false) := Lib.hid (by rw [← HR.out]; simp [t0, t1, t2, t3, t4, t5, t6, t7, t8, t9, tn, t11, t12])
      have a0 := fun z : LatW W => (HXW.out.next z.bel).c0
      have a1 := fun z : LatW W => (HXW.out.next z.bel).c1
      have a2 := fun z : LatW W => (HXW.out.next z.bel).c2
      have a3 := fun z : LatW W => (HXW.out.next z.bel).c3
      have a4 := fun z : LatW W => (HXW.out.next z.bel).c4
      have a5 := fun z : LatW W => (HXW.out.next z.bel).c5
      have a7 := fun z : LatW W => (HXW.out.next z.bel).c7
      have a8 := fun z : LatW W => (HXW.out.next z.bel).c8
      have a9 := fun z : LatW W => (HXW.out.next z.bel).c9
      have a11 := fun z : LatW W => (HXW.out.next z.bel).c11
      have a12 := fun z : LatW W => (HXW.out.next z.bel).c12
      refine wp_region_seq ?_
      (try dsimp only [List.append])
      repeat (go_big_quiet_step (first | (go_at_call 47; with_reducible exact (LF.out _).at_ _) | (go_at_call 11; with_reducible exact LL.out.at_ _) | (go_at_call 48; with_reducible exact LN.out.at_ _) | (go_at_call 50; with_reducible exact LB.out.at_ _)))
      refine wpQuiet_nil ?_
      intro w9 hw9
      obtain ⟨p9, hw9'⟩ := hw9
      subst hw9'
      go_wp2_with fail
      go_ret
      rw [HE.out]
      exact ⟨rfl, below_next HTo.out p9.bel⟩
    by_cases t13 : writable m.ws = true
    case neg =>
      rw [Bool.not_eq_true] at t13
      have HE : Hid (R = false) := Lib.hid (by rw [← HR.out]; simp [t0, t1, t2, t3, t4, t5, t6, t7, t8, t9, tn, t11, t12, t13])
      have a0 := fun z : LatW W => (HXW.out.next z.bel).c0
      have a1 := fun z : LatW W => (HXW.out.next z.bel).c1
      have a2 := fun z : LatW W => (HXW.out.next z.bel).c2
      have a3 := fun z : LatW W => (HXW.out.next z.bel).c3
      have a4 := fun z : LatW W => (HXW.out.next z.bel).c4
      have a5 := fun z : LatW W => (HXW.out.next z.bel).c5
      have a7 := fun z : LatW W => (HXW.out.next z.bel).c7
      have a8 := fun z : LatW W => (HXW.out.next z.bel).c8
      have a9 := fun z : LatW W => (HXW.out.next z.bel).c9
      have a11 := fun z : LatW W => (HXW.out.next z.bel).c11
      have a12 := fun z : LatW W => (HXW.out.next z.bel).c12
      have a13 := fun z : LatW W => (HXW.out.next z.bel).c13
      refine wp_region_seq ?_
      (try dsimp only [List.append])
      repeat (go_big_quiet_step (first | (go_at_call 47; with_reducible exact (LF.out _).at_ _) | (go_at_call 11; with_reducible exact LL.out.at_ _) | (go_at_call 48; with_reducible exact LN.out.at_ _) | (go_at_call 50; with_reducible exact LB.out.at_ _) | (go_at_call 17; with_reducible exact LW.out.at_ _)))
      refine wpQuiet_nil ?_
      intro w9 hw9
      obtain ⟨p9, hw9'⟩ := hw9
      subst hw9'
      go_wp2_with fail
      go_ret
      rw [HE.out]
      exact ⟨rfl, below_next HTo.out p9.bel⟩
    have HE : Hid (R = true) := Lib.hid (by rw [← HR.out]; simp [t0, t1, t2, t3, t4, t5, t6, t7, t8, t9, tn, t11, t12, t13])
    have a0 := fun z : LatW W => (HXW.out.next z.bel).c0
    have a1 := fun z : LatW W => (HXW.out.next z.bel).c1
    have a2 := fun z : LatW W => (HXW.out.next z.bel).c2
    have a3 := fun z : LatW W => (HXW.out.next z.bel).c3
    have a4 := fun z : LatW W => (HXW.out.next z.bel).c4
    have a5 := fun z : LatW W => (HXW.out.next z.bel).c5
    have a7 := fun z : LatW W => (HXW.out.next z.bel).c7
    have a8 := fun z : LatW W => (HXW.out.next z.bel).c8
    have a9 := fun z : LatW W => (HXW.out.next z.bel).c9
    have a11 := fun z : LatW W => (HXW.out.next z.bel).c11
    have a12 := fun z : LatW W => (HXW.out.next z.bel).c12
    have a13 := fun z : LatW W => (HXW.out.next z.bel).c13
    refine wp_region_seq ?_
    (try dsimp only [List.append])
    repeat (go_big_quiet_step (first | (go_at_call 47; with_reducible exact (LF.out _).at_ _) | (go_at_call 11; with_reducible exact LL.out.at_ _) | (go_at_call 48; with_reducible exact LN.out.at_ _) | (go_at_call 50; with_reducible exact LB.out.at_ _) | (go_at_call 17; with_reducible exact LW.out.at_ _)))
    refine wpQuiet_nil ?_
    intro w9 hw9
    obtain ⟨p9, hw9'⟩ := hw9
    subst hw9'
    go_wp2_with fail
    go_ret
    rw [HE.out]
    exact ⟨rfl, below_next HTo.out p9.bel⟩
  rw [Bool.not_eq_true] at tn
  rw [tn] at LN
  by_cases tp : placedB m.anc m.ancS = true
  case neg =>
    rw [Bool.not_eq_true] at tp
    have HE : Hid (R = false) := Lib.hid (by rw [← HR.out]; simp [t0, t1, t2, t3, t4, t5, t6, t7, t8, t9, tn, tp])
    have a0 := fun z : LatW W => (HXW.out.next z.bel).c0
    have a1 := fun z : LatW W => (HXW.out.next z.bel).c1
    have a2 := fun z : LatW W => (HXW.out.next z.bel).c2
    have a3 := fun z : LatW W => (HXW.out.next z.bel).c3
    have a4 := fun z : LatW W => (HXW.out.next z.bel).c4
    have a5 := fun z : LatW W => (HXW.out.next z.bel).c5
    have a7 := fun z : LatW W => (HXW.out.next z.bel).c7
    have a8 := fun z : LatW W => (HXW.out.next z.bel).c8
    have a11 := fun z : LatW W => (HXW.out.next z.bel).c11
    have a12 := fun z : LatW W => (HXW.out.next z.bel).c12
    refine wp_region_seq ?_
    (try dsimp only [List.append])
    repeat (go_big_quiet_step (first | (go_at_call 47; with_reducible exact (LF.out _).at_ _) | (go_at_call 11; with_reducible exact LL.out.at_ _) | (go_at_call 48; with_reducible exact LN.out.at_ _) | (go_at_call 49; with_reducible exact LP.out.at_ _)))
    refine wpQuiet_nil ?_
    intro w9 hw9
    obtain ⟨p9, hw9'⟩ := hw9
    subst hw9'
    go_wp2_with fail
    go_ret
    rw [HE.out]
    exact ⟨rfl, below_next HTo.out p9.bel⟩
  by_cases t11 : bitsOk m.bits = true
  case neg =>
    rw [Bool.not_eq_true] at t11
    have HE : Hid (R = false) := Lib.hid (by rw [← HR.out]; simp [t0, t1, t2, t3, t4, t5, t6, t7, t8, t9, tn, tp, t11])
    have a0 := fun z : LatW W => (HXW.out.next z.bel).c0
    have a1 := fun z : LatW W => (HXW.out.next z.bel).c1
    have a2 := fun z : LatW W => (HXW.out.next z.bel).c2
    have a3 := fun z : LatW W => (HXW.out.next z.bel).c3
    have a4 := fun z : LatW W => (HXW.out.next z.bel).c4
    have a5 := fun z : LatW W => (HXW.out.next z.bel).c5
    have a7 := fun z : LatW W => (HXW.out.next z.bel).c7
    have a8 := fun z : LatW W => (HXW.out.next z.bel).c8
    have a9 := fun z : LatW W => (HXW.out.next z.bel).c9
    have a11 := fun z : LatW W => (HXW.out.next z.bel).c11
    have a12 := fun z : LatW W => (HXW.out.next z.bel).c12
    refine wp_region_seq ?_
    (try dsimp only [List.append])
    repeat (go_big_quiet_step (first | (go_at_call 47; with_reducible exact (LF.out _).at_ _) | (go_at_call 11; with_reducible exact LL.out.at_ _) | (go_at_call 48; with_reducible exact LN.out.at_ _) | (go_at_call 49; with_reducible exact LP.out.at_ _) | (go_at_call 50; with_reducible exact LB.out.at_ _)))
    refine wpQuiet_nil ?_
    intro w9 hw9
    obtain ⟨p9, hw9'⟩ := hw9
    subst hw9'
    go_wp2_with fail
    go_ret
    rw [HE.out]
    exact ⟨rfl, below_next HTo.out p9.bel⟩
  by_cases t12 : blankOk m.sizes = true
  case neg =>
    rw [Bool.not_eq_true] at t12
    have HE : Hid (R = false) := Lib.hid (by rw [← HR.out]; simp [t0, t1, t2, t3, t4, t5, t6, t7, t8, t9, tn, tp, t11, t12])
    have a0 := fun z : LatW W => (HXW.out.next z.bel).c0
    have a1 := fun z : LatW W => (HXW.out.next z.bel).c1
    have a2 := fun z : LatW W => (HXW.out.next z.bel).c2
    have a3 := fun z : LatW W => (HXW.out.next z.bel).c3
    have a4 := fun z : LatW W => (HXW.out.next z.bel).c4
    have a5 := fun z : LatW W => (HXW.out.next z.bel).c5
    have a7 := fun z : LatW W => (HXW.out.next z.bel).c7
    have a8 := fun z : LatW W => (HXW.out.next z.bel).c8
    have a9 := fun z : LatW W => (HXW.out.next z.bel).c9
    have a11 := fun z : LatW W => (HXW.out.next z.bel).c11
    have a12 := fun z : LatW W => (HXW.out.next z.bel).c12
    refine wp_region_seq ?_
    (try dsimp only [List.append])
    repeat (go_big_quiet_step (first | (go_at_call 47; with_reducible exact (LF.out _).at_ _) | (go_at_call 11; with_reducible exact LL.out.at_ _) | (go_at_call 48; with_reducible exact LN.out.at_ _) | (go_at_call 49; with_reducible exact LP.out.at_ _) | (go_at_call 50; with_reducible exact LB.out.at_ _)))
    refine wpQuiet_nil ?_
    intro w9 hw9
    obtain ⟨p9, hw9'⟩ := hw9
    subst hw9'
    go_wp2_with fail
    go_ret
    rw [HE.out]
    exact ⟨rfl, below_next HTo.out p9.bel⟩
  by_cases t13 : writable m.ws = true
  case neg =>
    rw [Bool.not_eq_true] at t13
    have HE : Hid (R = false) := Lib.hid (by rw [← HR.out]; simp [t0, t1, t2, t3, t4, t5, t6, t7, t8, t9, tn, tp, t11, t12, t13])
    have a0 := fun z : LatW W => (HXW.out.next z.bel).c0
    have a1 := fun z : LatW W => (HXW.out.next z.bel).c1
    have a2 := fun z : LatW W => (HXW.out.next z.bel).c2
    have a3 := fun z : LatW W => (HXW.out.next z.bel).c3
    have a4 := fun z : LatW W => (HXW.out.next z.bel).c4
    have a5 := fun z : LatW W => (HXW.out.next z.bel).c5
    have a7 := fun z : LatW W => (HXW.out.next z.bel).c7
    have a8 := fun z : LatW W => (HXW.out.next z.bel).c8
    have a9 := fun z : LatW W => (HXW.out.next z.bel).c9
    have a11 := fun z : LatW W => (HXW.out.next z.bel).c11
    have a12 := fun z : LatW W => (HXW.out.next z.bel).c12
    have a13 := fun z : LatW W => (HXW.out.next z.bel).c13
    refine wp_region_seq ?_
    (try dsimp only [List.append])
    repeat (go_big_quiet_step (first | (go_at_call 47; with_reducible exact (LF.out _).at_ _) | (go_at_call 11; with_reducible exact LL.out.at_ _) | (go_at_call 48; with_reducible exact LN.out.at_ _) | (go_at_call 49; with_reducible exact LP.out.at_ _) | (go_at_call 50; with_reducible exact LB.out.at_ _) | (go_at_call 17; with_reducible exact LW.out.at_ _)))
    refine wpQuiet_nil ?_
    intro w9 hw9
    obtain ⟨p9, hw9'⟩ := hw9
    subst hw9'
    go_wp2_with fail
    go_ret
    rw [HE.out]
    exact ⟨rfl, below_next HTo.out p9.bel⟩
  have HE : Hid (R = true) := Lib.hid (by rw [← HR.out]; simp [t0, t1, t2, t3, t4, t5, t6, t7, t8, t9, tn, tp, t11, t12, t13])
  have a0 := fun z : LatW W => (HXW.out.next z.bel).c0
  have a1 := fun z : LatW W => (HXW.out.next z.bel).c1
  have a2 := fun z : LatW W => (HXW.out.next z.bel).c2
  have a3 := fun z : LatW W => (HXW.out.next z.bel).c3
  have a4 := fun z : LatW W => (HXW.out.next z.bel).c4
  have a5 := fun z : LatW W => (HXW.out.next z.bel).c5
  have a7 := fun z : LatW W => (HXW.out.next z.bel).c7
  have a8 := fun z : LatW W => (HXW.out.next z.bel).c8
  have a9 := fun z : LatW W => (HXW.out.next z.bel).c9
  have a11 := fun z : LatW W => (HXW.out.next z.bel).c11
  have a12 := fun z : LatW W => (HXW.out.next z.bel).c12
  have a13 := fun z : LatW W => (HXW.out.next z.bel).c13
  refine wp_region_seq ?_
  (try dsimp only [List.append])
  repeat (go_big_quiet_step (first | (go_at_call 47; with_reducible exact (LF.out _).at_ _) | (go_at_call 11; with_reducible exact LL.out.at_ _) | (go_at_call 48; with_reducible exact LN.out.at_ _) | (go_at_call 49; with_reducible exact LP.out.at_ _) | (go_at_call 50; with_reducible exact LB.out.at_ _) | (go_at_call 17; with_reducible exact LW.out.at_ _)))
  refine wpQuiet_nil ?_
  intro w9 hw9
  obtain ⟨p9, hw9'⟩ := hw9
  subst hw9'
  go_wp2_with fail
  go_ret
  rw [HE.out]
  exact ⟨rfl, below_next HTo.out p9.bel⟩
end Go.Proofs.Ytkpoeigoocbgeaa
