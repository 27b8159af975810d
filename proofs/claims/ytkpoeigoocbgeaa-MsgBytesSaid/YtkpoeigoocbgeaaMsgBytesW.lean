/- The walk of MsgBytes. -/
import Derived.Test.YtkpoeigoocbgeaaMsgK
import Derived.Test.YtkpoeigoocbgeaaMsgO
namespace Go.Proofs.Ytkpoeigoocbgeaa
open Go.RowKit

set_option maxHeartbeats 8000000 in
set_option maxRecDepth 100000 in
theorem MsgBytes_walk {w : World} (m : Mg) (x : MgM) (h : MgAt w m x) (hf : MgFit m) :
    Calls Try.prog 5 #[m.val x] w fun e w' => e = .returned (.bool true) ∧ Below w.heap.size w w' := by
  obtain ⟨V, hV⟩ : ∃ V, V = w.alloc (.cells (m.cells x) 52) := ⟨_, rfl⟩
  have hb0 : Below w.heap.size w V := by rw [hV]; exact below_one _ _
  have HX := Lib.hid (show V.heap[w.heap.size]? = some (.cells (m.cells x) 52 (0, 0)) from by rw [hV]; exact heap_new _ _)
  have hlt : w.heap.size < V.heap.size := by rw [hV]; simp
  have HB0 := Lib.hid hb0
  have HM := Lib.hid (h.next hb0)
  have HF := Lib.hid hf
  have HV := Lib.hid hV.symm
  have HXn := Lib.hid (fun W (hb : Below V.heap.size V W) => (hb.block w.heap.size hlt).trans HX.out)
  have HSm := Lib.hid (small17_any (w := V) m x)
  have HPb := Lib.hid (fun W (hb : Below V.heap.size V W) => PBytes_any m x (HM.out.next hb) hf)
  have HRr := Lib.hid (fun W (hb : Below V.heap.size V W) => right17_any m x (HM.out.next hb) hf)
  have HPr := Lib.hid (fun W (hb : Below V.heap.size V W) => PRight_any m x (HM.out.next hb) hf)
  unfold Mg.val at HSm HPb HRr HPr
  clear h hf hb0 hV
  cases q : smallM m with
  | false =>
    rw [q] at HSm
    unfold Mg.val Mg.cells
    go_enter Try.func5, Try.ntmps5
    go_upto_region 1 with fail
    rw [show (w.alloc (.cells #[.int .i64 m.kind, .int .i64 m.epoch, .slice x.lA m.line.length x.lC, .int .i64 m.seq, .int .i64 m.n, .int .i64 m.of_, .bool m.full, .slice x.aA m.anc.length x.aC, .int .i64 m.ancS, .slice x.bA m.bits.length x.bC, .slice x.sA m.sizes.length x.sC, .int .i64 m.from_, .int .i64 m.to_, .slice x.wA m.ws.length x.wC] 52)) = V from HV.out]
    go_wp2_with (first | (refine wpList_load_row rfl 52 (.tmp 1) rfl (w.heap.size) rfl 52 (m.cells x) (0, 0) _ HX.out msg_desc17 rfl zMg_info ?_) | (go_at_call 22; (with_reducible refine (HSm.out).mono ?_); rintro e w1 ⟨rfl, hb⟩; have HB1 := Lib.hid (hb); have HX1 := Lib.hid (HXn.out _ hb); clear hb) | (go_at_call 9; (with_reducible refine (awake17_any _).mono ?_); rintro e w9 ⟨rfl, hb⟩; have HB9 := Lib.hid (below_next HB1.out hb); clear hb))
    go_ret
    exact ⟨rfl, below_next HB0.out HB9.out⟩
  | true =>
    rw [q] at HSm
    clear q
    unfold bytE bytS at HPb
    cases r : mgOkB m with
    | false =>
      rw [r] at HRr HPr HPb
      rw [if_neg (by simp), if_neg (by simp), show str [] = ⟨#[]⟩ from rfl] at HPb
      unfold Mg.val Mg.cells
      go_enter Try.func5, Try.ntmps5
      go_upto_region 1 with fail
      rw [show (w.alloc (.cells #[.int .i64 m.kind, .int .i64 m.epoch, .slice x.lA m.line.length x.lC, .int .i64 m.seq, .int .i64 m.n, .int .i64 m.of_, .bool m.full, .slice x.aA m.anc.length x.aC, .int .i64 m.ancS, .slice x.bA m.bits.length x.bC, .slice x.sA m.sizes.length x.sC, .int .i64 m.from_, .int .i64 m.to_, .slice x.wA m.ws.length x.wC] 52)) = V from HV.out]
      go_upto_region 3 with (first | (refine wpList_load_row rfl 52 (.tmp 1) rfl (w.heap.size) rfl 52 (m.cells x) (0, 0) _ HX.out msg_desc17 rfl zMg_info ?_) | (go_at_call 22; (with_reducible refine (HSm.out).mono ?_); rintro e w1 ⟨rfl, hb⟩; have HB1 := Lib.hid (hb); have HX1 := Lib.hid (HXn.out _ hb); clear hb))
      go_upto_region 4 with (first | (refine wpList_load_row rfl 52 (.tmp 1) rfl (w.heap.size) rfl 52 (m.cells x) (0, 0) _ HX1.out msg_desc17 rfl zMg_info ?_) | (go_at_call 23; (with_reducible refine (HPb.out _ HB1.out).mono ?_); rintro e w2 ⟨rfl, hb⟩; have HB2 := Lib.hid (below_next HB1.out hb); have HX2 := Lib.hid (HXn.out _ HB2.out); clear hb))
      go_upto_region 5 with (first | (refine wpList_load_row rfl 52 (.tmp 1) rfl (w.heap.size) rfl 52 (m.cells x) (0, 0) _ HX2.out msg_desc17 rfl zMg_info ?_) | (go_at_call 24; (with_reducible refine (HRr.out _ HB2.out).mono ?_); rintro e w3 ⟨rfl, hb⟩; have HB3 := Lib.hid (below_next HB2.out hb); have HX3 := Lib.hid (HXn.out _ HB3.out); clear hb))
      go_upto_region 8 with (first | (refine wpList_load_row rfl 52 (.tmp 1) rfl (w.heap.size) rfl 52 (m.cells x) (0, 0) _ HX3.out msg_desc17 rfl zMg_info ?_) | (go_at_call 25; (with_reducible refine (HPr.out _ HB3.out).mono ?_); rintro e w4 ⟨rfl, hb⟩; have HB4 := Lib.hid (below_next HB3.out hb); have HX4 := Lib.hid (HXn.out _ HB4.out); clear hb))
      go_wp2_with (go_at_call 9; (with_reducible refine (awake17_any _).mono ?_); rintro e w9 ⟨rfl, hb⟩; have HB9 := Lib.hid (below_next HB4.out hb); clear hb)
      go_ret
      exact ⟨rfl, below_next HB0.out HB9.out⟩
    | true =>
      rw [r] at HRr HPr HPb
      rw [if_pos rfl, if_pos rfl] at HPb
      have hok := (mgOkB_iff HF.out.bits).1 r
      have HRb := Lib.hid (fun W (hb : Below V.heap.size V W) => bytes17_any m x (HM.out.next hb) HF.out hok)
      have hsz := mgB_size17 hok
      have HPs := Lib.hid (fun W => PParse_any (mgB m) W (by omega))
      unfold TMg at HPs
      have HPa : Hid (∀ W, Calls Try.prog 26 #[.string (str (mgB m))] W fun e w' => ∃ y, e = .returned (.tuple #[.agg (m.cells y), .int .i64 0]) ∧ MgAt w' m y ∧ Below W.heap.size W w') := Lib.hid (fun W => (HPs.out W).mono (fun e w' h => by
        rcases h with ⟨n, y, h1, h2⟩ | ⟨h, _⟩
        · obtain rfl := told_one h1 ⟨hok, rfl⟩; exact ⟨y, h2⟩
        · exact absurd ⟨hok, rfl⟩ (h m)))
      have HSelf : Hid (eqMg m m = true) := Lib.hid ((eqMg_iff m m).2 rfl)
      obtain ⟨X, hX⟩ : ∃ X, str (mgB m) = X := ⟨_, rfl⟩
      rw [hX] at HPb HRb HPa
      unfold Mg.val at HRb
      clear HPs hok hsz hX r
      unfold Mg.val Mg.cells
      go_enter Try.func5, Try.ntmps5
      go_upto_region 1 with fail
      rw [show (w.alloc (.cells #[.int .i64 m.kind, .int .i64 m.epoch, .slice x.lA m.line.length x.lC, .int .i64 m.seq, .int .i64 m.n, .int .i64 m.of_, .bool m.full, .slice x.aA m.anc.length x.aC, .int .i64 m.ancS, .slice x.bA m.bits.length x.bC, .slice x.sA m.sizes.length x.sC, .int .i64 m.from_, .int .i64 m.to_, .slice x.wA m.ws.length x.wC] 52)) = V from HV.out]
      go_upto_region 3 with (first | (refine wpList_load_row rfl 52 (.tmp 1) rfl (w.heap.size) rfl 52 (m.cells x) (0, 0) _ HX.out msg_desc17 rfl zMg_info ?_) | (go_at_call 22; (with_reducible refine (HSm.out).mono ?_); rintro e w1 ⟨rfl, hb⟩; have HB1 := Lib.hid (hb); have HX1 := Lib.hid (HXn.out _ hb); clear hb))
      go_upto_region 4 with (first | (refine wpList_load_row rfl 52 (.tmp 1) rfl (w.heap.size) rfl 52 (m.cells x) (0, 0) _ HX1.out msg_desc17 rfl zMg_info ?_) | (go_at_call 23; (with_reducible refine (HPb.out _ HB1.out).mono ?_); rintro e w2 ⟨rfl, hb⟩; have HB2 := Lib.hid (below_next HB1.out hb); have HX2 := Lib.hid (HXn.out _ HB2.out); clear hb))
      go_upto_region 5 with (first | (refine wpList_load_row rfl 52 (.tmp 1) rfl (w.heap.size) rfl 52 (m.cells x) (0, 0) _ HX2.out msg_desc17 rfl zMg_info ?_) | (go_at_call 24; (with_reducible refine (HRr.out _ HB2.out).mono ?_); rintro e w3 ⟨rfl, hb⟩; have HB3 := Lib.hid (below_next HB2.out hb); have HX3 := Lib.hid (HXn.out _ HB3.out); clear hb))
      go_upto_region 9 with (first | (refine wpList_load_row rfl 52 (.tmp 1) rfl (w.heap.size) rfl 52 (m.cells x) (0, 0) _ HX3.out msg_desc17 rfl zMg_info ?_) | (go_at_call 25; (with_reducible refine (HPr.out _ HB3.out).mono ?_); rintro e w4 ⟨rfl, hb⟩; have HB4 := Lib.hid (below_next HB3.out hb); have HX4 := Lib.hid (HXn.out _ HB4.out); clear hb))
      go_upto_region 10 with (first | (go_at_call 26; (with_reducible refine (HPa.out _).mono ?_); rintro e w5 ⟨y, rfl, ha, hb⟩; have HB5 := Lib.hid (below_next HB4.out hb); have HA5 := Lib.hid ha; clear ha; clear hb) | (refine wpList_store_row rfl 52 (.tmp 6) (.tmp 37) rfl w5.heap.size (m.cells y) rfl rfl 52 zMg (heap_new w5 (.cells zMg 52)) zMg_info rfl (mg_one17 m y) ?_))
      generalize hV5 : World.setRow (World.alloc w5 _) w5.heap.size (m.cells y) = V5
      have HX5 := Lib.hid (show BoxMg V5 w5.heap.size m y from BoxMg.of (t := 52) (by rw [← hV5]; exact setRow_heap _ _ zMg _ _ _ (heap_new w5 (.cells zMg 52))))
      have hl5 : Below w5.heap.size w5 V5 := by rw [← hV5]; exact below_setRow (below_one _ _) (Nat.le_refl _) _
      have HL5 := Lib.hid hl5
      have HBV5 := Lib.hid (below_next HB5.out hl5)
      clear hV5 hl5
      have HX5b := Lib.hid (BoxMg.of (t := 52) (HXn.out _ HBV5.out))
      have HMa := Lib.hid (HA5.out.next HL5.out)
      have HMb := Lib.hid (HM.out.next HBV5.out)
      have HRb2 := Lib.hid (show LatCalls Try.prog V5 27 #[.agg (m.cells x)] (.string X) from LatCalls.of fun z => HRb.out z.wd (below_next HBV5.out z.bel))
      have HAw := Lib.hid (show LatCalls Try.prog V5 9 #[] (.bool true) from LatCalls.of fun z => awake17_any z.wd)
      have HEq := Lib.hid (show LatCalls Try.prog V5 28 #[m.val y, m.val x] (.bool true) from LatCalls.of fun z => by have := equal17_any m m y x (HMa.out.next z.bel) (HMb.out.next z.bel) HF.out HF.out; rwa [HSelf.out] at this)
      unfold Mg.val Mg.cells at HEq
      unfold Mg.cells at HRb2
      have a0 := fun z : LatW V5 => (HX5.out.next z.bel).c0
      have a1 := fun z : LatW V5 => (HX5.out.next z.bel).c1
      have a2 := fun z : LatW V5 => (HX5.out.next z.bel).c2
      have a3 := fun z : LatW V5 => (HX5.out.next z.bel).c3
      have a4 := fun z : LatW V5 => (HX5.out.next z.bel).c4
      have a5 := fun z : LatW V5 => (HX5.out.next z.bel).c5
      have a6 := fun z : LatW V5 => (HX5.out.next z.bel).c6
      have a7 := fun z : LatW V5 => (HX5.out.next z.bel).c7
      have a8 := fun z : LatW V5 => (HX5.out.next z.bel).c8
      have a9 := fun z : LatW V5 => (HX5.out.next z.bel).c9
      have a10 := fun z : LatW V5 => (HX5.out.next z.bel).c10
      have a11 := fun z : LatW V5 => (HX5.out.next z.bel).c11
      have a12 := fun z : LatW V5 => (HX5.out.next z.bel).c12
      have a13 := fun z : LatW V5 => (HX5.out.next z.bel).c13
      have b0 := fun z : LatW V5 => (HX5b.out.next z.bel).c0
      have b1 := fun z : LatW V5 => (HX5b.out.next z.bel).c1
      have b2 := fun z : LatW V5 => (HX5b.out.next z.bel).c2
      have b3 := fun z : LatW V5 => (HX5b.out.next z.bel).c3
      have b4 := fun z : LatW V5 => (HX5b.out.next z.bel).c4
      have b5 := fun z : LatW V5 => (HX5b.out.next z.bel).c5
      have b6 := fun z : LatW V5 => (HX5b.out.next z.bel).c6
      have b7 := fun z : LatW V5 => (HX5b.out.next z.bel).c7
      have b8 := fun z : LatW V5 => (HX5b.out.next z.bel).c8
      have b9 := fun z : LatW V5 => (HX5b.out.next z.bel).c9
      have b10 := fun z : LatW V5 => (HX5b.out.next z.bel).c10
      have b11 := fun z : LatW V5 => (HX5b.out.next z.bel).c11
      have b12 := fun z : LatW V5 => (HX5b.out.next z.bel).c12
      have b13 := fun z : LatW V5 => (HX5b.out.next z.bel).c13
      refine wp_region_seq ?_
      (try dsimp only [List.append])
      repeat (go_big_quiet_step (first | (go_at_call 27; with_reducible exact HRb2.out.at_ _) | (go_at_call 28; with_reducible exact HEq.out.at_ _) | (go_at_call 9; with_reducible exact HAw.out.at_ _)))
      refine wpQuiet_nil ?_
      intro w8 hw8
      obtain ⟨p8, hw8'⟩ := hw8
      subst hw8'
      go_wp2_with fail
      go_ret
      exact ⟨rfl, below_next HB0.out (below_next HBV5.out p8.bel)⟩
end Go.Proofs.Ytkpoeigoocbgeaa
