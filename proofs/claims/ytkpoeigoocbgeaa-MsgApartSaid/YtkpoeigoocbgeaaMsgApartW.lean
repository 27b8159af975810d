/- The walk of MsgApart. -/
import Derived.Test.YtkpoeigoocbgeaaMsgK
import Derived.Test.YtkpoeigoocbgeaaMsgO
namespace Go.Proofs.Ytkpoeigoocbgeaa
open Go.RowKit

set_option maxHeartbeats 8000000 in
set_option maxRecDepth 100000 in
theorem MsgApart_walk {w : World} (m n : Mg) (x y : MgM) (more : List UInt8) (h : MgAt w m x) (hf : MgFit m) (h2 : MgAt w n y) (hf2 : MgFit n) (hs : more.length ≤ 140737488351232) :
    Calls Try.prog 7 #[m.val x, n.val y, .string (str more)] w fun e w' => e = .returned (.bool true) ∧ Below w.heap.size w w' := by
  obtain ⟨V1, hV1⟩ : ∃ V, V = w.alloc (.cells (m.cells x) 52) := ⟨_, rfl⟩
  obtain ⟨V, hV⟩ : ∃ V, V = V1.alloc (.cells (n.cells y) 52) := ⟨_, rfl⟩
  obtain ⟨H, hH⟩ : ∃ H, w.heap.size = H := ⟨_, rfl⟩
  have hb1 : Below w.heap.size w V1 := by rw [hV1]; exact below_one _ _
  have hb2 : Below V1.heap.size V1 V := by rw [hV]; exact below_one _ _
  have hb0 := below_next hb1 hb2
  have hs1 : V1.heap.size = H + 1 := by rw [hV1, ← hH]; simp
  have hs2 : V.heap.size = H + 2 := by rw [hV]; simp [hs1]
  have hx1 : V1.heap[H]? = some (.cells (m.cells x) 52 (0, 0)) := by rw [hV1, ← hH]; exact heap_new _ _
  have hx2 : V.heap[H + 1]? = some (.cells (n.cells y) 52 (0, 0)) := by rw [hV, ← hs1]; exact heap_new _ _
  have hx0 : V.heap[H]? = some (.cells (m.cells x) 52 (0, 0)) := (hb2.block H (by omega)).trans hx1
  have HB0 := Lib.hid hb0
  have HM := Lib.hid (h.next hb0)
  have HN := Lib.hid (h2.next hb0)
  have HF := Lib.hid hf
  have HF2 := Lib.hid hf2
  have HV : Hid ((w.alloc (.cells (m.cells x) 52)).alloc (.cells (n.cells y) 52) = V) := Lib.hid (by rw [hV, hV1])
  unfold Mg.cells at HV
  have HXm := Lib.hid (fun W (hb : Below V.heap.size V W) => (hb.block H (by omega)).trans hx0)
  have HXn := Lib.hid (fun W (hb : Below V.heap.size V W) => (hb.block (H + 1) (by omega)).trans hx2)
  have HSm := Lib.hid (show LatCalls Try.prog V 22 #[m.val x] (.bool (smallM m)) from LatCalls.of fun z => small17_any m x)
  have HSn := Lib.hid (show LatCalls Try.prog V 22 #[n.val y] (.bool (smallM n)) from LatCalls.of fun z => small17_any n y)
  have HPm := Lib.hid (fun W (hb : Below V.heap.size V W) => PBytes_any m x (HM.out.next hb) hf)
  have HPn := Lib.hid (fun W (hb : Below V.heap.size V W) => PBytes_any n y (HN.out.next hb) hf2)
  have HHw := Lib.hid hH
  obtain ⟨M, hM⟩ : ∃ M, str more = M := ⟨_, rfl⟩
  have hMs : M.size = more.length := by rw [← hM, str_size]
  rw [hM]
  unfold bytE bytS at HPm HPn
  unfold Mg.val Mg.cells at HSm HSn
  unfold Mg.val at HPm HPn
  unfold Mg.val Mg.cells
  clear h hf h2 hf2 hb0 hb1 hb2 hV hV1 hs1 hs2 hx0 hx1 hx2 hH
  cases q : smallM m with
  | false =>
    rw [q] at HSm
    as_aux_lemma =>
      go_enter Try.func7, Try.ntmps7
      go_upto_region 1 with fail
      (try simp only [World.size_alloc])
      rw [HHw.out, HV.out]
      have HXa := Lib.hid (BoxMg.of (t := 52) (HXm.out V (Below.refl _ _)))
      have HXb := Lib.hid (BoxMg.of (t := 52) (HXn.out V (Below.refl _ _)))
      have a0 := fun z : LatW V => (HXa.out.next z.bel).c0
      have a1 := fun z : LatW V => (HXa.out.next z.bel).c1
      have a2 := fun z : LatW V => (HXa.out.next z.bel).c2
      have a3 := fun z : LatW V => (HXa.out.next z.bel).c3
      have a4 := fun z : LatW V => (HXa.out.next z.bel).c4
      have a5 := fun z : LatW V => (HXa.out.next z.bel).c5
      have a6 := fun z : LatW V => (HXa.out.next z.bel).c6
      have a7 := fun z : LatW V => (HXa.out.next z.bel).c7
      have a8 := fun z : LatW V => (HXa.out.next z.bel).c8
      have a9 := fun z : LatW V => (HXa.out.next z.bel).c9
      have a10 := fun z : LatW V => (HXa.out.next z.bel).c10
      have a11 := fun z : LatW V => (HXa.out.next z.bel).c11
      have a12 := fun z : LatW V => (HXa.out.next z.bel).c12
      have a13 := fun z : LatW V => (HXa.out.next z.bel).c13
      have b0 := fun z : LatW V => (HXb.out.next z.bel).c0
      have b1 := fun z : LatW V => (HXb.out.next z.bel).c1
      have b2 := fun z : LatW V => (HXb.out.next z.bel).c2
      have b3 := fun z : LatW V => (HXb.out.next z.bel).c3
      have b4 := fun z : LatW V => (HXb.out.next z.bel).c4
      have b5 := fun z : LatW V => (HXb.out.next z.bel).c5
      have b6 := fun z : LatW V => (HXb.out.next z.bel).c6
      have b7 := fun z : LatW V => (HXb.out.next z.bel).c7
      have b8 := fun z : LatW V => (HXb.out.next z.bel).c8
      have b9 := fun z : LatW V => (HXb.out.next z.bel).c9
      have b10 := fun z : LatW V => (HXb.out.next z.bel).c10
      have b11 := fun z : LatW V => (HXb.out.next z.bel).c11
      have b12 := fun z : LatW V => (HXb.out.next z.bel).c12
      have b13 := fun z : LatW V => (HXb.out.next z.bel).c13
      refine wp_region_seq ?_
      (try dsimp only [List.append])
      repeat (go_big_quiet_step (first | (go_at_call 22; with_reducible exact HSm.out.at_ _) | (go_at_call 22; with_reducible exact HSn.out.at_ _)))
      refine wpQuiet_nil ?_
      intro w8 hw8
      obtain ⟨p8, hw8'⟩ := hw8
      subst hw8'
      obtain ⟨W1, hW1⟩ : ∃ W, p8.wd = W := ⟨_, rfl⟩
      have HB1 : Hid (Below V.heap.size V W1) := Lib.hid (by rw [← hW1]; exact p8.bel)
      rw [hW1]
      clear hW1 p8 HXa HXb a0 a1 a2 a3 a4 a5 a6 a7 a8 a9 a10 a11 a12 a13 b0 b1 b2 b3 b4 b5 b6 b7 b8 b9 b10 b11 b12 b13
      go_wp2_with (go_at_call 9; (with_reducible refine (awake17_any _).mono ?_); rintro e w9 ⟨rfl, hb⟩; have HB9 := Lib.hid (below_next HB1.out hb); clear hb)
      go_ret
      exact ⟨rfl, below_next HB0.out HB9.out⟩
  | true =>
  rw [q] at HSm
  cases q2 : smallM n with
  | false =>
    rw [q2] at HSn
    as_aux_lemma =>
      go_enter Try.func7, Try.ntmps7
      go_upto_region 1 with fail
      (try simp only [World.size_alloc])
      rw [HHw.out, HV.out]
      have HXa := Lib.hid (BoxMg.of (t := 52) (HXm.out V (Below.refl _ _)))
      have HXb := Lib.hid (BoxMg.of (t := 52) (HXn.out V (Below.refl _ _)))
      have a0 := fun z : LatW V => (HXa.out.next z.bel).c0
      have a1 := fun z : LatW V => (HXa.out.next z.bel).c1
      have a2 := fun z : LatW V => (HXa.out.next z.bel).c2
      have a3 := fun z : LatW V => (HXa.out.next z.bel).c3
      have a4 := fun z : LatW V => (HXa.out.next z.bel).c4
      have a5 := fun z : LatW V => (HXa.out.next z.bel).c5
      have a6 := fun z : LatW V => (HXa.out.next z.bel).c6
      have a7 := fun z : LatW V => (HXa.out.next z.bel).c7
      have a8 := fun z : LatW V => (HXa.out.next z.bel).c8
      have a9 := fun z : LatW V => (HXa.out.next z.bel).c9
      have a10 := fun z : LatW V => (HXa.out.next z.bel).c10
      have a11 := fun z : LatW V => (HXa.out.next z.bel).c11
      have a12 := fun z : LatW V => (HXa.out.next z.bel).c12
      have a13 := fun z : LatW V => (HXa.out.next z.bel).c13
      have b0 := fun z : LatW V => (HXb.out.next z.bel).c0
      have b1 := fun z : LatW V => (HXb.out.next z.bel).c1
      have b2 := fun z : LatW V => (HXb.out.next z.bel).c2
      have b3 := fun z : LatW V => (HXb.out.next z.bel).c3
      have b4 := fun z : LatW V => (HXb.out.next z.bel).c4
      have b5 := fun z : LatW V => (HXb.out.next z.bel).c5
      have b6 := fun z : LatW V => (HXb.out.next z.bel).c6
      have b7 := fun z : LatW V => (HXb.out.next z.bel).c7
      have b8 := fun z : LatW V => (HXb.out.next z.bel).c8
      have b9 := fun z : LatW V => (HXb.out.next z.bel).c9
      have b10 := fun z : LatW V => (HXb.out.next z.bel).c10
      have b11 := fun z : LatW V => (HXb.out.next z.bel).c11
      have b12 := fun z : LatW V => (HXb.out.next z.bel).c12
      have b13 := fun z : LatW V => (HXb.out.next z.bel).c13
      refine wp_region_seq ?_
      (try dsimp only [List.append])
      repeat (go_big_quiet_step (first | (go_at_call 22; with_reducible exact HSm.out.at_ _) | (go_at_call 22; with_reducible exact HSn.out.at_ _)))
      refine wpQuiet_nil ?_
      intro w8 hw8
      obtain ⟨p8, hw8'⟩ := hw8
      subst hw8'
      obtain ⟨W1, hW1⟩ : ∃ W, p8.wd = W := ⟨_, rfl⟩
      have HB1 : Hid (Below V.heap.size V W1) := Lib.hid (by rw [← hW1]; exact p8.bel)
      rw [hW1]
      clear hW1 p8 HXa HXb a0 a1 a2 a3 a4 a5 a6 a7 a8 a9 a10 a11 a12 a13 b0 b1 b2 b3 b4 b5 b6 b7 b8 b9 b10 b11 b12 b13
      go_wp2_with (go_at_call 9; (with_reducible refine (awake17_any _).mono ?_); rintro e w9 ⟨rfl, hb⟩; have HB9 := Lib.hid (below_next HB1.out hb); clear hb)
      go_ret
      exact ⟨rfl, below_next HB0.out HB9.out⟩
  | true =>
  rw [q2] at HSn
  clear q q2
  cases r : mgOkB m with
  | false =>
    rw [r, if_neg (by simp), if_neg (by simp), show str [] = ⟨#[]⟩ from rfl] at HPm
    obtain ⟨eN, heN⟩ : ∃ e : Int, (if mgOkB n = true then (0 : Int) else 1) = e := ⟨_, rfl⟩
    obtain ⟨sN, hsN⟩ : ∃ e : ByteArray, str (if mgOkB n = true then mgB n else []) = e := ⟨_, rfl⟩
    rw [heN, hsN] at HPn
    clear heN hsN r
    as_aux_lemma =>
      go_enter Try.func7, Try.ntmps7
      go_upto_region 1 with fail
      (try simp only [World.size_alloc])
      rw [HHw.out, HV.out]
      have HXa := Lib.hid (BoxMg.of (t := 52) (HXm.out V (Below.refl _ _)))
      have HXb := Lib.hid (BoxMg.of (t := 52) (HXn.out V (Below.refl _ _)))
      have a0 := fun z : LatW V => (HXa.out.next z.bel).c0
      have a1 := fun z : LatW V => (HXa.out.next z.bel).c1
      have a2 := fun z : LatW V => (HXa.out.next z.bel).c2
      have a3 := fun z : LatW V => (HXa.out.next z.bel).c3
      have a4 := fun z : LatW V => (HXa.out.next z.bel).c4
      have a5 := fun z : LatW V => (HXa.out.next z.bel).c5
      have a6 := fun z : LatW V => (HXa.out.next z.bel).c6
      have a7 := fun z : LatW V => (HXa.out.next z.bel).c7
      have a8 := fun z : LatW V => (HXa.out.next z.bel).c8
      have a9 := fun z : LatW V => (HXa.out.next z.bel).c9
      have a10 := fun z : LatW V => (HXa.out.next z.bel).c10
      have a11 := fun z : LatW V => (HXa.out.next z.bel).c11
      have a12 := fun z : LatW V => (HXa.out.next z.bel).c12
      have a13 := fun z : LatW V => (HXa.out.next z.bel).c13
      have b0 := fun z : LatW V => (HXb.out.next z.bel).c0
      have b1 := fun z : LatW V => (HXb.out.next z.bel).c1
      have b2 := fun z : LatW V => (HXb.out.next z.bel).c2
      have b3 := fun z : LatW V => (HXb.out.next z.bel).c3
      have b4 := fun z : LatW V => (HXb.out.next z.bel).c4
      have b5 := fun z : LatW V => (HXb.out.next z.bel).c5
      have b6 := fun z : LatW V => (HXb.out.next z.bel).c6
      have b7 := fun z : LatW V => (HXb.out.next z.bel).c7
      have b8 := fun z : LatW V => (HXb.out.next z.bel).c8
      have b9 := fun z : LatW V => (HXb.out.next z.bel).c9
      have b10 := fun z : LatW V => (HXb.out.next z.bel).c10
      have b11 := fun z : LatW V => (HXb.out.next z.bel).c11
      have b12 := fun z : LatW V => (HXb.out.next z.bel).c12
      have b13 := fun z : LatW V => (HXb.out.next z.bel).c13
      refine wp_region_seq ?_
      (try dsimp only [List.append])
      repeat (go_big_quiet_step (first | (go_at_call 22; with_reducible exact HSm.out.at_ _) | (go_at_call 22; with_reducible exact HSn.out.at_ _)))
      refine wpQuiet_nil ?_
      intro w8 hw8
      obtain ⟨p8, hw8'⟩ := hw8
      subst hw8'
      obtain ⟨W1, hW1⟩ : ∃ W, p8.wd = W := ⟨_, rfl⟩
      have HB1 : Hid (Below V.heap.size V W1) := Lib.hid (by rw [← hW1]; exact p8.bel)
      rw [hW1]
      clear hW1 p8 HXa HXb a0 a1 a2 a3 a4 a5 a6 a7 a8 a9 a10 a11 a12 a13 b0 b1 b2 b3 b4 b5 b6 b7 b8 b9 b10 b11 b12 b13
      have HX1 := Lib.hid (HXm.out _ HB1.out)
      go_upto_region 4 with (first | (refine wpList_load_row rfl 52 (.tmp 3) rfl (H) rfl 52 (m.cells x) (0, 0) _ HX1.out msg_desc17 rfl zMg_info ?_) | (go_at_call 23; (with_reducible refine (HPm.out _ HB1.out).mono ?_); rintro e w2 ⟨rfl, hb⟩; have HB2 := Lib.hid (below_next HB1.out hb); have HX2 := Lib.hid (HXn.out _ HB2.out); clear hb))
      go_upto_region 5 with (first | (refine wpList_load_row rfl 52 (.tmp 4) rfl (H + 1) rfl 52 (n.cells y) (0, 0) _ HX2.out msg_desc17 rfl zMg_info ?_) | (go_at_call 23; (with_reducible refine (HPn.out _ HB2.out).mono ?_); rintro e w3 ⟨rfl, hb⟩; have HB3 := Lib.hid (below_next HB2.out hb); clear hb))
      go_wp2_with (go_at_call 9; (with_reducible refine (awake17_any _).mono ?_); rintro e w9 ⟨rfl, hb⟩; have HB9 := Lib.hid (below_next HB3.out hb); clear hb)
      go_ret
      exact ⟨rfl, below_next HB0.out HB9.out⟩
  | true =>
  rw [r, if_pos rfl, if_pos rfl] at HPm
  cases r2 : mgOkB n with
  | false =>
    rw [r2, if_neg (by simp), if_neg (by simp), show str [] = ⟨#[]⟩ from rfl] at HPn
    clear r r2
    obtain ⟨sM, hsM⟩ : ∃ e : ByteArray, str (mgB m) = e := ⟨_, rfl⟩
    rw [hsM] at HPm
    clear hsM
    as_aux_lemma =>
      go_enter Try.func7, Try.ntmps7
      go_upto_region 1 with fail
      (try simp only [World.size_alloc])
      rw [HHw.out, HV.out]
      have HXa := Lib.hid (BoxMg.of (t := 52) (HXm.out V (Below.refl _ _)))
      have HXb := Lib.hid (BoxMg.of (t := 52) (HXn.out V (Below.refl _ _)))
      have a0 := fun z : LatW V => (HXa.out.next z.bel).c0
      have a1 := fun z : LatW V => (HXa.out.next z.bel).c1
      have a2 := fun z : LatW V => (HXa.out.next z.bel).c2
      have a3 := fun z : LatW V => (HXa.out.next z.bel).c3
      have a4 := fun z : LatW V => (HXa.out.next z.bel).c4
      have a5 := fun z : LatW V => (HXa.out.next z.bel).c5
      have a6 := fun z : LatW V => (HXa.out.next z.bel).c6
      have a7 := fun z : LatW V => (HXa.out.next z.bel).c7
      have a8 := fun z : LatW V => (HXa.out.next z.bel).c8
      have a9 := fun z : LatW V => (HXa.out.next z.bel).c9
      have a10 := fun z : LatW V => (HXa.out.next z.bel).c10
      have a11 := fun z : LatW V => (HXa.out.next z.bel).c11
      have a12 := fun z : LatW V => (HXa.out.next z.bel).c12
      have a13 := fun z : LatW V => (HXa.out.next z.bel).c13
      have b0 := fun z : LatW V => (HXb.out.next z.bel).c0
      have b1 := fun z : LatW V => (HXb.out.next z.bel).c1
      have b2 := fun z : LatW V => (HXb.out.next z.bel).c2
      have b3 := fun z : LatW V => (HXb.out.next z.bel).c3
      have b4 := fun z : LatW V => (HXb.out.next z.bel).c4
      have b5 := fun z : LatW V => (HXb.out.next z.bel).c5
      have b6 := fun z : LatW V => (HXb.out.next z.bel).c6
      have b7 := fun z : LatW V => (HXb.out.next z.bel).c7
      have b8 := fun z : LatW V => (HXb.out.next z.bel).c8
      have b9 := fun z : LatW V => (HXb.out.next z.bel).c9
      have b10 := fun z : LatW V => (HXb.out.next z.bel).c10
      have b11 := fun z : LatW V => (HXb.out.next z.bel).c11
      have b12 := fun z : LatW V => (HXb.out.next z.bel).c12
      have b13 := fun z : LatW V => (HXb.out.next z.bel).c13
      refine wp_region_seq ?_
      (try dsimp only [List.append])
      repeat (go_big_quiet_step (first | (go_at_call 22; with_reducible exact HSm.out.at_ _) | (go_at_call 22; with_reducible exact HSn.out.at_ _)))
      refine wpQuiet_nil ?_
      intro w8 hw8
      obtain ⟨p8, hw8'⟩ := hw8
      subst hw8'
      obtain ⟨W1, hW1⟩ : ∃ W, p8.wd = W := ⟨_, rfl⟩
      have HB1 : Hid (Below V.heap.size V W1) := Lib.hid (by rw [← hW1]; exact p8.bel)
      rw [hW1]
      clear hW1 p8 HXa HXb a0 a1 a2 a3 a4 a5 a6 a7 a8 a9 a10 a11 a12 a13 b0 b1 b2 b3 b4 b5 b6 b7 b8 b9 b10 b11 b12 b13
      have HX1 := Lib.hid (HXm.out _ HB1.out)
      go_upto_region 4 with (first | (refine wpList_load_row rfl 52 (.tmp 3) rfl (H) rfl 52 (m.cells x) (0, 0) _ HX1.out msg_desc17 rfl zMg_info ?_) | (go_at_call 23; (with_reducible refine (HPm.out _ HB1.out).mono ?_); rintro e w2 ⟨rfl, hb⟩; have HB2 := Lib.hid (below_next HB1.out hb); have HX2 := Lib.hid (HXn.out _ HB2.out); clear hb))
      go_upto_region 5 with (first | (refine wpList_load_row rfl 52 (.tmp 4) rfl (H + 1) rfl 52 (n.cells y) (0, 0) _ HX2.out msg_desc17 rfl zMg_info ?_) | (go_at_call 23; (with_reducible refine (HPn.out _ HB2.out).mono ?_); rintro e w3 ⟨rfl, hb⟩; have HB3 := Lib.hid (below_next HB2.out hb); clear hb))
      go_wp2_with (go_at_call 9; (with_reducible refine (awake17_any _).mono ?_); rintro e w9 ⟨rfl, hb⟩; have HB9 := Lib.hid (below_next HB3.out hb); clear hb)
      go_ret
      exact ⟨rfl, below_next HB0.out HB9.out⟩
  | true =>
  rw [r2, if_pos rfl, if_pos rfl] at HPn
  have hokm := (mgOkB_iff HF.out.bits).1 r
  have hokn := (mgOkB_iff HF2.out.bits).1 r2
  have hsz := mgB_size17 hokm
  have HPs := Lib.hid (fun W => PParse_any (mgB m ++ more) W (by rw [List.length_append]; omega))
  unfold TMg at HPs
  rw [← str_cat, hM] at HPs
  obtain ⟨eM, heM⟩ : ∃ b, decide (more = []) = b := ⟨_, rfl⟩
  have HPa : Hid (∀ W, Calls Try.prog 26 #[.string (str (mgB m) ++ M)] W fun e w' => ∃ (n' : Mg) (y' : MgM), e = .returned (.tuple #[.agg (n'.cells y'), .int .i64 (if eM = true then 0 else 3)]) ∧ Below W.heap.size W w') := Lib.hid (fun W => (HPs.out W).mono (fun e w' h => by
    rcases h with ⟨n', y', h1, rfl, _, hb⟩ | ⟨h, y', rfl, _, hb⟩
    · have : more = [] := (told_more hokm).1 ⟨n', h1⟩
      rw [← heM, decide_eq_true this]
      exact ⟨n', y', rfl, hb⟩
    · have : ¬ more = [] := fun e => by obtain ⟨k, hk⟩ := (told_more hokm).2 e; exact h k hk
      rw [← heM, decide_eq_false this]
      exact ⟨mgZ, y', rfl, hb⟩))
  have hEqv : (str (mgB m) = str (mgB n)) ↔ m = n := by
    constructor
    · intro e
      have h1 := congrArg (fun b : ByteArray => b.data.toList) e
      have h2 : mgB m = mgB n := by simpa [str] using h1
      exact (mg_inj (r := []) (s := []) hokm hokn (by rw [h2])).1
    · rintro rfl; rfl
  have hEq1 : eqMg m n = decide (str (mgB m) = str (mgB n)) := by
    rw [Bool.eq_iff_iff, eqMg_iff, decide_eq_true_iff, hEqv]
  have hM0 : M.size = 0 ↔ more = [] := by rw [hMs, List.length_eq_zero_iff]
  obtain ⟨X, hX⟩ : ∃ X, str (mgB m) = X := ⟨_, rfl⟩
  obtain ⟨Y, hY⟩ : ∃ X, str (mgB n) = X := ⟨_, rfl⟩
  have hXs : X.size ≤ 10000 := by rw [← hX, str_size]; exact hsz
  rw [hX] at HPm HPa
  rw [hY] at HPn
  rw [hX, hY] at hEq1
  have hcat : ¬ 9223372036854775807 < X.size + M.size := by omega
  have HEm := Lib.hid heM
  have HM0 := Lib.hid hM0
  have HMn := Lib.hid (show (M = ⟨#[]⟩) ↔ more = [] from by
    rw [← hM0]
    exact ⟨fun e => by rw [e]; rfl, fun e => ByteArray.ext (Array.eq_empty_of_size_eq_zero e)⟩)
  have HE1 := Lib.hid hEq1
  clear HPs hokm hokn hsz hM heM hEqv hEq1 hM0 hX hY r r2 hMs
  go_enter Try.func7, Try.ntmps7
  go_upto_region 1 with fail
  (try simp only [World.size_alloc])
  rw [HHw.out, HV.out]
  have HXa := Lib.hid (BoxMg.of (t := 52) (HXm.out V (Below.refl _ _)))
  have HXb := Lib.hid (BoxMg.of (t := 52) (HXn.out V (Below.refl _ _)))
  have a0 := fun z : LatW V => (HXa.out.next z.bel).c0
  have a1 := fun z : LatW V => (HXa.out.next z.bel).c1
  have a2 := fun z : LatW V => (HXa.out.next z.bel).c2
  have a3 := fun z : LatW V => (HXa.out.next z.bel).c3
  have a4 := fun z : LatW V => (HXa.out.next z.bel).c4
  have a5 := fun z : LatW V => (HXa.out.next z.bel).c5
  have a6 := fun z : LatW V => (HXa.out.next z.bel).c6
  have a7 := fun z : LatW V => (HXa.out.next z.bel).c7
  have a8 := fun z : LatW V => (HXa.out.next z.bel).c8
  have a9 := fun z : LatW V => (HXa.out.next z.bel).c9
  have a10 := fun z : LatW V => (HXa.out.next z.bel).c10
  have a11 := fun z : LatW V => (HXa.out.next z.bel).c11
  have a12 := fun z : LatW V => (HXa.out.next z.bel).c12
  have a13 := fun z : LatW V => (HXa.out.next z.bel).c13
  have b0 := fun z : LatW V => (HXb.out.next z.bel).c0
  have b1 := fun z : LatW V => (HXb.out.next z.bel).c1
  have b2 := fun z : LatW V => (HXb.out.next z.bel).c2
  have b3 := fun z : LatW V => (HXb.out.next z.bel).c3
  have b4 := fun z : LatW V => (HXb.out.next z.bel).c4
  have b5 := fun z : LatW V => (HXb.out.next z.bel).c5
  have b6 := fun z : LatW V => (HXb.out.next z.bel).c6
  have b7 := fun z : LatW V => (HXb.out.next z.bel).c7
  have b8 := fun z : LatW V => (HXb.out.next z.bel).c8
  have b9 := fun z : LatW V => (HXb.out.next z.bel).c9
  have b10 := fun z : LatW V => (HXb.out.next z.bel).c10
  have b11 := fun z : LatW V => (HXb.out.next z.bel).c11
  have b12 := fun z : LatW V => (HXb.out.next z.bel).c12
  have b13 := fun z : LatW V => (HXb.out.next z.bel).c13
  refine wp_region_seq ?_
  (try dsimp only [List.append])
  repeat (go_big_quiet_step (first | (go_at_call 22; with_reducible exact HSm.out.at_ _) | (go_at_call 22; with_reducible exact HSn.out.at_ _)))
  refine wpQuiet_nil ?_
  intro w8 hw8
  obtain ⟨p8, hw8'⟩ := hw8
  subst hw8'
  obtain ⟨W1, hW1⟩ : ∃ W, p8.wd = W := ⟨_, rfl⟩
  have HB1 : Hid (Below V.heap.size V W1) := Lib.hid (by rw [← hW1]; exact p8.bel)
  rw [hW1]
  clear hW1 p8 HXa HXb a0 a1 a2 a3 a4 a5 a6 a7 a8 a9 a10 a11 a12 a13 b0 b1 b2 b3 b4 b5 b6 b7 b8 b9 b10 b11 b12 b13
  have HX1 := Lib.hid (HXm.out _ HB1.out)
  go_upto_region 4 with (first | (refine wpList_load_row rfl 52 (.tmp 3) rfl (H) rfl 52 (m.cells x) (0, 0) _ HX1.out msg_desc17 rfl zMg_info ?_) | (go_at_call 23; (with_reducible refine (HPm.out _ HB1.out).mono ?_); rintro e w2 ⟨rfl, hb⟩; have HB2 := Lib.hid (below_next HB1.out hb); have HX2 := Lib.hid (HXn.out _ HB2.out); clear hb))
  go_upto_region 5 with (first | (refine wpList_load_row rfl 52 (.tmp 4) rfl (H + 1) rfl 52 (n.cells y) (0, 0) _ HX2.out msg_desc17 rfl zMg_info ?_) | (go_at_call 23; (with_reducible refine (HPn.out _ HB2.out).mono ?_); rintro e w3 ⟨rfl, hb⟩; have HB3 := Lib.hid (below_next HB2.out hb); clear hb))
  go_upto_region 7 with fail
  go_upto_region 8 with (first | (go_at_call 26; (with_reducible refine (HPa.out _).mono ?_); rintro e w4 ⟨n', y', rfl, hb⟩; have HB4 := Lib.hid (below_next HB3.out hb); clear hb) | (refine wpList_store_row rfl 52 (.tmp 11) (.tmp 44) rfl w4.heap.size (n'.cells y') rfl rfl 52 zMg (heap_new w4 (.cells zMg 52)) zMg_info rfl (mg_one17 n' y') ?_))
  generalize hV5 : World.setRow (World.alloc w4 _) w4.heap.size (n'.cells y') = V5
  have HX5 := Lib.hid (show BoxMg V5 w4.heap.size n' y' from BoxMg.of (t := 52) (by rw [← hV5]; exact setRow_heap _ _ zMg _ _ _ (heap_new w4 (.cells zMg 52))))
  have hl5 : Below w4.heap.size w4 V5 := by rw [← hV5]; exact below_setRow (below_one _ _) (Nat.le_refl _) _
  have HL5 := Lib.hid hl5
  have HBV5 := Lib.hid (below_next HB4.out hl5)
  clear hV5 hl5
  have HX5a := Lib.hid (BoxMg.of (t := 52) (HXm.out _ HBV5.out))
  have HX5b := Lib.hid (BoxMg.of (t := 52) (HXn.out _ HBV5.out))
  have HMa := Lib.hid (HM.out.next HBV5.out)
  have HMb := Lib.hid (HN.out.next HBV5.out)
  have HAw := Lib.hid (show LatCalls Try.prog V5 9 #[] (.bool true) from LatCalls.of fun z => awake17_any z.wd)
  have HEq := Lib.hid (show LatCalls Try.prog V5 28 #[m.val x, n.val y] (.bool (eqMg m n)) from LatCalls.of fun z => equal17_any m n x y (HMa.out.next z.bel) (HMb.out.next z.bel) HF.out HF2.out)
  unfold Mg.val Mg.cells at HEq
  have a0 := fun z : LatW V5 => (HX5a.out.next z.bel).c0
  have a1 := fun z : LatW V5 => (HX5a.out.next z.bel).c1
  have a2 := fun z : LatW V5 => (HX5a.out.next z.bel).c2
  have a3 := fun z : LatW V5 => (HX5a.out.next z.bel).c3
  have a4 := fun z : LatW V5 => (HX5a.out.next z.bel).c4
  have a5 := fun z : LatW V5 => (HX5a.out.next z.bel).c5
  have a6 := fun z : LatW V5 => (HX5a.out.next z.bel).c6
  have a7 := fun z : LatW V5 => (HX5a.out.next z.bel).c7
  have a8 := fun z : LatW V5 => (HX5a.out.next z.bel).c8
  have a9 := fun z : LatW V5 => (HX5a.out.next z.bel).c9
  have a10 := fun z : LatW V5 => (HX5a.out.next z.bel).c10
  have a11 := fun z : LatW V5 => (HX5a.out.next z.bel).c11
  have a12 := fun z : LatW V5 => (HX5a.out.next z.bel).c12
  have a13 := fun z : LatW V5 => (HX5a.out.next z.bel).c13
  have b0 := fun z : LatW V5 => (HX5b.out.next z.bel).c0
  have b1 := fun z : LatW V5 => (HX5b.out.next z.bel).c1
  have b2 := fun z : LatW V5 => (HX5b.out.next z.bel).c2
  have b3 := fun z : LatW V5 => (HX5b.out.next z.bel).c3
  have b4 := fun z : LatW V5 => (HX5b.out.next z.bel).c4
  have b5 := fun z : LatW V5 => (HX5b.out.next z.bel).c5
  have b6 := fun z : LatW V5 => (HX5b.out.next z.bel).c6
  have b7 := fun z : LatW V5 => (HX5b.out.next z.bel).c7
  have b8 := fun z : LatW V5 => (HX5b.out.next z.bel).c8
  have b9 := fun z : LatW V5 => (HX5b.out.next z.bel).c9
  have b10 := fun z : LatW V5 => (HX5b.out.next z.bel).c10
  have b11 := fun z : LatW V5 => (HX5b.out.next z.bel).c11
  have b12 := fun z : LatW V5 => (HX5b.out.next z.bel).c12
  have b13 := fun z : LatW V5 => (HX5b.out.next z.bel).c13
  clear HX5 HL5
  by_cases hXY : X = Y
  · subst hXY
    rw [HE1.out, decide_eq_true rfl] at HEq
    by_cases hm0 : more = []
    · obtain rfl : eM = true := HEm.out.symm.trans (decide_eq_true hm0)
      obtain rfl : M = ⟨#[]⟩ := HMn.out.2 hm0
      clear hm0
      as_aux_lemma =>
        refine wp_region_seq ?_
        (try dsimp only [List.append])
        repeat (go_big_quiet_step (first | (go_at_call 28; with_reducible exact HEq.out.at_ _) | (go_at_call 9; with_reducible exact HAw.out.at_ _)))
        refine wpQuiet_nil ?_
        intro w8 hw8
        obtain ⟨p8, hw8'⟩ := hw8
        subst hw8'
        go_wp2_with fail
        go_ret
        exact ⟨rfl, below_next HB0.out (below_next HBV5.out p8.bel)⟩
    · obtain rfl : eM = false := HEm.out.symm.trans (decide_eq_false hm0)
      have hMx : (M.toList == ([] : List UInt8)) = false := by rw [beq_eq_false_iff_ne, ne_eq, Lib.toList_data]; exact fun e => hm0 (HMn.out.1 (by rw [← str_of M, e]; rfl))
      have hMy : (M.toList == (⟨#[]⟩ : ByteArray).toList) = false := by rw [Lib.toList_data (⟨#[]⟩ : ByteArray)]; exact hMx
      clear hm0
      as_aux_lemma =>
        refine wp_region_seq ?_
        (try dsimp only [List.append])
        repeat (go_big_quiet_step (first | (go_at_call 28; with_reducible exact HEq.out.at_ _) | (go_at_call 9; with_reducible exact HAw.out.at_ _)))
        refine wpQuiet_nil ?_
        intro w8 hw8
        obtain ⟨p8, hw8'⟩ := hw8
        subst hw8'
        go_wp2_with fail
        go_ret
        exact ⟨rfl, below_next HB0.out (below_next HBV5.out p8.bel)⟩
  · have hXY2 : (X.toList == Y.toList) = false := by rw [beq_eq_false_iff_ne, ne_eq, Lib.toList_data, Lib.toList_data]; exact fun e => hXY (by rw [← str_of X, ← str_of Y, e])
    rw [HE1.out, decide_eq_false hXY] at HEq
    by_cases hm0 : more = []
    · obtain rfl : eM = true := HEm.out.symm.trans (decide_eq_true hm0)
      obtain rfl : M = ⟨#[]⟩ := HMn.out.2 hm0
      clear hm0
      as_aux_lemma =>
        refine wp_region_seq ?_
        (try dsimp only [List.append])
        repeat (go_big_quiet_step (first | (go_at_call 28; with_reducible exact HEq.out.at_ _) | (go_at_call 9; with_reducible exact HAw.out.at_ _)))
        refine wpQuiet_nil ?_
        intro w8 hw8
        obtain ⟨p8, hw8'⟩ := hw8
        subst hw8'
        go_wp2_with fail
        go_ret
        exact ⟨rfl, below_next HB0.out (below_next HBV5.out p8.bel)⟩
    · obtain rfl : eM = false := HEm.out.symm.trans (decide_eq_false hm0)
      have hMx : (M.toList == ([] : List UInt8)) = false := by rw [beq_eq_false_iff_ne, ne_eq, Lib.toList_data]; exact fun e => hm0 (HMn.out.1 (by rw [← str_of M, e]; rfl))
      have hMy : (M.toList == (⟨#[]⟩ : ByteArray).toList) = false := by rw [Lib.toList_data (⟨#[]⟩ : ByteArray)]; exact hMx
      clear hm0
      as_aux_lemma =>
        refine wp_region_seq ?_
        (try dsimp only [List.append])
        repeat (go_big_quiet_step (first | (go_at_call 28; with_reducible exact HEq.out.at_ _) | (go_at_call 9; with_reducible exact HAw.out.at_ _)))
        refine wpQuiet_nil ?_
        intro w8 hw8
        obtain ⟨p8, hw8'⟩ := hw8
        subst hw8'
        go_wp2_with fail
        go_ret
        exact ⟨rfl, below_next HB0.out (below_next HBV5.out p8.bel)⟩

end Go.Proofs.Ytkpoeigoocbgeaa
