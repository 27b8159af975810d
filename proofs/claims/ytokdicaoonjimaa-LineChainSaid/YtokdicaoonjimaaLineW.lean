/- Lineages: the walks of LineSelf, LineEpochs, LineAgrees, LineChain and LineCommon. -/
import Derived.Test.YtokdicaoonjimaaLineQ
import Derived.Test.YtokdicaoonjimaaLineO
namespace Go.Proofs.Ytokdicaoonjimaa
open Go.RowKit

theorem lat_end {w V : World} (h : Below w.heap.size w V) (z : LatW V) : Below w.heap.size w z.wd := h.trans (z.bel.mono h.size)
theorem below_three (w : World) (o1 o2 o3 : Obj) : Below w.heap.size w (((w.alloc o1).alloc o2).alloc o3) := (below_two w o1 o2).alloc (by simp; omega) _
theorem heap_third1 (w : World) (o1 o2 o3 : Obj) : (((w.alloc o1).alloc o2).alloc o3).heap[w.heap.size]? = some o1 := by
  rw [show (((w.alloc o1).alloc o2).alloc o3).heap = ((w.alloc o1).alloc o2).heap.push o3 from rfl, Array.getElem?_push, if_neg (by simp; omega)]
  exact heap_first w o1 o2
theorem heap_third2 (w : World) (o1 o2 o3 : Obj) : (((w.alloc o1).alloc o2).alloc o3).heap[w.heap.size + 1]? = some o2 := by
  have h : (w.alloc o1).heap.size = w.heap.size + 1 := by simp
  rw [← h]; exact heap_first _ o2 o3
theorem heap_third3 (w : World) (o1 o2 o3 : Obj) : (((w.alloc o1).alloc o2).alloc o3).heap[w.heap.size + 1 + 1]? = some o3 := by
  have h : ((w.alloc o1).alloc o2).heap.size = w.heap.size + 1 + 1 := by simp
  rw [← h]; exact heap_new _ _
theorem common_or (l : List Br) (p : Int) (m : List Br) (q : Int) : commonB l p m q ≤ p ∨ commonB l p m q = -1 := by
  unfold commonB
  split
  · exact .inl common_le.1
  · exact .inr rfl
set_option maxHeartbeats 8000000 in
set_option maxRecDepth 100000 in
theorem LineSelf_walk {w : World} {A1 : Option Addr} {c1 : Nat} {l1 : List Br} {q1 : Int}  (h1 : BrsAt w w.heap.size A1 l1) (f1 : BrsFit l1)  :
    Calls Try.prog 9 #[.agg #[.slice A1 l1.length c1, .int .i64 q1]] w fun e w' => e = .returned (.bool true) ∧ Below w.heap.size w w' := by
  obtain ⟨V, hV⟩ : ∃ V, V = w.alloc (.cells #[.slice A1 l1.length c1, .int .i64 q1] 36 (0, 0)) := ⟨_, rfl⟩
  have HBV : Hid (Below w.heap.size w V) := Lib.hid (by rw [hV]; exact below_one _ _)
  have HX1 : Hid (PosBox V (w.heap.size) A1 l1.length c1 q1) := Lib.hid (by rw [hV]; exact PosBox.of (heap_new _ _))
  have HA1 := Lib.hid (fun (z : LatW V) => h1.lat HBV.out z)
  have s1 := f1.1
  have HV := Lib.hid hV
  have HAw : Hid (LatCalls Try.prog V 11 #[] (.bool true)) := Lib.hid (LatCalls.of fun z => awake11_any z.wd)
  clear hV h1
  cases g1 : decide ((100 : Int) < (l1.length : Int)) with
  | true =>
    have x1 := HX1.out.c0 ⟨V, Below.refl _ _⟩
    have y1 := HX1.out.c1 ⟨V, Below.refl _ _⟩
    simp only at x1 y1
    rw [HV.out] at x1 y1
    go_enter Try.func9, Try.ntmps9
    go_wp2_with fail
    rw [← HV.out]
    clear x1 y1
    have a1 := HX1.out.c0
    have b1 := HX1.out.c1
    generalize w.heap.size = H at a1 b1 ⊢
    obtain ⟨z0, hz0⟩ := LatW.start V
    rw [← hz0]
    clear hz0
    first | (go_at_call 11; refine ((HAw.out).at_ _).mono ?_; rintro e w9 ⟨rfl, z9, rfl⟩)
    go_wp2_with (first | (go_at_call 11; refine ((HAw.out).at_ _).mono ?_; rintro e w9 ⟨rfl, z9, rfl⟩))
    go_ret
    exact ⟨rfl, lat_end HBV.out _⟩
  | false =>
  cases ok : placedB l1 q1 with
  | false =>
    have HP : Hid (LatCalls Try.prog V 18 #[.agg #[.slice A1 l1.length c1, .int .i64 q1]] (.bool false)) := Lib.hid (LatCalls.of fun z => by have t := Placed_any (c := c1) (q := q1) (HA1.out z) s1; rw [ok] at t; exact t)
    have HC : Hid (LatCalls Try.prog V 23 #[.agg #[.slice A1 l1.length c1, .int .i64 q1], .agg #[.slice A1 l1.length c1, .int .i64 q1]] (.int .i64 (-1))) := Lib.hid (LatCalls.of fun z => by have t := Common_any (c1 := c1) (c2 := c1) (p := q1) (q := q1) (HA1.out z) (HA1.out z) s1 s1; rw [commonB_a ok] at t; exact t)
    have HH : Hid (LatCalls Try.prog V 24 #[.agg #[.slice A1 l1.length c1, .int .i64 q1], .agg #[.slice A1 l1.length c1, .int .i64 q1]] (.bool false)) := Lib.hid (LatCalls.of fun z => by have t := Ahead_any (c1 := c1) (c2 := c1) (p := q1) (q := q1) (HA1.out z) (HA1.out z) s1 s1; rw [aheadB_a ok] at t; exact t)
    have HS : Hid (LatCalls Try.prog V 25 #[.agg #[.slice A1 l1.length c1, .int .i64 q1], .agg #[.slice A1 l1.length c1, .int .i64 q1]] (.bool false)) := Lib.hid (LatCalls.of fun z => by have t := Same_any (c1 := c1) (c2 := c1) (p := q1) (q := q1) (HA1.out z) (HA1.out z) s1 s1; rw [samePl_a ok] at t; exact t)
    have x1 := HX1.out.c0 ⟨V, Below.refl _ _⟩
    have y1 := HX1.out.c1 ⟨V, Below.refl _ _⟩
    simp only at x1 y1
    rw [HV.out] at x1 y1
    go_enter Try.func9, Try.ntmps9
    go_wp2_with fail
    rw [← HV.out]
    clear x1 y1
    have a1 := HX1.out.c0
    have b1 := HX1.out.c1
    generalize w.heap.size = H at a1 b1 ⊢
    obtain ⟨z0, hz0⟩ := LatW.start V
    rw [← hz0]
    clear hz0
    first | (go_at_call 18; refine ((HP.out).at_ _).mono ?_; rintro e w9 ⟨rfl, z9, rfl⟩) | (go_at_call 23; refine ((HC.out).at_ _).mono ?_; rintro e w9 ⟨rfl, z9, rfl⟩) | (go_at_call 24; refine ((HH.out).at_ _).mono ?_; rintro e w9 ⟨rfl, z9, rfl⟩) | (go_at_call 25; refine ((HS.out).at_ _).mono ?_; rintro e w9 ⟨rfl, z9, rfl⟩) | (go_at_call 11; refine ((HAw.out).at_ _).mono ?_; rintro e w9 ⟨rfl, z9, rfl⟩)
    go_wp2_with (first | (go_at_call 18; refine ((HP.out).at_ _).mono ?_; rintro e w9 ⟨rfl, z9, rfl⟩) | (go_at_call 23; refine ((HC.out).at_ _).mono ?_; rintro e w9 ⟨rfl, z9, rfl⟩) | (go_at_call 24; refine ((HH.out).at_ _).mono ?_; rintro e w9 ⟨rfl, z9, rfl⟩) | (go_at_call 25; refine ((HS.out).at_ _).mono ?_; rintro e w9 ⟨rfl, z9, rfl⟩) | (go_at_call 11; refine ((HAw.out).at_ _).mono ?_; rintro e w9 ⟨rfl, z9, rfl⟩))
    go_ret
    exact ⟨rfl, lat_end HBV.out _⟩
  | true =>
    have e1 := common_self ok
    have e2 : aheadB l1 q1 l1 q1 = true := by rw [aheadB_ok ok ok, e1]; simp
    have e3 : samePl l1 q1 l1 q1 = true := by rw [samePl_ok ok rfl]; exact eqBr_self l1
    have HP : Hid (LatCalls Try.prog V 18 #[.agg #[.slice A1 l1.length c1, .int .i64 q1]] (.bool true)) := Lib.hid (LatCalls.of fun z => by have t := Placed_any (c := c1) (q := q1) (HA1.out z) s1; rw [ok] at t; exact t)
    have HC : Hid (LatCalls Try.prog V 23 #[.agg #[.slice A1 l1.length c1, .int .i64 q1], .agg #[.slice A1 l1.length c1, .int .i64 q1]] (.int .i64 q1)) := Lib.hid (LatCalls.of fun z => by have t := Common_any (c1 := c1) (c2 := c1) (p := q1) (q := q1) (HA1.out z) (HA1.out z) s1 s1; rw [e1] at t; exact t)
    have HH : Hid (LatCalls Try.prog V 24 #[.agg #[.slice A1 l1.length c1, .int .i64 q1], .agg #[.slice A1 l1.length c1, .int .i64 q1]] (.bool true)) := Lib.hid (LatCalls.of fun z => by have t := Ahead_any (c1 := c1) (c2 := c1) (p := q1) (q := q1) (HA1.out z) (HA1.out z) s1 s1; rw [e2] at t; exact t)
    have HS : Hid (LatCalls Try.prog V 25 #[.agg #[.slice A1 l1.length c1, .int .i64 q1], .agg #[.slice A1 l1.length c1, .int .i64 q1]] (.bool true)) := Lib.hid (LatCalls.of fun z => by have t := Same_any (c1 := c1) (c2 := c1) (p := q1) (q := q1) (HA1.out z) (HA1.out z) s1 s1; rw [e3] at t; exact t)
    clear e1 e2 e3
    have x1 := HX1.out.c0 ⟨V, Below.refl _ _⟩
    have y1 := HX1.out.c1 ⟨V, Below.refl _ _⟩
    simp only at x1 y1
    rw [HV.out] at x1 y1
    go_enter Try.func9, Try.ntmps9
    go_wp2_with fail
    rw [← HV.out]
    clear x1 y1
    have a1 := HX1.out.c0
    have b1 := HX1.out.c1
    generalize w.heap.size = H at a1 b1 ⊢
    obtain ⟨z0, hz0⟩ := LatW.start V
    rw [← hz0]
    clear hz0
    first | (go_at_call 18; refine ((HP.out).at_ _).mono ?_; rintro e w9 ⟨rfl, z9, rfl⟩) | (go_at_call 23; refine ((HC.out).at_ _).mono ?_; rintro e w9 ⟨rfl, z9, rfl⟩) | (go_at_call 24; refine ((HH.out).at_ _).mono ?_; rintro e w9 ⟨rfl, z9, rfl⟩) | (go_at_call 25; refine ((HS.out).at_ _).mono ?_; rintro e w9 ⟨rfl, z9, rfl⟩) | (go_at_call 11; refine ((HAw.out).at_ _).mono ?_; rintro e w9 ⟨rfl, z9, rfl⟩)
    go_wp2_with (first | (go_at_call 18; refine ((HP.out).at_ _).mono ?_; rintro e w9 ⟨rfl, z9, rfl⟩) | (go_at_call 23; refine ((HC.out).at_ _).mono ?_; rintro e w9 ⟨rfl, z9, rfl⟩) | (go_at_call 24; refine ((HH.out).at_ _).mono ?_; rintro e w9 ⟨rfl, z9, rfl⟩) | (go_at_call 25; refine ((HS.out).at_ _).mono ?_; rintro e w9 ⟨rfl, z9, rfl⟩) | (go_at_call 11; refine ((HAw.out).at_ _).mono ?_; rintro e w9 ⟨rfl, z9, rfl⟩))
    refine wp_region_in (LatW.bel _) (by kernel_rfl) (by kernel_rfl) ?_
    repeat (first | go_big_quiet_skip | quiet_step (first | (go_at_call 18; exact (HP.out).at_ _) | (go_at_call 23; exact (HC.out).at_ _) | (go_at_call 24; exact (HH.out).at_ _) | (go_at_call 25; exact (HS.out).at_ _) | (go_at_call 11; exact (HAw.out).at_ _)) | (go_big_quiet_want; go_big_quiet_op; go_big_quiet_on))
    refine wpQuiet_nil ?_
    intro w9 hw9
    obtain ⟨z9, hw9'⟩ := hw9
    subst hw9'
    go_wp2_with (first | (go_at_call 18; refine ((HP.out).at_ _).mono ?_; rintro e w9 ⟨rfl, z9, rfl⟩) | (go_at_call 23; refine ((HC.out).at_ _).mono ?_; rintro e w9 ⟨rfl, z9, rfl⟩) | (go_at_call 24; refine ((HH.out).at_ _).mono ?_; rintro e w9 ⟨rfl, z9, rfl⟩) | (go_at_call 25; refine ((HS.out).at_ _).mono ?_; rintro e w9 ⟨rfl, z9, rfl⟩) | (go_at_call 11; refine ((HAw.out).at_ _).mono ?_; rintro e w9 ⟨rfl, z9, rfl⟩))
    go_ret
    exact ⟨rfl, lat_end HBV.out _⟩
set_option maxHeartbeats 8000000 in
set_option maxRecDepth 100000 in
theorem LineEpochs_walk {w : World} {A1 : Option Addr} {c1 : Nat} {l1 : List Br} {q1 : Int} (s : Int) (h1 : BrsAt w w.heap.size A1 l1) (f1 : BrsFit l1)  :
    Calls Try.prog 4 #[.agg #[.slice A1 l1.length c1, .int .i64 q1], .int .i64 s] w fun e w' => e = .returned (.bool true) ∧ Below w.heap.size w w' := by
  obtain ⟨V, hV⟩ : ∃ V, V = w.alloc (.cells #[.slice A1 l1.length c1, .int .i64 q1] 36 (0, 0)) := ⟨_, rfl⟩
  have HBV : Hid (Below w.heap.size w V) := Lib.hid (by rw [hV]; exact below_one _ _)
  have HX1 : Hid (PosBox V (w.heap.size) A1 l1.length c1 q1) := Lib.hid (by rw [hV]; exact PosBox.of (heap_new _ _))
  have HA1 := Lib.hid (fun (z : LatW V) => h1.lat HBV.out z)
  have s1 := f1.1
  have HV := Lib.hid hV
  have HAw : Hid (LatCalls Try.prog V 11 #[] (.bool true)) := Lib.hid (LatCalls.of fun z => awake11_any z.wd)
  clear hV h1
  cases g1 : decide ((100 : Int) < (l1.length : Int)) with
  | true =>
    have x1 := HX1.out.c0 ⟨V, Below.refl _ _⟩
    have y1 := HX1.out.c1 ⟨V, Below.refl _ _⟩
    simp only at x1 y1
    rw [HV.out] at x1 y1
    go_enter Try.func4, Try.ntmps4
    go_wp2_with fail
    rw [← HV.out]
    clear x1 y1
    have a1 := HX1.out.c0
    have b1 := HX1.out.c1
    generalize w.heap.size = H at a1 b1 ⊢
    obtain ⟨z0, hz0⟩ := LatW.start V
    rw [← hz0]
    clear hz0
    first | (go_at_call 11; refine ((HAw.out).at_ _).mono ?_; rintro e w9 ⟨rfl, z9, rfl⟩)
    go_wp2_with (first | (go_at_call 11; refine ((HAw.out).at_ _).mono ?_; rintro e w9 ⟨rfl, z9, rfl⟩))
    go_ret
    exact ⟨rfl, lat_end HBV.out _⟩
  | false =>
  cases ok : placedB l1 q1 with
  | false =>
    have ee : epochP l1 q1 s = 0 := epochP_no ok
    have HP : Hid (LatCalls Try.prog V 18 #[.agg #[.slice A1 l1.length c1, .int .i64 q1]] (.bool false)) := Lib.hid (LatCalls.of fun z => by have t := Placed_any (c := c1) (q := q1) (HA1.out z) s1; rw [ok] at t; exact t)
    have HD : Hid (LatCalls Try.prog V 19 #[.agg #[.slice A1 l1.length c1, .int .i64 q1]] (.bool false)) := Lib.hid (LatCalls.of fun z => by have t := DPlaced_any (c := c1) (q := q1) (HA1.out z) s1; rw [ok] at t; exact t)
    have HE : Hid (LatCalls Try.prog V 20 #[.agg #[.slice A1 l1.length c1, .int .i64 q1], .int .i64 s] (.int .i64 0)) := Lib.hid (LatCalls.of fun z => by have t := Epoch_any (c := c1) (q := q1) s (HA1.out z) s1; rw [ee] at t; exact t)
    clear ee
    have x1 := HX1.out.c0 ⟨V, Below.refl _ _⟩
    have y1 := HX1.out.c1 ⟨V, Below.refl _ _⟩
    simp only at x1 y1
    rw [HV.out] at x1 y1
    go_enter Try.func4, Try.ntmps4
    go_wp2_with fail
    rw [← HV.out]
    clear x1 y1
    have a1 := HX1.out.c0
    have b1 := HX1.out.c1
    generalize w.heap.size = H at a1 b1 ⊢
    obtain ⟨z0, hz0⟩ := LatW.start V
    rw [← hz0]
    clear hz0
    refine wp_region_in (LatW.bel _) (by kernel_rfl) (by kernel_rfl) ?_
    repeat (first | go_big_quiet_skip | quiet_step (first | (go_at_call 18; exact (HP.out).at_ _) | (go_at_call 19; exact (HD.out).at_ _) | (go_at_call 20; exact (HE.out).at_ _) | (go_at_call 11; exact (HAw.out).at_ _)) | (go_big_quiet_want; go_big_quiet_op; go_big_quiet_on))
    refine wpQuiet_nil ?_
    intro w9 hw9
    obtain ⟨z9, hw9'⟩ := hw9
    subst hw9'
    go_wp2_with (first | (go_at_call 18; refine ((HP.out).at_ _).mono ?_; rintro e w9 ⟨rfl, z9, rfl⟩) | (go_at_call 19; refine ((HD.out).at_ _).mono ?_; rintro e w9 ⟨rfl, z9, rfl⟩) | (go_at_call 20; refine ((HE.out).at_ _).mono ?_; rintro e w9 ⟨rfl, z9, rfl⟩) | (go_at_call 11; refine ((HAw.out).at_ _).mono ?_; rintro e w9 ⟨rfl, z9, rfl⟩))
    go_ret
    exact ⟨rfl, lat_end HBV.out _⟩
  | true =>
  cases k1 : decide (s < 1) with
  | true =>
    have ee : epochP l1 q1 s = 0 := epochP_low (of_decide_eq_true k1)
    have HP : Hid (LatCalls Try.prog V 18 #[.agg #[.slice A1 l1.length c1, .int .i64 q1]] (.bool true)) := Lib.hid (LatCalls.of fun z => by have t := Placed_any (c := c1) (q := q1) (HA1.out z) s1; rw [ok] at t; exact t)
    have HD : Hid (LatCalls Try.prog V 19 #[.agg #[.slice A1 l1.length c1, .int .i64 q1]] (.bool true)) := Lib.hid (LatCalls.of fun z => by have t := DPlaced_any (c := c1) (q := q1) (HA1.out z) s1; rw [ok] at t; exact t)
    have HE : Hid (LatCalls Try.prog V 20 #[.agg #[.slice A1 l1.length c1, .int .i64 q1], .int .i64 s] (.int .i64 0)) := Lib.hid (LatCalls.of fun z => by have t := Epoch_any (c := c1) (q := q1) s (HA1.out z) s1; rw [ee] at t; exact t)
    clear ee
    have x1 := HX1.out.c0 ⟨V, Below.refl _ _⟩
    have y1 := HX1.out.c1 ⟨V, Below.refl _ _⟩
    simp only at x1 y1
    rw [HV.out] at x1 y1
    go_enter Try.func4, Try.ntmps4
    go_wp2_with fail
    rw [← HV.out]
    clear x1 y1
    have a1 := HX1.out.c0
    have b1 := HX1.out.c1
    generalize w.heap.size = H at a1 b1 ⊢
    obtain ⟨z0, hz0⟩ := LatW.start V
    rw [← hz0]
    clear hz0
    refine wp_region_in (LatW.bel _) (by kernel_rfl) (by kernel_rfl) ?_
    repeat (first | go_big_quiet_skip | quiet_step (first | (go_at_call 18; exact (HP.out).at_ _) | (go_at_call 19; exact (HD.out).at_ _) | (go_at_call 20; exact (HE.out).at_ _) | (go_at_call 11; exact (HAw.out).at_ _)) | (go_big_quiet_want; go_big_quiet_op; go_big_quiet_on))
    refine wpQuiet_nil ?_
    intro w9 hw9
    obtain ⟨z9, hw9'⟩ := hw9
    subst hw9'
    go_wp2_with (first | (go_at_call 18; refine ((HP.out).at_ _).mono ?_; rintro e w9 ⟨rfl, z9, rfl⟩) | (go_at_call 19; refine ((HD.out).at_ _).mono ?_; rintro e w9 ⟨rfl, z9, rfl⟩) | (go_at_call 20; refine ((HE.out).at_ _).mono ?_; rintro e w9 ⟨rfl, z9, rfl⟩) | (go_at_call 11; refine ((HAw.out).at_ _).mono ?_; rintro e w9 ⟨rfl, z9, rfl⟩))
    go_ret
    exact ⟨rfl, lat_end HBV.out _⟩
  | false =>
  cases k2 : decide (q1 < s) with
  | true =>
    have ee : epochP l1 q1 s = 0 := epochP_high (of_decide_eq_true k2)
    have HP : Hid (LatCalls Try.prog V 18 #[.agg #[.slice A1 l1.length c1, .int .i64 q1]] (.bool true)) := Lib.hid (LatCalls.of fun z => by have t := Placed_any (c := c1) (q := q1) (HA1.out z) s1; rw [ok] at t; exact t)
    have HD : Hid (LatCalls Try.prog V 19 #[.agg #[.slice A1 l1.length c1, .int .i64 q1]] (.bool true)) := Lib.hid (LatCalls.of fun z => by have t := DPlaced_any (c := c1) (q := q1) (HA1.out z) s1; rw [ok] at t; exact t)
    have HE : Hid (LatCalls Try.prog V 20 #[.agg #[.slice A1 l1.length c1, .int .i64 q1], .int .i64 s] (.int .i64 0)) := Lib.hid (LatCalls.of fun z => by have t := Epoch_any (c := c1) (q := q1) s (HA1.out z) s1; rw [ee] at t; exact t)
    clear ee
    have x1 := HX1.out.c0 ⟨V, Below.refl _ _⟩
    have y1 := HX1.out.c1 ⟨V, Below.refl _ _⟩
    simp only at x1 y1
    rw [HV.out] at x1 y1
    go_enter Try.func4, Try.ntmps4
    go_wp2_with fail
    rw [← HV.out]
    clear x1 y1
    have a1 := HX1.out.c0
    have b1 := HX1.out.c1
    generalize w.heap.size = H at a1 b1 ⊢
    obtain ⟨z0, hz0⟩ := LatW.start V
    rw [← hz0]
    clear hz0
    refine wp_region_in (LatW.bel _) (by kernel_rfl) (by kernel_rfl) ?_
    repeat (first | go_big_quiet_skip | quiet_step (first | (go_at_call 18; exact (HP.out).at_ _) | (go_at_call 19; exact (HD.out).at_ _) | (go_at_call 20; exact (HE.out).at_ _) | (go_at_call 11; exact (HAw.out).at_ _)) | (go_big_quiet_want; go_big_quiet_op; go_big_quiet_on))
    refine wpQuiet_nil ?_
    intro w9 hw9
    obtain ⟨z9, hw9'⟩ := hw9
    subst hw9'
    go_wp2_with (first | (go_at_call 18; refine ((HP.out).at_ _).mono ?_; rintro e w9 ⟨rfl, z9, rfl⟩) | (go_at_call 19; refine ((HD.out).at_ _).mono ?_; rintro e w9 ⟨rfl, z9, rfl⟩) | (go_at_call 20; refine ((HE.out).at_ _).mono ?_; rintro e w9 ⟨rfl, z9, rfl⟩) | (go_at_call 11; refine ((HAw.out).at_ _).mono ?_; rintro e w9 ⟨rfl, z9, rfl⟩))
    go_ret
    exact ⟨rfl, lat_end HBV.out _⟩
  | false =>
    have ee : epochP l1 q1 s = epochB l1 s := by unfold epochP; rw [if_pos ⟨ok, by have := of_decide_eq_false k1; omega, by have := of_decide_eq_false k2; omega⟩]
    obtain ⟨ev, hev⟩ : ∃ ev, epochB l1 s = ev := ⟨_, rfl⟩
    rw [hev] at ee
    have HP : Hid (LatCalls Try.prog V 18 #[.agg #[.slice A1 l1.length c1, .int .i64 q1]] (.bool true)) := Lib.hid (LatCalls.of fun z => by have t := Placed_any (c := c1) (q := q1) (HA1.out z) s1; rw [ok] at t; exact t)
    have HD : Hid (LatCalls Try.prog V 19 #[.agg #[.slice A1 l1.length c1, .int .i64 q1]] (.bool true)) := Lib.hid (LatCalls.of fun z => by have t := DPlaced_any (c := c1) (q := q1) (HA1.out z) s1; rw [ok] at t; exact t)
    have HE : Hid (LatCalls Try.prog V 20 #[.agg #[.slice A1 l1.length c1, .int .i64 q1], .int .i64 s] (.int .i64 ev)) := Lib.hid (LatCalls.of fun z => by have t := Epoch_any (c := c1) (q := q1) s (HA1.out z) s1; rw [ee] at t; exact t)
    have HQ : Hid (LatCalls Try.prog V 21 #[.slice A1 l1.length c1, .int .i64 s] (.int .i64 ev)) := Lib.hid (LatCalls.of fun z => by have t := DEpoch_any (c := c1) s (HA1.out z) s1; rw [hev] at t; exact t)
    clear ee hev
    have x1 := HX1.out.c0 ⟨V, Below.refl _ _⟩
    have y1 := HX1.out.c1 ⟨V, Below.refl _ _⟩
    simp only at x1 y1
    rw [HV.out] at x1 y1
    go_enter Try.func4, Try.ntmps4
    go_wp2_with fail
    rw [← HV.out]
    clear x1 y1
    have a1 := HX1.out.c0
    have b1 := HX1.out.c1
    generalize w.heap.size = H at a1 b1 ⊢
    obtain ⟨z0, hz0⟩ := LatW.start V
    rw [← hz0]
    clear hz0
    refine wp_region_in (LatW.bel _) (by kernel_rfl) (by kernel_rfl) ?_
    repeat (first | go_big_quiet_skip | quiet_step (first | (go_at_call 18; exact (HP.out).at_ _) | (go_at_call 19; exact (HD.out).at_ _) | (go_at_call 20; exact (HE.out).at_ _) | (go_at_call 11; exact (HAw.out).at_ _) | (go_at_call 21; exact (HQ.out).at_ _)) | (go_big_quiet_want; go_big_quiet_op; go_big_quiet_on))
    refine wpQuiet_nil ?_
    intro w9 hw9
    obtain ⟨z9, hw9'⟩ := hw9
    subst hw9'
    go_wp2_with (first | (go_at_call 18; refine ((HP.out).at_ _).mono ?_; rintro e w9 ⟨rfl, z9, rfl⟩) | (go_at_call 19; refine ((HD.out).at_ _).mono ?_; rintro e w9 ⟨rfl, z9, rfl⟩) | (go_at_call 20; refine ((HE.out).at_ _).mono ?_; rintro e w9 ⟨rfl, z9, rfl⟩) | (go_at_call 11; refine ((HAw.out).at_ _).mono ?_; rintro e w9 ⟨rfl, z9, rfl⟩) | (go_at_call 21; refine ((HQ.out).at_ _).mono ?_; rintro e w9 ⟨rfl, z9, rfl⟩))
    refine wp_region_in (LatW.bel _) (by kernel_rfl) (by kernel_rfl) ?_
    repeat (first | go_big_quiet_skip | quiet_step (first | (go_at_call 18; exact (HP.out).at_ _) | (go_at_call 19; exact (HD.out).at_ _) | (go_at_call 20; exact (HE.out).at_ _) | (go_at_call 11; exact (HAw.out).at_ _) | (go_at_call 21; exact (HQ.out).at_ _)) | (go_big_quiet_want; go_big_quiet_op; go_big_quiet_on))
    refine wpQuiet_nil ?_
    intro w9 hw9
    obtain ⟨z9, hw9'⟩ := hw9
    subst hw9'
    go_wp2_with (first | (go_at_call 18; refine ((HP.out).at_ _).mono ?_; rintro e w9 ⟨rfl, z9, rfl⟩) | (go_at_call 19; refine ((HD.out).at_ _).mono ?_; rintro e w9 ⟨rfl, z9, rfl⟩) | (go_at_call 20; refine ((HE.out).at_ _).mono ?_; rintro e w9 ⟨rfl, z9, rfl⟩) | (go_at_call 11; refine ((HAw.out).at_ _).mono ?_; rintro e w9 ⟨rfl, z9, rfl⟩) | (go_at_call 21; refine ((HQ.out).at_ _).mono ?_; rintro e w9 ⟨rfl, z9, rfl⟩))
    go_ret
    exact ⟨rfl, lat_end HBV.out _⟩
set_option maxHeartbeats 8000000 in
set_option maxRecDepth 100000 in
theorem LineAgrees_walk {w : World} {A1 : Option Addr} {c1 : Nat} {l1 : List Br} {q1 : Int} {A2 : Option Addr} {c2 : Nat} {l2 : List Br} {q2 : Int} (s : Int) (h1 : BrsAt w w.heap.size A1 l1) (f1 : BrsFit l1) (h2 : BrsAt w w.heap.size A2 l2) (f2 : BrsFit l2)  :
    Calls Try.prog 6 #[.agg #[.slice A1 l1.length c1, .int .i64 q1], .agg #[.slice A2 l2.length c2, .int .i64 q2], .int .i64 s] w fun e w' => e = .returned (.bool true) ∧ Below w.heap.size w w' := by
  obtain ⟨V, hV⟩ : ∃ V, V = (w.alloc (.cells #[.slice A1 l1.length c1, .int .i64 q1] 36 (0, 0))).alloc (.cells #[.slice A2 l2.length c2, .int .i64 q2] 36 (0, 0)) := ⟨_, rfl⟩
  have HBV : Hid (Below w.heap.size w V) := Lib.hid (by rw [hV]; exact below_two _ _ _)
  have HX1 : Hid (PosBox V (w.heap.size) A1 l1.length c1 q1) := Lib.hid (by rw [hV]; exact PosBox.of (heap_first _ _ _))
  have HA1 := Lib.hid (fun (z : LatW V) => h1.lat HBV.out z)
  have s1 := f1.1
  have HX2 : Hid (PosBox V (w.heap.size + 1) A2 l2.length c2 q2) := Lib.hid (by rw [hV]; exact PosBox.of (heap_second _ _ _))
  have HA2 := Lib.hid (fun (z : LatW V) => h2.lat HBV.out z)
  have s2 := f2.1
  have HV := Lib.hid hV
  have HAw : Hid (LatCalls Try.prog V 11 #[] (.bool true)) := Lib.hid (LatCalls.of fun z => awake11_any z.wd)
  clear hV h1 h2
  cases g1 : decide ((100 : Int) < (l1.length : Int)) with
  | true =>
    have x1 := HX1.out.c0 ⟨V, Below.refl _ _⟩
    have y1 := HX1.out.c1 ⟨V, Below.refl _ _⟩
    simp only at x1 y1
    rw [HV.out] at x1 y1
    have x2 := HX2.out.c0 ⟨V, Below.refl _ _⟩
    have y2 := HX2.out.c1 ⟨V, Below.refl _ _⟩
    simp only at x2 y2
    rw [HV.out] at x2 y2
    go_enter Try.func6, Try.ntmps6
    go_wp2_with fail
    rw [← HV.out]
    clear x1 y1 x2 y2
    have a1 := HX1.out.c0
    have b1 := HX1.out.c1
    have a2 := HX2.out.c0
    have b2 := HX2.out.c1
    generalize w.heap.size = H at a1 b1 a2 b2 ⊢
    obtain ⟨z0, hz0⟩ := LatW.start V
    rw [← hz0]
    clear hz0
    first | (go_at_call 11; refine ((HAw.out).at_ _).mono ?_; rintro e w9 ⟨rfl, z9, rfl⟩)
    go_wp2_with (first | (go_at_call 11; refine ((HAw.out).at_ _).mono ?_; rintro e w9 ⟨rfl, z9, rfl⟩))
    go_ret
    exact ⟨rfl, lat_end HBV.out _⟩
  | false =>
  cases g2 : decide ((100 : Int) < (l2.length : Int)) with
  | true =>
    have x1 := HX1.out.c0 ⟨V, Below.refl _ _⟩
    have y1 := HX1.out.c1 ⟨V, Below.refl _ _⟩
    simp only at x1 y1
    rw [HV.out] at x1 y1
    have x2 := HX2.out.c0 ⟨V, Below.refl _ _⟩
    have y2 := HX2.out.c1 ⟨V, Below.refl _ _⟩
    simp only at x2 y2
    rw [HV.out] at x2 y2
    go_enter Try.func6, Try.ntmps6
    go_wp2_with fail
    rw [← HV.out]
    clear x1 y1 x2 y2
    have a1 := HX1.out.c0
    have b1 := HX1.out.c1
    have a2 := HX2.out.c0
    have b2 := HX2.out.c1
    generalize w.heap.size = H at a1 b1 a2 b2 ⊢
    obtain ⟨z0, hz0⟩ := LatW.start V
    rw [← hz0]
    clear hz0
    first | (go_at_call 11; refine ((HAw.out).at_ _).mono ?_; rintro e w9 ⟨rfl, z9, rfl⟩)
    go_wp2_with (first | (go_at_call 11; refine ((HAw.out).at_ _).mono ?_; rintro e w9 ⟨rfl, z9, rfl⟩))
    go_ret
    exact ⟨rfl, lat_end HBV.out _⟩
  | false =>
  have hle : commonB l1 q1 l2 q2 ≤ q1 ∨ commonB l1 q1 l2 q2 = -1 := common_or l1 q1 l2 q2
  have hep := fun h1 h2 => @common_epoch l1 l2 q1 q2 s h1 h2
  obtain ⟨cn, hcn⟩ : ∃ cn, commonB l1 q1 l2 q2 = cn := ⟨_, rfl⟩
  rw [hcn] at hle hep
  have HC : Hid (LatCalls Try.prog V 23 #[.agg #[.slice A1 l1.length c1, .int .i64 q1], .agg #[.slice A2 l2.length c2, .int .i64 q2]] (.int .i64 cn)) := Lib.hid (LatCalls.of fun z => by have t := Common_any (c1 := c1) (c2 := c2) (p := q1) (q := q2) (HA1.out z) (HA2.out z) s1 s2; rw [hcn] at t; exact t)
  clear hcn
  cases k1 : decide (s < 1) with
  | true =>
    clear hep
    cases k3 : decide (cn ≤ q1) with
    | true =>
      clear hle
      have x1 := HX1.out.c0 ⟨V, Below.refl _ _⟩
      have y1 := HX1.out.c1 ⟨V, Below.refl _ _⟩
      simp only at x1 y1
      rw [HV.out] at x1 y1
      have x2 := HX2.out.c0 ⟨V, Below.refl _ _⟩
      have y2 := HX2.out.c1 ⟨V, Below.refl _ _⟩
      simp only at x2 y2
      rw [HV.out] at x2 y2
      go_enter Try.func6, Try.ntmps6
      go_wp2_with fail
      rw [← HV.out]
      clear x1 y1 x2 y2
      have a1 := HX1.out.c0
      have b1 := HX1.out.c1
      have a2 := HX2.out.c0
      have b2 := HX2.out.c1
      generalize w.heap.size = H at a1 b1 a2 b2 ⊢
      obtain ⟨z0, hz0⟩ := LatW.start V
      rw [← hz0]
      clear hz0
      first | (go_at_call 23; refine ((HC.out).at_ _).mono ?_; rintro e w9 ⟨rfl, z9, rfl⟩) | (go_at_call 11; refine ((HAw.out).at_ _).mono ?_; rintro e w9 ⟨rfl, z9, rfl⟩)
      go_wp2_with (first | (go_at_call 23; refine ((HC.out).at_ _).mono ?_; rintro e w9 ⟨rfl, z9, rfl⟩) | (go_at_call 11; refine ((HAw.out).at_ _).mono ?_; rintro e w9 ⟨rfl, z9, rfl⟩))
      go_ret
      exact ⟨rfl, lat_end HBV.out _⟩
    | false =>
      obtain rfl : cn = -1 := by have := of_decide_eq_false k3; omega
      clear hle
      have x1 := HX1.out.c0 ⟨V, Below.refl _ _⟩
      have y1 := HX1.out.c1 ⟨V, Below.refl _ _⟩
      simp only at x1 y1
      rw [HV.out] at x1 y1
      have x2 := HX2.out.c0 ⟨V, Below.refl _ _⟩
      have y2 := HX2.out.c1 ⟨V, Below.refl _ _⟩
      simp only at x2 y2
      rw [HV.out] at x2 y2
      go_enter Try.func6, Try.ntmps6
      go_wp2_with fail
      rw [← HV.out]
      clear x1 y1 x2 y2
      have a1 := HX1.out.c0
      have b1 := HX1.out.c1
      have a2 := HX2.out.c0
      have b2 := HX2.out.c1
      generalize w.heap.size = H at a1 b1 a2 b2 ⊢
      obtain ⟨z0, hz0⟩ := LatW.start V
      rw [← hz0]
      clear hz0
      first | (go_at_call 23; refine ((HC.out).at_ _).mono ?_; rintro e w9 ⟨rfl, z9, rfl⟩) | (go_at_call 11; refine ((HAw.out).at_ _).mono ?_; rintro e w9 ⟨rfl, z9, rfl⟩)
      go_wp2_with (first | (go_at_call 23; refine ((HC.out).at_ _).mono ?_; rintro e w9 ⟨rfl, z9, rfl⟩) | (go_at_call 11; refine ((HAw.out).at_ _).mono ?_; rintro e w9 ⟨rfl, z9, rfl⟩))
      go_ret
      exact ⟨rfl, lat_end HBV.out _⟩
  | false =>
  cases k2 : decide (cn < s) with
  | true =>
    clear hep
    cases k3 : decide (cn ≤ q1) with
    | true =>
      clear hle
      have x1 := HX1.out.c0 ⟨V, Below.refl _ _⟩
      have y1 := HX1.out.c1 ⟨V, Below.refl _ _⟩
      simp only at x1 y1
      rw [HV.out] at x1 y1
      have x2 := HX2.out.c0 ⟨V, Below.refl _ _⟩
      have y2 := HX2.out.c1 ⟨V, Below.refl _ _⟩
      simp only at x2 y2
      rw [HV.out] at x2 y2
      go_enter Try.func6, Try.ntmps6
      go_wp2_with fail
      rw [← HV.out]
      clear x1 y1 x2 y2
      have a1 := HX1.out.c0
      have b1 := HX1.out.c1
      have a2 := HX2.out.c0
      have b2 := HX2.out.c1
      generalize w.heap.size = H at a1 b1 a2 b2 ⊢
      obtain ⟨z0, hz0⟩ := LatW.start V
      rw [← hz0]
      clear hz0
      first | (go_at_call 23; refine ((HC.out).at_ _).mono ?_; rintro e w9 ⟨rfl, z9, rfl⟩) | (go_at_call 11; refine ((HAw.out).at_ _).mono ?_; rintro e w9 ⟨rfl, z9, rfl⟩)
      go_wp2_with (first | (go_at_call 23; refine ((HC.out).at_ _).mono ?_; rintro e w9 ⟨rfl, z9, rfl⟩) | (go_at_call 11; refine ((HAw.out).at_ _).mono ?_; rintro e w9 ⟨rfl, z9, rfl⟩))
      go_ret
      exact ⟨rfl, lat_end HBV.out _⟩
    | false =>
      obtain rfl : cn = -1 := by have := of_decide_eq_false k3; omega
      clear hle
      have x1 := HX1.out.c0 ⟨V, Below.refl _ _⟩
      have y1 := HX1.out.c1 ⟨V, Below.refl _ _⟩
      simp only at x1 y1
      rw [HV.out] at x1 y1
      have x2 := HX2.out.c0 ⟨V, Below.refl _ _⟩
      have y2 := HX2.out.c1 ⟨V, Below.refl _ _⟩
      simp only at x2 y2
      rw [HV.out] at x2 y2
      go_enter Try.func6, Try.ntmps6
      go_wp2_with fail
      rw [← HV.out]
      clear x1 y1 x2 y2
      have a1 := HX1.out.c0
      have b1 := HX1.out.c1
      have a2 := HX2.out.c0
      have b2 := HX2.out.c1
      generalize w.heap.size = H at a1 b1 a2 b2 ⊢
      obtain ⟨z0, hz0⟩ := LatW.start V
      rw [← hz0]
      clear hz0
      first | (go_at_call 23; refine ((HC.out).at_ _).mono ?_; rintro e w9 ⟨rfl, z9, rfl⟩) | (go_at_call 11; refine ((HAw.out).at_ _).mono ?_; rintro e w9 ⟨rfl, z9, rfl⟩)
      go_wp2_with (first | (go_at_call 23; refine ((HC.out).at_ _).mono ?_; rintro e w9 ⟨rfl, z9, rfl⟩) | (go_at_call 11; refine ((HAw.out).at_ _).mono ?_; rintro e w9 ⟨rfl, z9, rfl⟩))
      go_ret
      exact ⟨rfl, lat_end HBV.out _⟩
  | false =>
    have hh := hep (by have := of_decide_eq_false k1; omega) (by have := of_decide_eq_false k2; omega)
    obtain ⟨ev, hev⟩ : ∃ ev, epochP l1 q1 s = ev := ⟨_, rfl⟩
    obtain ⟨e1, e2⟩ := hh
    rw [hev] at e1 e2
    have e3 := e1.symm
    have kp : decide (0 < ev) = true := by rw [decide_eq_true_iff]; omega
    have HE1 : Hid (LatCalls Try.prog V 20 #[.agg #[.slice A1 l1.length c1, .int .i64 q1], .int .i64 s] (.int .i64 ev)) := Lib.hid (LatCalls.of fun z => by have t := Epoch_any (c := c1) (q := q1) s (HA1.out z) s1; rw [hev] at t; exact t)
    have HE2 : Hid (LatCalls Try.prog V 20 #[.agg #[.slice A2 l2.length c2, .int .i64 q2], .int .i64 s] (.int .i64 ev)) := Lib.hid (LatCalls.of fun z => by have t := Epoch_any (c := c2) (q := q2) s (HA2.out z) s2; rw [e3] at t; exact t)
    clear hev e1 e2 e3 hep hle
    have x1 := HX1.out.c0 ⟨V, Below.refl _ _⟩
    have y1 := HX1.out.c1 ⟨V, Below.refl _ _⟩
    simp only at x1 y1
    rw [HV.out] at x1 y1
    have x2 := HX2.out.c0 ⟨V, Below.refl _ _⟩
    have y2 := HX2.out.c1 ⟨V, Below.refl _ _⟩
    simp only at x2 y2
    rw [HV.out] at x2 y2
    go_enter Try.func6, Try.ntmps6
    go_wp2_with fail
    rw [← HV.out]
    clear x1 y1 x2 y2
    have a1 := HX1.out.c0
    have b1 := HX1.out.c1
    have a2 := HX2.out.c0
    have b2 := HX2.out.c1
    generalize w.heap.size = H at a1 b1 a2 b2 ⊢
    obtain ⟨z0, hz0⟩ := LatW.start V
    rw [← hz0]
    clear hz0
    first | (go_at_call 23; refine ((HC.out).at_ _).mono ?_; rintro e w9 ⟨rfl, z9, rfl⟩) | (go_at_call 11; refine ((HAw.out).at_ _).mono ?_; rintro e w9 ⟨rfl, z9, rfl⟩) | (go_at_call 20; (first | with_reducible refine ((HE1.out).at_ _).mono ?_ | with_reducible refine ((HE2.out).at_ _).mono ?_); rintro e w9 ⟨rfl, z9, rfl⟩)
    go_wp2_with (first | (go_at_call 23; refine ((HC.out).at_ _).mono ?_; rintro e w9 ⟨rfl, z9, rfl⟩) | (go_at_call 11; refine ((HAw.out).at_ _).mono ?_; rintro e w9 ⟨rfl, z9, rfl⟩) | (go_at_call 20; (first | with_reducible refine ((HE1.out).at_ _).mono ?_ | with_reducible refine ((HE2.out).at_ _).mono ?_); rintro e w9 ⟨rfl, z9, rfl⟩))
    refine wp_region_in (LatW.bel _) (by kernel_rfl) (by kernel_rfl) ?_
    repeat (first | go_big_quiet_skip | quiet_step (first | (go_at_call 23; exact (HC.out).at_ _) | (go_at_call 11; exact (HAw.out).at_ _) | (go_at_call 20; (first | with_reducible exact (HE1.out).at_ _ | with_reducible exact (HE2.out).at_ _))) | (go_big_quiet_want; go_big_quiet_op; go_big_quiet_on))
    refine wpQuiet_nil ?_
    intro w9 hw9
    obtain ⟨z9, hw9'⟩ := hw9
    subst hw9'
    go_wp2_with (first | (go_at_call 23; refine ((HC.out).at_ _).mono ?_; rintro e w9 ⟨rfl, z9, rfl⟩) | (go_at_call 11; refine ((HAw.out).at_ _).mono ?_; rintro e w9 ⟨rfl, z9, rfl⟩) | (go_at_call 20; (first | with_reducible refine ((HE1.out).at_ _).mono ?_ | with_reducible refine ((HE2.out).at_ _).mono ?_); rintro e w9 ⟨rfl, z9, rfl⟩))
    go_ret
    exact ⟨rfl, lat_end HBV.out _⟩
set_option maxHeartbeats 8000000 in
set_option maxRecDepth 100000 in
theorem LineChain_walk {w : World} {A1 : Option Addr} {c1 : Nat} {l1 : List Br} {q1 : Int} {A2 : Option Addr} {c2 : Nat} {l2 : List Br} {q2 : Int} {A3 : Option Addr} {c3 : Nat} {l3 : List Br} {q3 : Int}  (h1 : BrsAt w w.heap.size A1 l1) (f1 : BrsFit l1) (h2 : BrsAt w w.heap.size A2 l2) (f2 : BrsFit l2) (h3 : BrsAt w w.heap.size A3 l3) (f3 : BrsFit l3)  :
    Calls Try.prog 10 #[.agg #[.slice A1 l1.length c1, .int .i64 q1], .agg #[.slice A2 l2.length c2, .int .i64 q2], .agg #[.slice A3 l3.length c3, .int .i64 q3]] w fun e w' => e = .returned (.bool true) ∧ Below w.heap.size w w' := by
  obtain ⟨V, hV⟩ : ∃ V, V = ((w.alloc (.cells #[.slice A1 l1.length c1, .int .i64 q1] 36 (0, 0))).alloc (.cells #[.slice A2 l2.length c2, .int .i64 q2] 36 (0, 0))).alloc (.cells #[.slice A3 l3.length c3, .int .i64 q3] 36 (0, 0)) := ⟨_, rfl⟩
  have HBV : Hid (Below w.heap.size w V) := Lib.hid (by rw [hV]; exact below_three _ _ _ _)
  have HX1 : Hid (PosBox V (w.heap.size) A1 l1.length c1 q1) := Lib.hid (by rw [hV]; exact PosBox.of (heap_third1 _ _ _ _))
  have HA1 := Lib.hid (fun (z : LatW V) => h1.lat HBV.out z)
  have s1 := f1.1
  have HX2 : Hid (PosBox V (w.heap.size + 1) A2 l2.length c2 q2) := Lib.hid (by rw [hV]; exact PosBox.of (heap_third2 _ _ _ _))
  have HA2 := Lib.hid (fun (z : LatW V) => h2.lat HBV.out z)
  have s2 := f2.1
  have HX3 : Hid (PosBox V (w.heap.size + 1 + 1) A3 l3.length c3 q3) := Lib.hid (by rw [hV]; exact PosBox.of (heap_third3 _ _ _ _))
  have HA3 := Lib.hid (fun (z : LatW V) => h3.lat HBV.out z)
  have s3 := f3.1
  have HV := Lib.hid hV
  have HAw : Hid (LatCalls Try.prog V 11 #[] (.bool true)) := Lib.hid (LatCalls.of fun z => awake11_any z.wd)
  clear hV h1 h2 h3
  cases g1 : decide ((100 : Int) < (l1.length : Int)) with
  | true =>
    have x1 := HX1.out.c0 ⟨V, Below.refl _ _⟩
    have y1 := HX1.out.c1 ⟨V, Below.refl _ _⟩
    simp only at x1 y1
    rw [HV.out] at x1 y1
    have x2 := HX2.out.c0 ⟨V, Below.refl _ _⟩
    have y2 := HX2.out.c1 ⟨V, Below.refl _ _⟩
    simp only at x2 y2
    rw [HV.out] at x2 y2
    have x3 := HX3.out.c0 ⟨V, Below.refl _ _⟩
    have y3 := HX3.out.c1 ⟨V, Below.refl _ _⟩
    simp only at x3 y3
    rw [HV.out] at x3 y3
    go_enter Try.func10, Try.ntmps10
    go_wp2_with fail
    rw [← HV.out]
    clear x1 y1 x2 y2 x3 y3
    have a1 := HX1.out.c0
    have b1 := HX1.out.c1
    have a2 := HX2.out.c0
    have b2 := HX2.out.c1
    have a3 := HX3.out.c0
    have b3 := HX3.out.c1
    generalize w.heap.size = H at a1 b1 a2 b2 a3 b3 ⊢
    obtain ⟨z0, hz0⟩ := LatW.start V
    rw [← hz0]
    clear hz0
    first | (go_at_call 11; refine ((HAw.out).at_ _).mono ?_; rintro e w9 ⟨rfl, z9, rfl⟩)
    go_wp2_with (first | (go_at_call 11; refine ((HAw.out).at_ _).mono ?_; rintro e w9 ⟨rfl, z9, rfl⟩))
    go_ret
    exact ⟨rfl, lat_end HBV.out _⟩
  | false =>
  cases g2 : decide ((100 : Int) < (l2.length : Int)) with
  | true =>
    have x1 := HX1.out.c0 ⟨V, Below.refl _ _⟩
    have y1 := HX1.out.c1 ⟨V, Below.refl _ _⟩
    simp only at x1 y1
    rw [HV.out] at x1 y1
    have x2 := HX2.out.c0 ⟨V, Below.refl _ _⟩
    have y2 := HX2.out.c1 ⟨V, Below.refl _ _⟩
    simp only at x2 y2
    rw [HV.out] at x2 y2
    have x3 := HX3.out.c0 ⟨V, Below.refl _ _⟩
    have y3 := HX3.out.c1 ⟨V, Below.refl _ _⟩
    simp only at x3 y3
    rw [HV.out] at x3 y3
    go_enter Try.func10, Try.ntmps10
    go_wp2_with fail
    rw [← HV.out]
    clear x1 y1 x2 y2 x3 y3
    have a1 := HX1.out.c0
    have b1 := HX1.out.c1
    have a2 := HX2.out.c0
    have b2 := HX2.out.c1
    have a3 := HX3.out.c0
    have b3 := HX3.out.c1
    generalize w.heap.size = H at a1 b1 a2 b2 a3 b3 ⊢
    obtain ⟨z0, hz0⟩ := LatW.start V
    rw [← hz0]
    clear hz0
    first | (go_at_call 11; refine ((HAw.out).at_ _).mono ?_; rintro e w9 ⟨rfl, z9, rfl⟩)
    go_wp2_with (first | (go_at_call 11; refine ((HAw.out).at_ _).mono ?_; rintro e w9 ⟨rfl, z9, rfl⟩))
    go_ret
    exact ⟨rfl, lat_end HBV.out _⟩
  | false =>
  cases g3 : decide ((100 : Int) < (l3.length : Int)) with
  | true =>
    have x1 := HX1.out.c0 ⟨V, Below.refl _ _⟩
    have y1 := HX1.out.c1 ⟨V, Below.refl _ _⟩
    simp only at x1 y1
    rw [HV.out] at x1 y1
    have x2 := HX2.out.c0 ⟨V, Below.refl _ _⟩
    have y2 := HX2.out.c1 ⟨V, Below.refl _ _⟩
    simp only at x2 y2
    rw [HV.out] at x2 y2
    have x3 := HX3.out.c0 ⟨V, Below.refl _ _⟩
    have y3 := HX3.out.c1 ⟨V, Below.refl _ _⟩
    simp only at x3 y3
    rw [HV.out] at x3 y3
    go_enter Try.func10, Try.ntmps10
    go_wp2_with fail
    rw [← HV.out]
    clear x1 y1 x2 y2 x3 y3
    have a1 := HX1.out.c0
    have b1 := HX1.out.c1
    have a2 := HX2.out.c0
    have b2 := HX2.out.c1
    have a3 := HX3.out.c0
    have b3 := HX3.out.c1
    generalize w.heap.size = H at a1 b1 a2 b2 a3 b3 ⊢
    obtain ⟨z0, hz0⟩ := LatW.start V
    rw [← hz0]
    clear hz0
    first | (go_at_call 11; refine ((HAw.out).at_ _).mono ?_; rintro e w9 ⟨rfl, z9, rfl⟩)
    go_wp2_with (first | (go_at_call 11; refine ((HAw.out).at_ _).mono ?_; rintro e w9 ⟨rfl, z9, rfl⟩))
    go_ret
    exact ⟨rfl, lat_end HBV.out _⟩
  | false =>
  have H12 : Hid (LatCalls Try.prog V 24 #[.agg #[.slice A1 l1.length c1, .int .i64 q1], .agg #[.slice A2 l2.length c2, .int .i64 q2]] (.bool (aheadB l1 q1 l2 q2))) := Lib.hid (LatCalls.of fun z => Ahead_any (c1 := c1) (c2 := c2) (p := q1) (q := q2) (HA1.out z) (HA2.out z) s1 s2)
  have H23 : Hid (LatCalls Try.prog V 24 #[.agg #[.slice A2 l2.length c2, .int .i64 q2], .agg #[.slice A3 l3.length c3, .int .i64 q3]] (.bool (aheadB l2 q2 l3 q3))) := Lib.hid (LatCalls.of fun z => Ahead_any (c1 := c2) (c2 := c3) (p := q2) (q := q3) (HA2.out z) (HA3.out z) s2 s3)
  cases o1 : aheadB l1 q1 l2 q2 with
  | false =>
    rw [o1] at H12
    have x1 := HX1.out.c0 ⟨V, Below.refl _ _⟩
    have y1 := HX1.out.c1 ⟨V, Below.refl _ _⟩
    simp only at x1 y1
    rw [HV.out] at x1 y1
    have x2 := HX2.out.c0 ⟨V, Below.refl _ _⟩
    have y2 := HX2.out.c1 ⟨V, Below.refl _ _⟩
    simp only at x2 y2
    rw [HV.out] at x2 y2
    have x3 := HX3.out.c0 ⟨V, Below.refl _ _⟩
    have y3 := HX3.out.c1 ⟨V, Below.refl _ _⟩
    simp only at x3 y3
    rw [HV.out] at x3 y3
    go_enter Try.func10, Try.ntmps10
    go_wp2_with fail
    rw [← HV.out]
    clear x1 y1 x2 y2 x3 y3
    have a1 := HX1.out.c0
    have b1 := HX1.out.c1
    have a2 := HX2.out.c0
    have b2 := HX2.out.c1
    have a3 := HX3.out.c0
    have b3 := HX3.out.c1
    generalize w.heap.size = H at a1 b1 a2 b2 a3 b3 ⊢
    obtain ⟨z0, hz0⟩ := LatW.start V
    rw [← hz0]
    clear hz0
    first | (go_at_call 24; (first | with_reducible refine ((H12.out).at_ _).mono ?_ | with_reducible refine ((H23.out).at_ _).mono ?_); rintro e w9 ⟨rfl, z9, rfl⟩) | (go_at_call 11; refine ((HAw.out).at_ _).mono ?_; rintro e w9 ⟨rfl, z9, rfl⟩)
    go_wp2_with (first | (go_at_call 24; (first | with_reducible refine ((H12.out).at_ _).mono ?_ | with_reducible refine ((H23.out).at_ _).mono ?_); rintro e w9 ⟨rfl, z9, rfl⟩) | (go_at_call 11; refine ((HAw.out).at_ _).mono ?_; rintro e w9 ⟨rfl, z9, rfl⟩))
    go_ret
    exact ⟨rfl, lat_end HBV.out _⟩
  | true =>
  cases o2 : aheadB l2 q2 l3 q3 with
  | false =>
    rw [o1] at H12
    rw [o2] at H23
    have x1 := HX1.out.c0 ⟨V, Below.refl _ _⟩
    have y1 := HX1.out.c1 ⟨V, Below.refl _ _⟩
    simp only at x1 y1
    rw [HV.out] at x1 y1
    have x2 := HX2.out.c0 ⟨V, Below.refl _ _⟩
    have y2 := HX2.out.c1 ⟨V, Below.refl _ _⟩
    simp only at x2 y2
    rw [HV.out] at x2 y2
    have x3 := HX3.out.c0 ⟨V, Below.refl _ _⟩
    have y3 := HX3.out.c1 ⟨V, Below.refl _ _⟩
    simp only at x3 y3
    rw [HV.out] at x3 y3
    go_enter Try.func10, Try.ntmps10
    go_wp2_with fail
    rw [← HV.out]
    clear x1 y1 x2 y2 x3 y3
    have a1 := HX1.out.c0
    have b1 := HX1.out.c1
    have a2 := HX2.out.c0
    have b2 := HX2.out.c1
    have a3 := HX3.out.c0
    have b3 := HX3.out.c1
    generalize w.heap.size = H at a1 b1 a2 b2 a3 b3 ⊢
    obtain ⟨z0, hz0⟩ := LatW.start V
    rw [← hz0]
    clear hz0
    first | (go_at_call 24; (first | with_reducible refine ((H12.out).at_ _).mono ?_ | with_reducible refine ((H23.out).at_ _).mono ?_); rintro e w9 ⟨rfl, z9, rfl⟩) | (go_at_call 11; refine ((HAw.out).at_ _).mono ?_; rintro e w9 ⟨rfl, z9, rfl⟩)
    go_wp2_with (first | (go_at_call 24; (first | with_reducible refine ((H12.out).at_ _).mono ?_ | with_reducible refine ((H23.out).at_ _).mono ?_); rintro e w9 ⟨rfl, z9, rfl⟩) | (go_at_call 11; refine ((HAw.out).at_ _).mono ?_; rintro e w9 ⟨rfl, z9, rfl⟩))
    go_ret
    exact ⟨rfl, lat_end HBV.out _⟩
  | true =>
    have o3 := ahead_chain o1 o2
    rw [o1] at H12
    rw [o2] at H23
    have kq : decide (q1 ≤ q3) = true := decide_eq_true o3.2
    have H13 : Hid (LatCalls Try.prog V 24 #[.agg #[.slice A1 l1.length c1, .int .i64 q1], .agg #[.slice A3 l3.length c3, .int .i64 q3]] (.bool true)) := Lib.hid (LatCalls.of fun z => by have t := Ahead_any (c1 := c1) (c2 := c3) (p := q1) (q := q3) (HA1.out z) (HA3.out z) s1 s3; rw [o3.1] at t; exact t)
    clear o3
    have x1 := HX1.out.c0 ⟨V, Below.refl _ _⟩
    have y1 := HX1.out.c1 ⟨V, Below.refl _ _⟩
    simp only at x1 y1
    rw [HV.out] at x1 y1
    have x2 := HX2.out.c0 ⟨V, Below.refl _ _⟩
    have y2 := HX2.out.c1 ⟨V, Below.refl _ _⟩
    simp only at x2 y2
    rw [HV.out] at x2 y2
    have x3 := HX3.out.c0 ⟨V, Below.refl _ _⟩
    have y3 := HX3.out.c1 ⟨V, Below.refl _ _⟩
    simp only at x3 y3
    rw [HV.out] at x3 y3
    go_enter Try.func10, Try.ntmps10
    go_wp2_with fail
    rw [← HV.out]
    clear x1 y1 x2 y2 x3 y3
    have a1 := HX1.out.c0
    have b1 := HX1.out.c1
    have a2 := HX2.out.c0
    have b2 := HX2.out.c1
    have a3 := HX3.out.c0
    have b3 := HX3.out.c1
    generalize w.heap.size = H at a1 b1 a2 b2 a3 b3 ⊢
    obtain ⟨z0, hz0⟩ := LatW.start V
    rw [← hz0]
    clear hz0
    first | (go_at_call 24; (first | with_reducible refine ((H12.out).at_ _).mono ?_ | with_reducible refine ((H23.out).at_ _).mono ?_ | with_reducible refine ((H13.out).at_ _).mono ?_); rintro e w9 ⟨rfl, z9, rfl⟩) | (go_at_call 11; refine ((HAw.out).at_ _).mono ?_; rintro e w9 ⟨rfl, z9, rfl⟩)
    go_wp2_with (first | (go_at_call 24; (first | with_reducible refine ((H12.out).at_ _).mono ?_ | with_reducible refine ((H23.out).at_ _).mono ?_ | with_reducible refine ((H13.out).at_ _).mono ?_); rintro e w9 ⟨rfl, z9, rfl⟩) | (go_at_call 11; refine ((HAw.out).at_ _).mono ?_; rintro e w9 ⟨rfl, z9, rfl⟩))
    go_ret
    exact ⟨rfl, lat_end HBV.out _⟩
set_option maxHeartbeats 8000000 in
set_option maxRecDepth 100000 in
theorem LineCommon_walk {w : World} {A1 : Option Addr} {c1 : Nat} {l1 : List Br} {q1 : Int} {A2 : Option Addr} {c2 : Nat} {l2 : List Br} {q2 : Int}  (h1 : BrsAt w w.heap.size A1 l1) (f1 : BrsFit l1) (h2 : BrsAt w w.heap.size A2 l2) (f2 : BrsFit l2)  :
    Calls Try.prog 5 #[.agg #[.slice A1 l1.length c1, .int .i64 q1], .agg #[.slice A2 l2.length c2, .int .i64 q2]] w fun e w' => e = .returned (.bool true) ∧ Below w.heap.size w w' := by
  obtain ⟨V, hV⟩ : ∃ V, V = (w.alloc (.cells #[.slice A1 l1.length c1, .int .i64 q1] 36 (0, 0))).alloc (.cells #[.slice A2 l2.length c2, .int .i64 q2] 36 (0, 0)) := ⟨_, rfl⟩
  have HBV : Hid (Below w.heap.size w V) := Lib.hid (by rw [hV]; exact below_two _ _ _)
  have HX1 : Hid (PosBox V (w.heap.size) A1 l1.length c1 q1) := Lib.hid (by rw [hV]; exact PosBox.of (heap_first _ _ _))
  have HA1 := Lib.hid (fun (z : LatW V) => h1.lat HBV.out z)
  have s1 := f1.1
  have HX2 : Hid (PosBox V (w.heap.size + 1) A2 l2.length c2 q2) := Lib.hid (by rw [hV]; exact PosBox.of (heap_second _ _ _))
  have HA2 := Lib.hid (fun (z : LatW V) => h2.lat HBV.out z)
  have s2 := f2.1
  have HV := Lib.hid hV
  have HAw : Hid (LatCalls Try.prog V 11 #[] (.bool true)) := Lib.hid (LatCalls.of fun z => awake11_any z.wd)
  clear hV h1 h2
  cases g1 : decide ((100 : Int) < (l1.length : Int)) with
  | true =>
    have x1 := HX1.out.c0 ⟨V, Below.refl _ _⟩
    have y1 := HX1.out.c1 ⟨V, Below.refl _ _⟩
    simp only at x1 y1
    rw [HV.out] at x1 y1
    have x2 := HX2.out.c0 ⟨V, Below.refl _ _⟩
    have y2 := HX2.out.c1 ⟨V, Below.refl _ _⟩
    simp only at x2 y2
    rw [HV.out] at x2 y2
    go_enter Try.func5, Try.ntmps5
    go_wp2_with fail
    rw [← HV.out]
    clear x1 y1 x2 y2
    have a1 := HX1.out.c0
    have b1 := HX1.out.c1
    have a2 := HX2.out.c0
    have b2 := HX2.out.c1
    generalize w.heap.size = H at a1 b1 a2 b2 ⊢
    obtain ⟨z0, hz0⟩ := LatW.start V
    rw [← hz0]
    clear hz0
    first | (go_at_call 11; refine ((HAw.out).at_ _).mono ?_; rintro e w9 ⟨rfl, z9, rfl⟩)
    go_wp2_with (first | (go_at_call 11; refine ((HAw.out).at_ _).mono ?_; rintro e w9 ⟨rfl, z9, rfl⟩))
    go_ret
    exact ⟨rfl, lat_end HBV.out _⟩
  | false =>
  cases g2 : decide ((100 : Int) < (l2.length : Int)) with
  | true =>
    have x1 := HX1.out.c0 ⟨V, Below.refl _ _⟩
    have y1 := HX1.out.c1 ⟨V, Below.refl _ _⟩
    simp only at x1 y1
    rw [HV.out] at x1 y1
    have x2 := HX2.out.c0 ⟨V, Below.refl _ _⟩
    have y2 := HX2.out.c1 ⟨V, Below.refl _ _⟩
    simp only at x2 y2
    rw [HV.out] at x2 y2
    go_enter Try.func5, Try.ntmps5
    go_wp2_with fail
    rw [← HV.out]
    clear x1 y1 x2 y2
    have a1 := HX1.out.c0
    have b1 := HX1.out.c1
    have a2 := HX2.out.c0
    have b2 := HX2.out.c1
    generalize w.heap.size = H at a1 b1 a2 b2 ⊢
    obtain ⟨z0, hz0⟩ := LatW.start V
    rw [← hz0]
    clear hz0
    first | (go_at_call 11; refine ((HAw.out).at_ _).mono ?_; rintro e w9 ⟨rfl, z9, rfl⟩)
    go_wp2_with (first | (go_at_call 11; refine ((HAw.out).at_ _).mono ?_; rintro e w9 ⟨rfl, z9, rfl⟩))
    go_ret
    exact ⟨rfl, lat_end HBV.out _⟩
  | false =>
  have hcm := commonB_comm l2 q2 l1 q1
  obtain ⟨cn, hcn⟩ : ∃ cn, commonB l1 q1 l2 q2 = cn := ⟨_, rfl⟩
  rw [hcn] at hcm
  obtain ⟨eb, heb⟩ : ∃ eb, eqBr l1 l2 = eb := ⟨_, rfl⟩
  have HDC : Hid (LatCalls Try.prog V 22 #[.agg #[.slice A1 l1.length c1, .int .i64 q1], .agg #[.slice A2 l2.length c2, .int .i64 q2]] (.int .i64 cn)) := Lib.hid (LatCalls.of fun z => by have t := DCommon_any (c1 := c1) (c2 := c2) (p := q1) (q := q2) (HA1.out z) (HA2.out z) s1 s2; rw [hcn] at t; exact t)
  have HC12 : Hid (LatCalls Try.prog V 23 #[.agg #[.slice A1 l1.length c1, .int .i64 q1], .agg #[.slice A2 l2.length c2, .int .i64 q2]] (.int .i64 cn)) := Lib.hid (LatCalls.of fun z => by have t := Common_any (c1 := c1) (c2 := c2) (p := q1) (q := q2) (HA1.out z) (HA2.out z) s1 s2; rw [hcn] at t; exact t)
  have HC21 : Hid (LatCalls Try.prog V 23 #[.agg #[.slice A2 l2.length c2, .int .i64 q2], .agg #[.slice A1 l1.length c1, .int .i64 q1]] (.int .i64 cn)) := Lib.hid (LatCalls.of fun z => by have t := Common_any (c1 := c2) (c2 := c1) (p := q2) (q := q1) (HA2.out z) (HA1.out z) s2 s1; rw [hcm] at t; exact t)
  have HEq : Hid (LatCalls Try.prog V 15 #[.slice A1 l1.length c1, .slice A2 l2.length c2] (.bool eb)) := Lib.hid (LatCalls.of fun z => by have t := DocEqual_any (c1 := c1) (c2 := c2) (HA1.out z) (HA2.out z) s1; rw [heb] at t; exact t)
  have HP1 : Hid (LatCalls Try.prog V 19 #[.agg #[.slice A1 l1.length c1, .int .i64 q1]] (.bool (placedB l1 q1))) := Lib.hid (LatCalls.of fun z => DPlaced_any (c := c1) (q := q1) (HA1.out z) s1)
  have HP2 : Hid (LatCalls Try.prog V 19 #[.agg #[.slice A2 l2.length c2, .int .i64 q2]] (.bool (placedB l2 q2))) := Lib.hid (LatCalls.of fun z => DPlaced_any (c := c2) (q := q2) (HA2.out z) s2)
  cases ok1 : placedB l1 q1 with
  | false =>
    rw [ok1] at HP1
    have HH : Hid (LatCalls Try.prog V 24 #[.agg #[.slice A1 l1.length c1, .int .i64 q1], .agg #[.slice A2 l2.length c2, .int .i64 q2]] (.bool false)) := Lib.hid (LatCalls.of fun z => by have t := Ahead_any (c1 := c1) (c2 := c2) (p := q1) (q := q2) (HA1.out z) (HA2.out z) s1 s2; rw [aheadB_a ok1] at t; exact t)
    have HS : Hid (LatCalls Try.prog V 25 #[.agg #[.slice A1 l1.length c1, .int .i64 q1], .agg #[.slice A2 l2.length c2, .int .i64 q2]] (.bool false)) := Lib.hid (LatCalls.of fun z => by have t := Same_any (c1 := c1) (c2 := c2) (p := q1) (q := q2) (HA1.out z) (HA2.out z) s1 s2; rw [samePl_a ok1] at t; exact t)
    clear hcm hcn heb
    have x1 := HX1.out.c0 ⟨V, Below.refl _ _⟩
    have y1 := HX1.out.c1 ⟨V, Below.refl _ _⟩
    simp only at x1 y1
    rw [HV.out] at x1 y1
    have x2 := HX2.out.c0 ⟨V, Below.refl _ _⟩
    have y2 := HX2.out.c1 ⟨V, Below.refl _ _⟩
    simp only at x2 y2
    rw [HV.out] at x2 y2
    go_enter Try.func5, Try.ntmps5
    go_wp2_with fail
    rw [← HV.out]
    clear x1 y1 x2 y2
    have a1 := HX1.out.c0
    have b1 := HX1.out.c1
    have a2 := HX2.out.c0
    have b2 := HX2.out.c1
    generalize w.heap.size = H at a1 b1 a2 b2 ⊢
    obtain ⟨z0, hz0⟩ := LatW.start V
    rw [← hz0]
    clear hz0
    first | (go_at_call 22; refine ((HDC.out).at_ _).mono ?_; rintro e w9 ⟨rfl, z9, rfl⟩) | (go_at_call 23; (first | with_reducible refine ((HC12.out).at_ _).mono ?_ | with_reducible refine ((HC21.out).at_ _).mono ?_); rintro e w9 ⟨rfl, z9, rfl⟩) | (go_at_call 15; refine ((HEq.out).at_ _).mono ?_; rintro e w9 ⟨rfl, z9, rfl⟩) | (go_at_call 19; (first | with_reducible refine ((HP1.out).at_ _).mono ?_ | with_reducible refine ((HP2.out).at_ _).mono ?_); rintro e w9 ⟨rfl, z9, rfl⟩) | (go_at_call 24; refine ((HH.out).at_ _).mono ?_; rintro e w9 ⟨rfl, z9, rfl⟩) | (go_at_call 25; refine ((HS.out).at_ _).mono ?_; rintro e w9 ⟨rfl, z9, rfl⟩) | (go_at_call 11; refine ((HAw.out).at_ _).mono ?_; rintro e w9 ⟨rfl, z9, rfl⟩)
    go_wp2_with (first | (go_at_call 22; refine ((HDC.out).at_ _).mono ?_; rintro e w9 ⟨rfl, z9, rfl⟩) | (go_at_call 23; (first | with_reducible refine ((HC12.out).at_ _).mono ?_ | with_reducible refine ((HC21.out).at_ _).mono ?_); rintro e w9 ⟨rfl, z9, rfl⟩) | (go_at_call 15; refine ((HEq.out).at_ _).mono ?_; rintro e w9 ⟨rfl, z9, rfl⟩) | (go_at_call 19; (first | with_reducible refine ((HP1.out).at_ _).mono ?_ | with_reducible refine ((HP2.out).at_ _).mono ?_); rintro e w9 ⟨rfl, z9, rfl⟩) | (go_at_call 24; refine ((HH.out).at_ _).mono ?_; rintro e w9 ⟨rfl, z9, rfl⟩) | (go_at_call 25; refine ((HS.out).at_ _).mono ?_; rintro e w9 ⟨rfl, z9, rfl⟩) | (go_at_call 11; refine ((HAw.out).at_ _).mono ?_; rintro e w9 ⟨rfl, z9, rfl⟩))
    go_ret
    exact ⟨rfl, lat_end HBV.out _⟩
  | true =>
  cases kq : (q1 == q2) with
  | false =>
    rw [ok1] at HP1
    cases ok2 : placedB l2 q2 with
    | false =>
      rw [ok2] at HP2
      have HH : Hid (LatCalls Try.prog V 24 #[.agg #[.slice A1 l1.length c1, .int .i64 q1], .agg #[.slice A2 l2.length c2, .int .i64 q2]] (.bool false)) := Lib.hid (LatCalls.of fun z => by have t := Ahead_any (c1 := c1) (c2 := c2) (p := q1) (q := q2) (HA1.out z) (HA2.out z) s1 s2; rw [aheadB_b ok2] at t; exact t)
      have HS : Hid (LatCalls Try.prog V 25 #[.agg #[.slice A1 l1.length c1, .int .i64 q1], .agg #[.slice A2 l2.length c2, .int .i64 q2]] (.bool false)) := Lib.hid (LatCalls.of fun z => by have t := Same_any (c1 := c1) (c2 := c2) (p := q1) (q := q2) (HA1.out z) (HA2.out z) s1 s2; rw [samePl_s (by simpa using kq)] at t; exact t)
      clear hcm hcn heb
      have x1 := HX1.out.c0 ⟨V, Below.refl _ _⟩
      have y1 := HX1.out.c1 ⟨V, Below.refl _ _⟩
      simp only at x1 y1
      rw [HV.out] at x1 y1
      have x2 := HX2.out.c0 ⟨V, Below.refl _ _⟩
      have y2 := HX2.out.c1 ⟨V, Below.refl _ _⟩
      simp only at x2 y2
      rw [HV.out] at x2 y2
      go_enter Try.func5, Try.ntmps5
      go_wp2_with fail
      rw [← HV.out]
      clear x1 y1 x2 y2
      have a1 := HX1.out.c0
      have b1 := HX1.out.c1
      have a2 := HX2.out.c0
      have b2 := HX2.out.c1
      generalize w.heap.size = H at a1 b1 a2 b2 ⊢
      obtain ⟨z0, hz0⟩ := LatW.start V
      rw [← hz0]
      clear hz0
      first | (go_at_call 22; refine ((HDC.out).at_ _).mono ?_; rintro e w9 ⟨rfl, z9, rfl⟩) | (go_at_call 23; (first | with_reducible refine ((HC12.out).at_ _).mono ?_ | with_reducible refine ((HC21.out).at_ _).mono ?_); rintro e w9 ⟨rfl, z9, rfl⟩) | (go_at_call 15; refine ((HEq.out).at_ _).mono ?_; rintro e w9 ⟨rfl, z9, rfl⟩) | (go_at_call 19; (first | with_reducible refine ((HP1.out).at_ _).mono ?_ | with_reducible refine ((HP2.out).at_ _).mono ?_); rintro e w9 ⟨rfl, z9, rfl⟩) | (go_at_call 24; refine ((HH.out).at_ _).mono ?_; rintro e w9 ⟨rfl, z9, rfl⟩) | (go_at_call 25; refine ((HS.out).at_ _).mono ?_; rintro e w9 ⟨rfl, z9, rfl⟩) | (go_at_call 11; refine ((HAw.out).at_ _).mono ?_; rintro e w9 ⟨rfl, z9, rfl⟩)
      go_wp2_with (first | (go_at_call 22; refine ((HDC.out).at_ _).mono ?_; rintro e w9 ⟨rfl, z9, rfl⟩) | (go_at_call 23; (first | with_reducible refine ((HC12.out).at_ _).mono ?_ | with_reducible refine ((HC21.out).at_ _).mono ?_); rintro e w9 ⟨rfl, z9, rfl⟩) | (go_at_call 15; refine ((HEq.out).at_ _).mono ?_; rintro e w9 ⟨rfl, z9, rfl⟩) | (go_at_call 19; (first | with_reducible refine ((HP1.out).at_ _).mono ?_ | with_reducible refine ((HP2.out).at_ _).mono ?_); rintro e w9 ⟨rfl, z9, rfl⟩) | (go_at_call 24; refine ((HH.out).at_ _).mono ?_; rintro e w9 ⟨rfl, z9, rfl⟩) | (go_at_call 25; refine ((HS.out).at_ _).mono ?_; rintro e w9 ⟨rfl, z9, rfl⟩) | (go_at_call 11; refine ((HAw.out).at_ _).mono ?_; rintro e w9 ⟨rfl, z9, rfl⟩))
      go_ret
      exact ⟨rfl, lat_end HBV.out _⟩
    | true =>
      rw [ok2] at HP2
      have HH : Hid (LatCalls Try.prog V 24 #[.agg #[.slice A1 l1.length c1, .int .i64 q1], .agg #[.slice A2 l2.length c2, .int .i64 q2]] (.bool (cn == q1))) := Lib.hid (LatCalls.of fun z => by have t := Ahead_any (c1 := c1) (c2 := c2) (p := q1) (q := q2) (HA1.out z) (HA2.out z) s1 s2; rw [aheadB_ok ok1 ok2, hcn] at t; exact t)
      have HS : Hid (LatCalls Try.prog V 25 #[.agg #[.slice A1 l1.length c1, .int .i64 q1], .agg #[.slice A2 l2.length c2, .int .i64 q2]] (.bool false)) := Lib.hid (LatCalls.of fun z => by have t := Same_any (c1 := c1) (c2 := c2) (p := q1) (q := q2) (HA1.out z) (HA2.out z) s1 s2; rw [samePl_s (by simpa using kq)] at t; exact t)
      clear hcm hcn heb
      have x1 := HX1.out.c0 ⟨V, Below.refl _ _⟩
      have y1 := HX1.out.c1 ⟨V, Below.refl _ _⟩
      simp only at x1 y1
      rw [HV.out] at x1 y1
      have x2 := HX2.out.c0 ⟨V, Below.refl _ _⟩
      have y2 := HX2.out.c1 ⟨V, Below.refl _ _⟩
      simp only at x2 y2
      rw [HV.out] at x2 y2
      go_enter Try.func5, Try.ntmps5
      go_wp2_with fail
      rw [← HV.out]
      clear x1 y1 x2 y2
      have a1 := HX1.out.c0
      have b1 := HX1.out.c1
      have a2 := HX2.out.c0
      have b2 := HX2.out.c1
      generalize w.heap.size = H at a1 b1 a2 b2 ⊢
      obtain ⟨z0, hz0⟩ := LatW.start V
      rw [← hz0]
      clear hz0
      first | (go_at_call 22; refine ((HDC.out).at_ _).mono ?_; rintro e w9 ⟨rfl, z9, rfl⟩) | (go_at_call 23; (first | with_reducible refine ((HC12.out).at_ _).mono ?_ | with_reducible refine ((HC21.out).at_ _).mono ?_); rintro e w9 ⟨rfl, z9, rfl⟩) | (go_at_call 15; refine ((HEq.out).at_ _).mono ?_; rintro e w9 ⟨rfl, z9, rfl⟩) | (go_at_call 19; (first | with_reducible refine ((HP1.out).at_ _).mono ?_ | with_reducible refine ((HP2.out).at_ _).mono ?_); rintro e w9 ⟨rfl, z9, rfl⟩) | (go_at_call 24; refine ((HH.out).at_ _).mono ?_; rintro e w9 ⟨rfl, z9, rfl⟩) | (go_at_call 25; refine ((HS.out).at_ _).mono ?_; rintro e w9 ⟨rfl, z9, rfl⟩) | (go_at_call 11; refine ((HAw.out).at_ _).mono ?_; rintro e w9 ⟨rfl, z9, rfl⟩)
      go_wp2_with (first | (go_at_call 22; refine ((HDC.out).at_ _).mono ?_; rintro e w9 ⟨rfl, z9, rfl⟩) | (go_at_call 23; (first | with_reducible refine ((HC12.out).at_ _).mono ?_ | with_reducible refine ((HC21.out).at_ _).mono ?_); rintro e w9 ⟨rfl, z9, rfl⟩) | (go_at_call 15; refine ((HEq.out).at_ _).mono ?_; rintro e w9 ⟨rfl, z9, rfl⟩) | (go_at_call 19; (first | with_reducible refine ((HP1.out).at_ _).mono ?_ | with_reducible refine ((HP2.out).at_ _).mono ?_); rintro e w9 ⟨rfl, z9, rfl⟩) | (go_at_call 24; refine ((HH.out).at_ _).mono ?_; rintro e w9 ⟨rfl, z9, rfl⟩) | (go_at_call 25; refine ((HS.out).at_ _).mono ?_; rintro e w9 ⟨rfl, z9, rfl⟩) | (go_at_call 11; refine ((HAw.out).at_ _).mono ?_; rintro e w9 ⟨rfl, z9, rfl⟩))
      go_ret
      exact ⟨rfl, lat_end HBV.out _⟩
  | true =>
    rw [ok1] at HP1
    have hsm : samePl l1 q1 l2 q2 = eqBr l1 l2 := samePl_ok ok1 (by simpa using kq)
    cases ok2 : placedB l2 q2 with
    | false =>
      rw [ok2] at HP2
      have HH : Hid (LatCalls Try.prog V 24 #[.agg #[.slice A1 l1.length c1, .int .i64 q1], .agg #[.slice A2 l2.length c2, .int .i64 q2]] (.bool false)) := Lib.hid (LatCalls.of fun z => by have t := Ahead_any (c1 := c1) (c2 := c2) (p := q1) (q := q2) (HA1.out z) (HA2.out z) s1 s2; rw [aheadB_b ok2] at t; exact t)
      have HS : Hid (LatCalls Try.prog V 25 #[.agg #[.slice A1 l1.length c1, .int .i64 q1], .agg #[.slice A2 l2.length c2, .int .i64 q2]] (.bool eb)) := Lib.hid (LatCalls.of fun z => by have t := Same_any (c1 := c1) (c2 := c2) (p := q1) (q := q2) (HA1.out z) (HA2.out z) s1 s2; rw [hsm, heb] at t; exact t)
      clear hcm hcn heb hsm
      have x1 := HX1.out.c0 ⟨V, Below.refl _ _⟩
      have y1 := HX1.out.c1 ⟨V, Below.refl _ _⟩
      simp only at x1 y1
      rw [HV.out] at x1 y1
      have x2 := HX2.out.c0 ⟨V, Below.refl _ _⟩
      have y2 := HX2.out.c1 ⟨V, Below.refl _ _⟩
      simp only at x2 y2
      rw [HV.out] at x2 y2
      go_enter Try.func5, Try.ntmps5
      go_wp2_with fail
      rw [← HV.out]
      clear x1 y1 x2 y2
      have a1 := HX1.out.c0
      have b1 := HX1.out.c1
      have a2 := HX2.out.c0
      have b2 := HX2.out.c1
      generalize w.heap.size = H at a1 b1 a2 b2 ⊢
      obtain ⟨z0, hz0⟩ := LatW.start V
      rw [← hz0]
      clear hz0
      first | (go_at_call 22; refine ((HDC.out).at_ _).mono ?_; rintro e w9 ⟨rfl, z9, rfl⟩) | (go_at_call 23; (first | with_reducible refine ((HC12.out).at_ _).mono ?_ | with_reducible refine ((HC21.out).at_ _).mono ?_); rintro e w9 ⟨rfl, z9, rfl⟩) | (go_at_call 15; refine ((HEq.out).at_ _).mono ?_; rintro e w9 ⟨rfl, z9, rfl⟩) | (go_at_call 19; (first | with_reducible refine ((HP1.out).at_ _).mono ?_ | with_reducible refine ((HP2.out).at_ _).mono ?_); rintro e w9 ⟨rfl, z9, rfl⟩) | (go_at_call 24; refine ((HH.out).at_ _).mono ?_; rintro e w9 ⟨rfl, z9, rfl⟩) | (go_at_call 25; refine ((HS.out).at_ _).mono ?_; rintro e w9 ⟨rfl, z9, rfl⟩) | (go_at_call 11; refine ((HAw.out).at_ _).mono ?_; rintro e w9 ⟨rfl, z9, rfl⟩)
      go_wp2_with (first | (go_at_call 22; refine ((HDC.out).at_ _).mono ?_; rintro e w9 ⟨rfl, z9, rfl⟩) | (go_at_call 23; (first | with_reducible refine ((HC12.out).at_ _).mono ?_ | with_reducible refine ((HC21.out).at_ _).mono ?_); rintro e w9 ⟨rfl, z9, rfl⟩) | (go_at_call 15; refine ((HEq.out).at_ _).mono ?_; rintro e w9 ⟨rfl, z9, rfl⟩) | (go_at_call 19; (first | with_reducible refine ((HP1.out).at_ _).mono ?_ | with_reducible refine ((HP2.out).at_ _).mono ?_); rintro e w9 ⟨rfl, z9, rfl⟩) | (go_at_call 24; refine ((HH.out).at_ _).mono ?_; rintro e w9 ⟨rfl, z9, rfl⟩) | (go_at_call 25; refine ((HS.out).at_ _).mono ?_; rintro e w9 ⟨rfl, z9, rfl⟩) | (go_at_call 11; refine ((HAw.out).at_ _).mono ?_; rintro e w9 ⟨rfl, z9, rfl⟩))
      go_ret
      exact ⟨rfl, lat_end HBV.out _⟩
    | true =>
      rw [ok2] at HP2
      have HH : Hid (LatCalls Try.prog V 24 #[.agg #[.slice A1 l1.length c1, .int .i64 q1], .agg #[.slice A2 l2.length c2, .int .i64 q2]] (.bool (cn == q1))) := Lib.hid (LatCalls.of fun z => by have t := Ahead_any (c1 := c1) (c2 := c2) (p := q1) (q := q2) (HA1.out z) (HA2.out z) s1 s2; rw [aheadB_ok ok1 ok2, hcn] at t; exact t)
      have HS : Hid (LatCalls Try.prog V 25 #[.agg #[.slice A1 l1.length c1, .int .i64 q1], .agg #[.slice A2 l2.length c2, .int .i64 q2]] (.bool eb)) := Lib.hid (LatCalls.of fun z => by have t := Same_any (c1 := c1) (c2 := c2) (p := q1) (q := q2) (HA1.out z) (HA2.out z) s1 s2; rw [hsm, heb] at t; exact t)
      clear hcm hcn heb hsm
      have x1 := HX1.out.c0 ⟨V, Below.refl _ _⟩
      have y1 := HX1.out.c1 ⟨V, Below.refl _ _⟩
      simp only at x1 y1
      rw [HV.out] at x1 y1
      have x2 := HX2.out.c0 ⟨V, Below.refl _ _⟩
      have y2 := HX2.out.c1 ⟨V, Below.refl _ _⟩
      simp only at x2 y2
      rw [HV.out] at x2 y2
      go_enter Try.func5, Try.ntmps5
      go_wp2_with fail
      rw [← HV.out]
      clear x1 y1 x2 y2
      have a1 := HX1.out.c0
      have b1 := HX1.out.c1
      have a2 := HX2.out.c0
      have b2 := HX2.out.c1
      generalize w.heap.size = H at a1 b1 a2 b2 ⊢
      obtain ⟨z0, hz0⟩ := LatW.start V
      rw [← hz0]
      clear hz0
      first | (go_at_call 22; refine ((HDC.out).at_ _).mono ?_; rintro e w9 ⟨rfl, z9, rfl⟩) | (go_at_call 23; (first | with_reducible refine ((HC12.out).at_ _).mono ?_ | with_reducible refine ((HC21.out).at_ _).mono ?_); rintro e w9 ⟨rfl, z9, rfl⟩) | (go_at_call 15; refine ((HEq.out).at_ _).mono ?_; rintro e w9 ⟨rfl, z9, rfl⟩) | (go_at_call 19; (first | with_reducible refine ((HP1.out).at_ _).mono ?_ | with_reducible refine ((HP2.out).at_ _).mono ?_); rintro e w9 ⟨rfl, z9, rfl⟩) | (go_at_call 24; refine ((HH.out).at_ _).mono ?_; rintro e w9 ⟨rfl, z9, rfl⟩) | (go_at_call 25; refine ((HS.out).at_ _).mono ?_; rintro e w9 ⟨rfl, z9, rfl⟩) | (go_at_call 11; refine ((HAw.out).at_ _).mono ?_; rintro e w9 ⟨rfl, z9, rfl⟩)
      go_wp2_with (first | (go_at_call 22; refine ((HDC.out).at_ _).mono ?_; rintro e w9 ⟨rfl, z9, rfl⟩) | (go_at_call 23; (first | with_reducible refine ((HC12.out).at_ _).mono ?_ | with_reducible refine ((HC21.out).at_ _).mono ?_); rintro e w9 ⟨rfl, z9, rfl⟩) | (go_at_call 15; refine ((HEq.out).at_ _).mono ?_; rintro e w9 ⟨rfl, z9, rfl⟩) | (go_at_call 19; (first | with_reducible refine ((HP1.out).at_ _).mono ?_ | with_reducible refine ((HP2.out).at_ _).mono ?_); rintro e w9 ⟨rfl, z9, rfl⟩) | (go_at_call 24; refine ((HH.out).at_ _).mono ?_; rintro e w9 ⟨rfl, z9, rfl⟩) | (go_at_call 25; refine ((HS.out).at_ _).mono ?_; rintro e w9 ⟨rfl, z9, rfl⟩) | (go_at_call 11; refine ((HAw.out).at_ _).mono ?_; rintro e w9 ⟨rfl, z9, rfl⟩))
      go_ret
      exact ⟨rfl, lat_end HBV.out _⟩
end Go.Proofs.Ytokdicaoonjimaa
