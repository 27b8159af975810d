/- The walk of MsgParses. -/
import Derived.Test.YtkpoeigoocbgeaaMsgK
import Derived.Test.YtkpoeigoocbgeaaMsgO
namespace Go.Proofs.Ytkpoeigoocbgeaa
open Go.RowKit

set_option maxHeartbeats 8000000 in
set_option maxRecDepth 100000 in
theorem MsgParses_walk {w : World} (s : List UInt8) (hs : s.length ≤ 140737488351232) :
    Calls Try.prog 6 #[.string (str s)] w fun e w' => e = .returned (.bool true) ∧ Below w.heap.size w w' := by
  obtain ⟨T, hT⟩ : ∃ T, str s = T := ⟨_, rfl⟩
  have hsz : T.size = s.length := by rw [← hT, str_size]
  rw [hT]
  by_cases hbig : 8192 < s.length
  · have hbig2 : (8192 : Int) < (T.size : Int) := by omega
    go_enter Try.func6, Try.ntmps6
    go_wp2_with (go_at_call 9; (with_reducible refine (awake17_any _).mono ?_); rintro e w9 ⟨rfl, hb⟩; have HB9 := Lib.hid (hb); clear hb)
    go_ret
    exact ⟨rfl, HB9.out⟩
  have hbig2 : ¬ (8192 : Int) < (T.size : Int) := by omega
  have HPs := Lib.hid (fun W => PParse_any s W (by omega))
  have HRp := Lib.hid (fun W => parse17_any s W (by omega))
  unfold TMg at HPs
  unfold ParEnd at HRp
  rw [hT] at HPs HRp
  by_cases ht : ∃ m, Told s m
  · obtain ⟨m, hm⟩ := ht
    have HPa : Hid (∀ W, Calls Try.prog 26 #[.string T] W fun e w' => ∃ x, e = .returned (.tuple #[.agg (m.cells x), .int .i64 0]) ∧ MgAt w' m x ∧ Below W.heap.size W w') := Lib.hid (fun W => (HPs.out W).mono (fun e w' h => by
      rcases h with ⟨n, x, h1, h2⟩ | ⟨h, _⟩
      · obtain rfl := told_one h1 hm; exact ⟨x, h2⟩
      · exact absurd hm (h m)))
    have HRa : Hid (∀ W, Calls Try.prog 29 #[.string T] W fun e w' => ∃ x, e = .returned (.tuple #[.agg (m.cells x), .bool true]) ∧ MgAt w' m x ∧ Below W.heap.size W w') := Lib.hid (fun W => (HRp.out W).mono (fun e w' h => by
      rcases h with ⟨n, x, h1, h2⟩ | ⟨h, _⟩
      · obtain rfl := told_one h1 hm; exact ⟨x, h2⟩
      · exact absurd hm (h m)))
    have HFt := Lib.hid (mgfit_ok hm.1)
    have HSelf : Hid (eqMg m m = true) := Lib.hid ((eqMg_iff m m).2 rfl)
    clear HPs HRp hm hT hsz hbig
    go_enter Try.func6, Try.ntmps6
    go_upto_region 4 with (first | (go_at_call 26; (with_reducible refine (HPa.out _).mono ?_); rintro e w1 ⟨x1, rfl, ha, hb⟩; have HB1 := Lib.hid (hb); have HA1 := Lib.hid ha; clear ha; clear hb) | (refine wpList_store_row rfl 52 (.tmp 3) (.tmp 14) rfl w1.heap.size (m.cells x1) rfl rfl 52 zMg (heap_new w1 (.cells zMg 52)) zMg_info rfl (mg_one17 m x1) ?_))
    generalize hV1 : World.setRow (World.alloc w1 _) w1.heap.size (m.cells x1) = V1
    have HX1 := Lib.hid (show BoxMg V1 w1.heap.size m x1 from BoxMg.of (t := 52) (by rw [← hV1]; exact setRow_heap _ _ zMg _ _ _ (heap_new w1 (.cells zMg 52))))
    have hl1 : Below w1.heap.size w1 V1 := by rw [← hV1]; exact below_setRow (below_one _ _) (Nat.le_refl _) _
    have HL1 := Lib.hid hl1
    have HBV1 := Lib.hid (below_next HB1.out hl1)
    clear hV1 hl1
    go_upto_region 5 with (first | (go_at_call 29; (with_reducible refine (HRa.out _).mono ?_); rintro e w2 ⟨x2, rfl, ha, hb⟩; have HB2 := Lib.hid (below_next HBV1.out hb); have HA2 := Lib.hid ha; have hB2 := Lib.hid hb; clear ha; clear hb) | (refine wpList_store_row rfl 52 (.tmp 5) (.tmp 19) rfl w2.heap.size (m.cells x2) rfl rfl 52 zMg (heap_new w2 (.cells zMg 52)) zMg_info rfl (mg_one17 m x2) ?_))
    generalize hV2 : World.setRow (World.alloc w2 _) w2.heap.size (m.cells x2) = V2
    have HX2 := Lib.hid (show BoxMg V2 w2.heap.size m x2 from BoxMg.of (t := 52) (by rw [← hV2]; exact setRow_heap _ _ zMg _ _ _ (heap_new w2 (.cells zMg 52))))
    have hl2 : Below w2.heap.size w2 V2 := by rw [← hV2]; exact below_setRow (below_one _ _) (Nat.le_refl _) _
    have HL2 := Lib.hid hl2
    have HBV2 := Lib.hid (below_next HB2.out hl2)
    clear hV2 hl2
    go_upto_region 7 with fail
    have hz2 := below_next hB2.out HL2.out
    have HX1b := Lib.hid (HX1.out.next hz2)
    have HMa := Lib.hid ((HA1.out.next HL1.out).next hz2)
    have HMb := Lib.hid (HA2.out.next HL2.out)
    have HAw := Lib.hid (show LatCalls Try.prog V2 9 #[] (.bool true) from LatCalls.of fun z => awake17_any z.wd)
    have HEq := Lib.hid (show LatCalls Try.prog V2 28 #[m.val x1, m.val x2] (.bool true) from LatCalls.of fun z => by have := equal17_any m m x1 x2 (HMa.out.next z.bel) (HMb.out.next z.bel) HFt.out HFt.out; rwa [HSelf.out] at this)
    unfold Mg.val Mg.cells at HEq
    have a0 := fun z : LatW V2 => (HX1b.out.next z.bel).c0
    have a1 := fun z : LatW V2 => (HX1b.out.next z.bel).c1
    have a2 := fun z : LatW V2 => (HX1b.out.next z.bel).c2
    have a3 := fun z : LatW V2 => (HX1b.out.next z.bel).c3
    have a4 := fun z : LatW V2 => (HX1b.out.next z.bel).c4
    have a5 := fun z : LatW V2 => (HX1b.out.next z.bel).c5
    have a6 := fun z : LatW V2 => (HX1b.out.next z.bel).c6
    have a7 := fun z : LatW V2 => (HX1b.out.next z.bel).c7
    have a8 := fun z : LatW V2 => (HX1b.out.next z.bel).c8
    have a9 := fun z : LatW V2 => (HX1b.out.next z.bel).c9
    have a10 := fun z : LatW V2 => (HX1b.out.next z.bel).c10
    have a11 := fun z : LatW V2 => (HX1b.out.next z.bel).c11
    have a12 := fun z : LatW V2 => (HX1b.out.next z.bel).c12
    have a13 := fun z : LatW V2 => (HX1b.out.next z.bel).c13
    have b0 := fun z : LatW V2 => (HX2.out.next z.bel).c0
    have b1 := fun z : LatW V2 => (HX2.out.next z.bel).c1
    have b2 := fun z : LatW V2 => (HX2.out.next z.bel).c2
    have b3 := fun z : LatW V2 => (HX2.out.next z.bel).c3
    have b4 := fun z : LatW V2 => (HX2.out.next z.bel).c4
    have b5 := fun z : LatW V2 => (HX2.out.next z.bel).c5
    have b6 := fun z : LatW V2 => (HX2.out.next z.bel).c6
    have b7 := fun z : LatW V2 => (HX2.out.next z.bel).c7
    have b8 := fun z : LatW V2 => (HX2.out.next z.bel).c8
    have b9 := fun z : LatW V2 => (HX2.out.next z.bel).c9
    have b10 := fun z : LatW V2 => (HX2.out.next z.bel).c10
    have b11 := fun z : LatW V2 => (HX2.out.next z.bel).c11
    have b12 := fun z : LatW V2 => (HX2.out.next z.bel).c12
    have b13 := fun z : LatW V2 => (HX2.out.next z.bel).c13
    refine wp_region_seq ?_
    (try dsimp only [List.append])
    repeat (go_big_quiet_step (first | (go_at_call 28; with_reducible exact HEq.out.at_ _) | (go_at_call 9; with_reducible exact HAw.out.at_ _)))
    refine wpQuiet_nil ?_
    intro w8 hw8
    obtain ⟨p8, hw8'⟩ := hw8
    subst hw8'
    go_wp2_with fail
    go_ret
    exact ⟨rfl, below_next HBV2.out p8.bel⟩
  · have hno : ∀ m, ¬ Told s m := fun m h => ht ⟨m, h⟩
    have HPa : Hid (∀ W, Calls Try.prog 26 #[.string T] W fun e w' => ∃ x, e = .returned (.tuple #[.agg (mgZ.cells x), .int .i64 3]) ∧ MgAt w' mgZ x ∧ Below W.heap.size W w') := Lib.hid (fun W => (HPs.out W).mono (fun e w' h => by
      rcases h with ⟨n, x, h1, _⟩ | ⟨_, h⟩
      · exact absurd h1 (hno n)
      · exact h))
    have HRa : Hid (∀ W, Calls Try.prog 29 #[.string T] W fun e w' => e = .returned (.tuple #[.agg (mgZ.cells mmZ), .bool false]) ∧ Below W.heap.size W w') := Lib.hid (fun W => (HRp.out W).mono (fun e w' h => by
      rcases h with ⟨n, x, h1, _⟩ | ⟨_, h⟩
      · exact absurd h1 (hno n)
      · exact h))
    have HSelf : Hid (eqMg mgZ mgZ = true) := Lib.hid ((eqMg_iff mgZ mgZ).2 rfl)
    have HFt := Lib.hid mgfit_zero
    have HZ := Lib.hid mgat_zero
    obtain ⟨mZ, hmZ⟩ : ∃ m, mgZ = m := ⟨_, rfl⟩
    have HmZ := Lib.hid hmZ
    have HZv : Hid (.agg #[.int .i64 0, .int .i64 0, .slice none 0 0, .int .i64 0, .int .i64 0, .int .i64 0, .bool false, .slice none 0 0, .int .i64 0, .slice none 0 0, .slice none 0 0, .int .i64 0, .int .i64 0, .slice none 0 0] = mgZ.val mmZ) := Lib.hid rfl
    rw [hmZ] at HPa HRa HSelf HFt HZ HZv
    clear HPs HRp hT hsz hbig hno ht hmZ
    go_enter Try.func6, Try.ntmps6
    go_upto_region 4 with (first | (go_at_call 26; (with_reducible refine (HPa.out _).mono ?_); rintro e w1 ⟨x1, rfl, ha, hb⟩; have HB1 := Lib.hid (hb); have HA1 := Lib.hid ha; clear ha; clear hb) | (refine wpList_store_row rfl 52 (.tmp 3) (.tmp 14) rfl w1.heap.size (mZ.cells x1) rfl rfl 52 zMg (heap_new w1 (.cells zMg 52)) zMg_info rfl (mg_one17 mZ x1) ?_))
    generalize hV1 : World.setRow (World.alloc w1 _) w1.heap.size (mZ.cells x1) = V1
    have HX1 := Lib.hid (show BoxMg V1 w1.heap.size mZ x1 from BoxMg.of (t := 52) (by rw [← hV1]; exact setRow_heap _ _ zMg _ _ _ (heap_new w1 (.cells zMg 52))))
    have hl1 : Below w1.heap.size w1 V1 := by rw [← hV1]; exact below_setRow (below_one _ _) (Nat.le_refl _) _
    have HL1 := Lib.hid hl1
    have HBV1 := Lib.hid (below_next HB1.out hl1)
    clear hV1 hl1
    go_upto_region 5 with (first | (go_at_call 29; (with_reducible refine (HRa.out _).mono ?_); rintro e w2 ⟨rfl, hb⟩; have HB2 := Lib.hid (below_next HBV1.out hb); have hB2 := Lib.hid hb; clear hb) | (refine wpList_store_row rfl 52 (.tmp 5) (.tmp 19) rfl w2.heap.size (mZ.cells mmZ) rfl rfl 52 zMg (heap_new w2 (.cells zMg 52)) zMg_info rfl (mg_one17 mZ mmZ) ?_))
    generalize hV2 : World.setRow (World.alloc w2 _) w2.heap.size (mZ.cells mmZ) = V2
    have HX2 := Lib.hid (show BoxMg V2 w2.heap.size mZ mmZ from BoxMg.of (t := 52) (by rw [← hV2]; exact setRow_heap _ _ zMg _ _ _ (heap_new w2 (.cells zMg 52))))
    have hl2 : Below w2.heap.size w2 V2 := by rw [← hV2]; exact below_setRow (below_one _ _) (Nat.le_refl _) _
    have HL2 := Lib.hid hl2
    have HBV2 := Lib.hid (below_next HB2.out hl2)
    clear hV2 hl2
    go_upto_region 6 with fail
    have hz2 := below_next hB2.out HL2.out
    have HX1b := Lib.hid (HX1.out.next hz2)
    have HMa := Lib.hid ((HA1.out.next HL1.out).next hz2)
    have HAw := Lib.hid (show LatCalls Try.prog V2 9 #[] (.bool true) from LatCalls.of fun z => awake17_any z.wd)
    have HEq := Lib.hid (show LatCalls Try.prog V2 28 #[mZ.val x1, .agg #[.int .i64 0, .int .i64 0, .slice none 0 0, .int .i64 0, .int .i64 0, .int .i64 0, .bool false, .slice none 0 0, .int .i64 0, .slice none 0 0, .slice none 0 0, .int .i64 0, .int .i64 0, .slice none 0 0]] (.bool true) from LatCalls.of fun z => by rw [HZv.out]; have := equal17_any mZ mZ x1 mmZ (HMa.out.next z.bel) (HZ.out z.wd) HFt.out HFt.out; rwa [HSelf.out] at this)
    unfold Mg.val Mg.cells at HEq
    have a0 := fun z : LatW V2 => (HX1b.out.next z.bel).c0
    have a1 := fun z : LatW V2 => (HX1b.out.next z.bel).c1
    have a2 := fun z : LatW V2 => (HX1b.out.next z.bel).c2
    have a3 := fun z : LatW V2 => (HX1b.out.next z.bel).c3
    have a4 := fun z : LatW V2 => (HX1b.out.next z.bel).c4
    have a5 := fun z : LatW V2 => (HX1b.out.next z.bel).c5
    have a6 := fun z : LatW V2 => (HX1b.out.next z.bel).c6
    have a7 := fun z : LatW V2 => (HX1b.out.next z.bel).c7
    have a8 := fun z : LatW V2 => (HX1b.out.next z.bel).c8
    have a9 := fun z : LatW V2 => (HX1b.out.next z.bel).c9
    have a10 := fun z : LatW V2 => (HX1b.out.next z.bel).c10
    have a11 := fun z : LatW V2 => (HX1b.out.next z.bel).c11
    have a12 := fun z : LatW V2 => (HX1b.out.next z.bel).c12
    have a13 := fun z : LatW V2 => (HX1b.out.next z.bel).c13
    refine wp_region_seq ?_
    (try dsimp only [List.append])
    repeat (go_big_quiet_step (first | (go_at_call 28; with_reducible exact HEq.out.at_ _) | (go_at_call 9; with_reducible exact HAw.out.at_ _)))
    refine wpQuiet_nil ?_
    intro w8 hw8
    obtain ⟨p8, hw8'⟩ := hw8
    subst hw8'
    go_wp2_with fail
    go_ret
    exact ⟨rfl, below_next HBV2.out p8.bel⟩
end Go.Proofs.Ytkpoeigoocbgeaa
