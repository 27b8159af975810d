/- The contract of Tick of the package link. -/
import Derived.Test.YtdhmkcomngbmaaaLinkE
namespace Go.Proofs.Ytdhmkcomngbmaaa
open Go.RowKit

/-- A row of texts, the first k of them laid. -/
def fillC (xs : List (List UInt8)) (k : Nat) : Array Value := ((xs.take k).map txt ++ List.replicate (xs.length - k) (Value.string ⟨#[]⟩)).toArray
theorem fillC_none (xs : List (List UInt8)) : fillC xs 0 = madeCells #[.string ⟨#[]⟩] xs.length := by
  apply Array.ext
  · simp [fillC, madeCells]
  · intro i h1 h2
    simp [fillC, madeCells]
    rw [Nat.mod_one]
    rfl
theorem fillC_at {xs : List (List UInt8)} {k : Nat} (h : k < xs.length) : (fillC xs k)[k]? = some (.string ⟨#[]⟩) := by
  unfold fillC
  rw [List.getElem?_toArray, List.getElem?_append_right (by rw [List.length_map, List.length_take]; omega), List.length_map, List.length_take, show k - min k xs.length = 0 from by omega, List.getElem?_replicate, if_pos (by omega)]
theorem fillC_step {xs : List (List UInt8)} {k : Nat} (h : k < xs.length) : (fillC xs k).setIfInBounds k (txt xs[k]) = fillC xs (k + 1) := by
  unfold fillC
  rw [List.setIfInBounds_toArray, List.set_append, List.length_map, List.length_take, if_neg (by omega), show k - min k xs.length = 0 from by omega, show xs.length - k = (xs.length - (k + 1)) + 1 from by omega, List.replicate_succ, List.set_cons_zero, List.take_succ_eq_append_getElem h, List.map_append, List.append_assoc]
  rfl
theorem fillC_done (xs : List (List UInt8)) : fillC xs xs.length = (xs.map txt).toArray := by
  unfold fillC; rw [Nat.sub_self, List.take_length]; simp

/-- What a call leaves that answers texts. -/
def TxtsIs (xs : List (List UInt8)) (w : World) (e : Ending) (w' : World) : Prop := ∃ A c, e = .returned (.slice A xs.length c) ∧ Strs w' w'.heap.size A xs ∧ (A = none → c = 0) ∧ xs.length ≤ c ∧ Below w.heap.size w w'
theorem TxtsIs.none_ {w w' : World} (hb : Below w.heap.size w w') : TxtsIs [] w (.returned (.slice none 0 0)) w' := ⟨none, 0, rfl, .inl rfl, fun _ => rfl, by simp, hb⟩
theorem tickL_len15 (x : LEnd) : (tickL x).length = min 4 x.out.length := by unfold tickL; rw [List.length_mapIdx, List.length_take]
theorem tickL_at {x : LEnd} {k : Nat} (h : k < (tickL x).length) (h2 : k < x.out.length) : (tickL x)[k] = pktB x 1 (x.fi + k) x.out[k] := by
  have e : (tickL x)[k]? = some (pktB x 1 (x.fi + k) x.out[k]) := by
    have h4 : k < 4 := by rw [tickL_len15] at h; omega
    unfold tickL
    rw [List.getElem?_mapIdx, List.getElem?_take, if_pos h4, List.getElem?_eq_getElem h2]
    rfl
  rw [List.getElem?_eq_getElem h] at e
  injection e

set_option maxHeartbeats 1000000 in
set_option maxRecDepth 100000 in
theorem LTick_wrong (x : LEnd) (A : Option Addr) (c : Nat) (w : World) (h : Strs w w.heap.size A x.out) (hl : x.out.length ≤ 9223372036854775807) (hx : okB x = false) :
    Calls Try.prog 13 #[x.val A c] w (TxtsIs [] w) := by
  have hb1 := below_one w (.cells #[.int .i64 x.ep, .int .i64 x.ot, .int .i64 x.fi, .slice A x.out.length c, .int .i64 x.wa] 24)
  have HRt := Lib.hid (LRight_any x A c _ (h.next hb1) hl)
  have HB1 := Lib.hid hb1
  have HOk := Lib.hid hx
  clear h hl hx hb1
  unfold LEnd.val at HRt ⊢
  go_enter Try.func13, Try.ntmps13
  go_wp2_with (go_at_call 14; refine HRt.out.mono ?_; rw [HOk.out]; rintro e w9 ⟨rfl, hb9⟩)
  go_ret
  exact TxtsIs.none_ (below_next HB1.out hb9)

set_option maxHeartbeats 4000000 in
set_option maxRecDepth 100000 in
theorem LTick_ok (x : LEnd) (A : Option Addr) (c : Nat) (w : World) (h : Strs w w.heap.size A x.out) (hx : x.Ok) :
    Calls Try.prog 13 #[x.val A c] w (TxtsIs (tickL x) w) := by
  have hb1 := below_one w (.cells #[.int .i64 x.ep, .int .i64 x.ot, .int .i64 x.fi, .slice A x.out.length c, .int .i64 x.wa] 24)
  have hlen := hx.len
  have hf1 := hx.f1
  have hf2 := hx.f2
  have HF := Lib.hid (Five.new w (.int .i64 x.ep) (.int .i64 x.ot) (.int .i64 x.fi) (.slice A x.out.length c) (.int .i64 x.wa) 24)
  have HRt := Lib.hid (LRight_any x A c _ (h.next hb1) (by omega))
  have HB1 := Lib.hid hb1
  have HOk := Lib.hid ((okB_iff x).2 hx)
  have HSe : Hid (∀ (k : Nat) (hk : k < x.out.length) (W : World), k < 4 → Calls Try.prog 35 #[x.val A c, .int .i64 (1 : Nat), .int .i64 (x.fi + k), .string (str x.out[k])] W fun e w' => e = .returned (.string (str (pktB x 1 (x.fi + k) x.out[k]))) ∧ Below W.heap.size W w') := Lib.hid (fun k hk W h4 => lseal_any x A c 1 (x.fi + k) x.out[k] W hx.ok3 (.inl rfl) (by omega) (by omega) (hx.each _ (List.getElem_mem hk)))
  have HA := Lib.hid h
  have HTk := Lib.hid (fun k h1 h2 => @tickL_at x k h1 h2)
  obtain ⟨m, hm⟩ : ∃ m, (tickL x).length = m := ⟨_, rfl⟩
  have hm2 : m = min 4 x.out.length := by rw [← hm, tickL_len15]
  have hmi : min (x.out.length : Int) 4 = (m : Int) := by omega
  have hm4 : m ≤ 4 := by omega
  have hmn : m ≤ x.out.length := by omega
  have HM := Lib.hid hm
  have hmk := fun W => run_make_row' (P := Try.prog) 22 9 (.string ⟨#[]⟩) 16 Try.underlying22 Try.infoStr rfl .i64 .i64 m (by omega) (by omega) W
  unfold LEnd.val at HRt HSe ⊢
  clear h hx hb1 hm hm2
  go_enter Try.func13, Try.ntmps13
  go_wp2_with (go_at_call 14; refine HRt.out.mono ?_; rw [HOk.out]; rintro e w1 ⟨rfl, hb9⟩; have HF1 := Lib.hid (HF.out.below hb9); have HB2 := Lib.hid (below_next HB1.out hb9); clear hb9; have x0 := HF1.out.c0; have x1 := HF1.out.c1; have x2 := HF1.out.c2; have x3 := HF1.out.c3; have x4 := HF1.out.c4)
  have hP : w.heap.size < w1.heap.size := HF1.out.lt
  have HF2 := Lib.hid (HF1.out.below (below_one w1 (.cells (madeCells #[.string ⟨#[]⟩] m) 9)))
  have HB3 := Lib.hid (below_next HB2.out (below_one w1 (.cells (madeCells #[.string ⟨#[]⟩] m) 9)))
  have HRow : Hid ((w1.alloc (.cells (madeCells #[.string ⟨#[]⟩] m) 9)).heap[w1.heap.size]? = some (.cells (fillC (tickL x) 0) 9 (0, 0))) := Lib.hid (by rw [fillC_none, HM.out]; exact heap_alloc_new _ _)
  clear x0 x1 x2 x3 x4 HF HF1 HB2
  generalize w1.heap.size = R at *
  clear HRt HOk hmk hmi
  go_loopw [15] (fun i wr => ∃ k : Nat, k ≤ m ∧ i = .int .i64 k ∧ Hid (Five wr w.heap.size (.int .i64 x.ep) (.int .i64 x.ot) (.int .i64 x.fi) (.slice A x.out.length c) (.int .i64 x.wa) 24) ∧ Hid (wr.heap[R]? = some (.cells (fillC (tickL x) k) 9 (0, 0))) ∧ Hid (Below w.heap.size w wr)) (fun i _ => m - (intOf i).toNat)
  case atStart => exact ⟨0, by omega, rfl, HF2, HRow, HB3⟩
  case round =>
    clear HF2 HB3 HRow
    obtain ⟨k, hk, rfl, HFr, HRow, HBr⟩ := hrel
    by_cases hlt : k < m
    · have hkn : k < x.out.length := by omega
      have hkt : k < (tickL x).length := by rw [HM.out]; exact hlt
      obtain ⟨b, off, hA, hbl, hc0⟩ := HA.out.at_ hkn
      subst hA
      have HC0 := Lib.hid (fun (W : World) (hW : Below w.heap.size w W) => (hW.cell (p := ⟨b, off + k, none⟩) hbl).trans hc0)
      have HS := Lib.hid (fun W => HSe.out k hkn W (by omega))
      have e1 := HTk.out k hkt hkn
      have HSt := Lib.hid (fillC_step hkt)
      have HAt := Lib.hid (fillC_at hkt)
      rw [e1] at HSt
      clear e1 hc0
      unfold txt at HC0 HSt
      generalize pktB x 1 (x.fi + k) x.out[k] = PK at *
      generalize x.out[k] = pc at *
      have hd0 := HFr.out.drew.all
      have hd1 : wr.drew.cell? ⟨b, off + k, none⟩ = some (.string (str pc)) := HC0.out _ HBr.out.drew
      have HLt := Lib.hid (fun z : LatW wr => (HFr.out.lat z).all)
      have HLc : Hid (∀ z : LatW wr, z.wd.cell? ⟨b, off + k, none⟩ = some (.string (str pc))) := Lib.hid (fun z => HC0.out _ (lat_end HBr.out z))
      obtain ⟨d0, d1, d2, d3, d4⟩ := hd0
      have hRP : w.heap.size ≠ R := by omega
      have HRz : Hid (∀ z : LatW wr, z.wd.heap[R]? = some (.cells (fillC (tickL x) k) 9 (0, 0))) := Lib.hid (fun z => (z.bel.block R (heap_lt HRow.out)).trans HRow.out)
      have q0 : ∀ z : LatW wr, z.wd.cell? ⟨R, k, none⟩ = some (.string ⟨#[]⟩) := fun z => by rw [Lib.cell_of_heap (HRz.out z) k, HAt.out]
      have qf : ∀ z : LatW wr, z.wd.frozen? ⟨R, k, none⟩ = false := fun z => Lib.frozen_of_heap (HRz.out z) k
      have HLs : Hid (∀ z : LatW wr, (z.wd.setCell ⟨R, k, none⟩ (.string (str PK))).cell? ⟨w.heap.size, 0, none⟩ = some (.int .i64 x.ep) ∧ (z.wd.setCell ⟨R, k, none⟩ (.string (str PK))).cell? ⟨w.heap.size, 1, none⟩ = some (.int .i64 x.ot) ∧ (z.wd.setCell ⟨R, k, none⟩ (.string (str PK))).cell? ⟨w.heap.size, 2, none⟩ = some (.int .i64 x.fi) ∧ (z.wd.setCell ⟨R, k, none⟩ (.string (str PK))).cell? ⟨w.heap.size, 3, none⟩ = some (.slice (some ⟨b, off, none⟩) x.out.length c) ∧ (z.wd.setCell ⟨R, k, none⟩ (.string (str PK))).cell? ⟨w.heap.size, 4, none⟩ = some (.int .i64 x.wa) ∧ (z.wd.setCell ⟨R, k, none⟩ (.string (str PK))).cell? ⟨b, off + k, none⟩ = some (.string (str pc))) := Lib.hid (fun z => by
        obtain ⟨a0, a1, a2, a3, a4⟩ := ((HFr.out.lat z).far (p := ⟨R, k, none⟩) hRP (.string (str PK))).all
        exact ⟨a0, a1, a2, a3, a4, HC0.out _ ((lat_end HBr.out z).setCell (p := ⟨R, k, none⟩) (by show w.heap.size ≤ R; omega) _)⟩)
      have hk0 : (0 : Int) ≤ (k : Int) := by omega
      have hk1 : (k : Int) < (m : Int) := by omega
      have hk2 : (k : Int) < (x.out.length : Int) := by omega
      have hwk : IntKind.i64.wrap (x.fi + (k : Int)) = x.fi + (k : Int) := by rw [IntKind.wrap_i64]; omega
      go_upto_region 7 with fail
      go_region_held3 (fun w' => w'.cell? ⟨w.heap.size, 0, none⟩ = some (.int .i64 x.ep) ∧ w'.cell? ⟨w.heap.size, 1, none⟩ = some (.int .i64 x.ot) ∧ w'.cell? ⟨w.heap.size, 2, none⟩ = some (.int .i64 x.fi) ∧ w'.cell? ⟨w.heap.size, 3, none⟩ = some (.slice (some ⟨b, off, none⟩) x.out.length c) ∧ w'.cell? ⟨w.heap.size, 4, none⟩ = some (.int .i64 x.wa) ∧ w'.cell? ⟨b, off + k, none⟩ = some (.string (str pc))) (first | with_reducible exact ⟨(HLt.out z4).1, (HLt.out z4).2.1, (HLt.out z4).2.2.1, (HLt.out z4).2.2.2.1, (HLt.out z4).2.2.2.2, HLc.out z4⟩ | with_reducible exact ⟨d0, d1, d2, d3, d4, hd1⟩ | with_reducible exact HLs.out z4) (first | (go_at_call 35; refine (HS.out _).mono ?_; rintro e w8 ⟨rfl, hb8⟩; obtain ⟨z4, hz4⟩ := LatW.later (LatW.first wr) hb8; subst hz4; clear hb8))
      all_goals
        have HF4 := Lib.hid ((HFr.out.lat z4).far (p := ⟨R, k, none⟩) hRP (.string (str PK)))
        have HRow4 : Hid ((z4.wd.setCell ⟨R, k, none⟩ (.string (str PK))).heap[R]? = some (.cells (fillC (tickL x) (k + 1)) 9 (0, 0))) := Lib.hid (by rw [← HSt.out]; exact row_set (HRz.out z4) k _)
        have HB4 := Lib.hid ((lat_end HBr.out z4).setCell (p := ⟨R, k, none⟩) (by show w.heap.size ≤ R; omega) (.string (str PK)))
        clear d0 d1 d2 d3 d4 hd1 q0 qf HLs HLt HLc HC0
        go_wp2_with fail
        go_roundw
        case rel => exact ⟨k + 1, by omega, by go_num, HF4, HRow4, HB4⟩
        case measure => simp [intOf]; omega
    · obtain rfl : k = m := by omega
      go_wp2_with fail
      go_ret
      have HT : Hid (∀ xs : List (List UInt8), xs.length = k → wr.heap[R]? = some (.cells (fillC xs k) 9 (0, 0)) → TxtsIs xs w (.returned (.slice (some ⟨R, 0, none⟩) k k)) wr) := Lib.hid (fun xs hxl hrow => by
        subst hxl
        rw [fillC_done] at hrow
        refine ⟨some ⟨R, 0, none⟩, xs.length, rfl, .inr ⟨R, 0, rfl, heap_lt hrow, fun i hi => ?_⟩, fun h => (by cases h), Nat.le_refl _, HBr.out⟩
        rw [Lib.cell_of_heap hrow, Nat.zero_add]
        simp [hi])
      exact HT.out _ HM.out HRow.out
end Go.Proofs.Ytdhmkcomngbmaaa
