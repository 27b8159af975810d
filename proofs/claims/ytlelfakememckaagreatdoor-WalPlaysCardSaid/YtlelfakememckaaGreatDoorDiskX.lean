/- Contract of disk.Write, over all inputs. Contract of disk.Flush. -/
import Derived.Test.YtlelfakememckaaGreatDoorDiskW
namespace Go.Proofs.YtlelfakememckaaGreatDoor
open Go.RowKit

theorem lasts_end {w w' : World} {F : Nat → Prop} {a : Nat} {d : DSt} {e : Ending} (hd : IsDisk w F a d) (h : LastsEnd w F a d e w') (v : Value) : DiskEnd w F a d.spent v (.returned v) w' := by
  obtain ⟨_, hm, _, hk⟩ := h
  obtain ⟨ho, s, cs, u, cu, x, h⟩ := hd
  exact ⟨rfl, hm, F, ⟨ho.spent, s, cs, u, cu, x, hk _ _ _ _ _ h⟩, fun _ h => Or.inl h⟩

set_option maxHeartbeats 800000 in
theorem Write_any {w : World} {F : Nat → Prop} {a : Nat} {d : DSt} (h : IsDisk w F a d) (i : Int) (t : ByteArray) (ht : t.size ≤ 9223372036854775807) (hL : d.loose.length ≤ 1000000) :
    Calls Tryz.prog 100 #[.pointer (some ⟨a, 0, none⟩), .int .i64 i, .string t] w (DiskEnd w F a (d.writeD i t.data.toList) (.int .i64 (d.writeE i t.data.toList))) := by
  have HD := Lib.hid h
  by_cases h1 : d.off = true
  · rw [show d.writeE i t.data.toList = 7 from by unfold DSt.writeE; rw [if_pos h1], show d.writeD i t.data.toList = d from by unfold DSt.writeD; rw [if_pos (Or.inl h1)]]
    have H1 := Lib.hid h1
    clear h h1
    go_enter Tryz.func100, Tryz.ntmps100
    go_wp2_with (go_at_call 54; refine (Down_any HD.out).mono ?_; rw [H1.out]; rintro e w' ⟨rfl, rfl⟩)
    go_ret
    exact DiskEnd.same HD.out
  have h1' : d.off = false := by simpa using h1
  have H1 := Lib.hid h1'
  by_cases h2 : d.has i = true
  case neg =>
    have h2' : d.has i = false := by simpa using h2
    rw [show d.writeE i t.data.toList = 1 from by unfold DSt.writeE; rw [if_neg h1, if_pos h2'], show d.writeD i t.data.toList = d from by unfold DSt.writeD; rw [if_pos (Or.inr (Or.inl h2'))]]
    have H2 := Lib.hid h2'
    clear h h1 h1' h2 h2'
    go_enter Tryz.func100, Tryz.ntmps100
    go_wp2_with (first
      | (go_at_call 54; refine (Down_any HD.out).mono ?_; rw [H1.out]; rintro e w' ⟨rfl, rfl⟩)
      | (go_at_call 55; refine (has_any HD.out _).mono ?_; rw [H2.out]; rintro e w' ⟨rfl, rfl⟩))
    go_ret
    exact DiskEnd.same HD.out
  by_cases h3 : 32 < t.size
  · have h3' : 32 < t.data.toList.length := by rw [list_length]; exact h3
    rw [show d.writeE i t.data.toList = 5 from by unfold DSt.writeE; rw [if_neg h1, if_neg (by rw [h2]; simp), if_pos h3'], show d.writeD i t.data.toList = d from by unfold DSt.writeD; rw [if_pos (Or.inr (Or.inr h3'))]]
    have H2 := Lib.hid h2
    clear h h1 h1' h2 h3'
    go_enter Tryz.func100, Tryz.ntmps100
    go_wp2_with (first
      | (go_at_call 54; refine (Down_any HD.out).mono ?_; rw [H1.out]; rintro e w' ⟨rfl, rfl⟩)
      | (go_at_call 55; refine (has_any HD.out _).mono ?_; rw [H2.out]; rintro e w' ⟨rfl, rfl⟩))
    go_ret
    exact DiskEnd.same HD.out
  have h3' : ¬ 32 < t.data.toList.length := by rw [list_length]; exact h3
  have hn : ¬ (d.off = true ∨ d.has i = false ∨ 32 < t.data.toList.length) := by rw [h2]; simp [h1', h3]
  by_cases h4 : d.lasts = true
  · rw [show d.writeE i t.data.toList = 0 from by unfold DSt.writeE; rw [if_neg h1, if_neg (by rw [h2]; simp), if_neg h3', if_pos h4], show d.writeD i t.data.toList = d.spent.put i.toNat (padB t.data.toList) from by unfold DSt.writeD; rw [if_neg hn, if_pos h4]]
    obtain ⟨h5, h6⟩ := (d.has_iff i).1 h2
    obtain ⟨k, rfl⟩ := Int.eq_ofNat_of_zero_le h5
    rw [Int.toNat_natCast]
    exact Write_ok h k t h1' (by omega) (by omega) h4 hL
  · have h4' : d.lasts = false := by simpa using h4
    rw [show d.writeE i t.data.toList = 7 from by unfold DSt.writeE; rw [if_neg h1, if_neg (by rw [h2]; simp), if_neg h3', if_neg h4], show d.writeD i t.data.toList = d.spent from by unfold DSt.writeD; rw [if_neg hn, if_neg h4]]
    have H2 := Lib.hid h2
    have H4 := Lib.hid h4'
    clear h h1 h1' h2 h3' hn h4 h4'
    go_enter Tryz.func100, Tryz.ntmps100
    go_wp2_with (first
      | (go_at_call 54; refine (Down_any HD.out).mono ?_; rw [H1.out]; rintro e w' ⟨rfl, rfl⟩)
      | (go_at_call 55; refine (has_any HD.out _).mono ?_; rw [H2.out]; rintro e w' ⟨rfl, rfl⟩)
      | (go_at_call 116; refine (lasts_any HD.out).mono ?_; rintro e w1 hl; have HE := Lib.hid (lasts_end HD.out hl (.int .i64 7)); obtain ⟨he, _⟩ := hl; rw [H4.out] at he; subst he))
    go_ret
    exact HE.out
end Go.Proofs.YtlelfakememckaaGreatDoor

namespace Go.Proofs.YtlelfakememckaaGreatDoor
open Go.RowKit

theorem grownBy_refl (w : World) (row : Option Nat) : w.grownBy w row := ⟨rfl, rfl, rfl, Nat.le_refl _, fun _ _ _ => rfl⟩
theorem grownBy_moves {w w' : World} {u : Nat} (h : Moves (fun q => q = u) w w') : w.grownBy w' (some u) := ⟨h.os, h.tape, h.output, h.size, fun k hk hn => h.block k hk (fun e => hn (by rw [e]))⟩
theorem moves_grownBy {w w' : World} {u : Nat} (h : w.grownBy w' (some u)) : Moves (fun q => q = u) w w' := ⟨h.os, h.tape, h.output, h.size, fun k hk hn => h.block k hk (fun e => hn (by simpa using e))⟩

/-- The firm sectors turned, nothing else. -/
theorem DiskAt.firmSet {w w' : World} {F : Nat → Prop} {a : Nat} {d : DSt} {s cs u cu : Nat} {v : Value} (h : DiskAt w F a d s cs u cu v) (hm : Moves (fun q => q = u) w w') {f : List (List UInt8)} (hf : Secs w' u f) (hl : f.length = d.firm.length) :
    DiskAt w' F a { d with firm := f } s cs u cu v := by
  have hb : ∀ q, F q → q ≠ u → w'.heap[q]? = w.heap[q]? := fun q hq hn => hm.block q (h.low q hq) hn
  refine ⟨?_, h.seen.kept (hb s h.fs h.su) hm.size, hf, h.own.kept (grownBy_moves hm) (Or.inr h.vu), ?_, h.as_, h.au, h.su, h.va, h.vs, h.vu, h.fa, h.fs, h.fu, h.fv, fun q hq => Nat.lt_of_lt_of_le (h.low q hq) hm.size⟩
  · rw [hb a h.fa h.au, h.blk]
    simp [diskCells, hl]
  · show _ ∧ _ ∧ f.length ≤ _ ∧ _
    rw [hl]; exact h.caps

/-- No loose writes. -/
theorem DiskAt.looseNone {w : World} {F : Nat → Prop} {a : Nat} {d : DSt} {s cs u cu : Nat} {v : Value} (h : DiskAt w F a d s cs u cu v) :
    DiskAt (w.setCell ⟨a, 2, none⟩ (.slice none 0 0)) F a { d with loose := [] } s cs u cu (.slice none 0 0) := by
  have hb : ∀ k, k ≠ a → (w.setCell ⟨a, 2, none⟩ (.slice none 0 0)).heap[k]? = w.heap[k]? := fun k hk => Below.heap_setCell _ _ _ _ hk
  have hs : (w.setCell ⟨a, 2, none⟩ (.slice none 0 0)).heap.size = w.heap.size := by simp [World.setCell]
  refine ⟨?_, h.seen.kept (hb s h.as_.symm) (Nat.le_of_eq hs.symm), h.firm.kept (hb u h.au.symm) (Nat.le_of_eq hs.symm), World.ownsRow_nil _ _ _ _, h.caps, h.as_, h.au, h.su, by simp [Value.ownBlock], by simp [Value.ownBlock], by simp [Value.ownBlock], h.fa, h.fs, h.fu, by simp [Value.ownBlock], fun k hk => by rw [hs]; exact h.low k hk⟩
  rw [row_set h.blk 2 _]
  simp [diskCells]

theorem Flush_nil (w : World) : Calls Tryz.prog 101 #[.pointer none] w fun e w' => e = .returned (.int .i64 7) ∧ w = w' := by
  go_enter Tryz.func101, Tryz.ntmps101
  go_wp2_with (go_at_call 54; refine (Down_nil _).mono ?_; rintro e w' ⟨rfl, rfl⟩)
  go_ret
  exact ⟨rfl, rfl⟩

/-- What lies where, when the loose write k is looked at. -/
theorem loose_at {w wr : World} {F : Nat → Prop} {a : Nat} {d : DSt} {s cs u cu m c : Nat} {A : Option Addr} (h : DiskAt w F a d s cs u cu (.slice A m c)) (ho : d.Ok) (hm : Moves (fun q => q = u) w wr) {k : Nat} (hk : k < d.loose.length) :
    ∃ g, A = some ⟨g, 0, none⟩ ∧ wr.rangeAt g (k * 33) (Value.int .i64 ((d.loose[k].1 : Nat) : Int) :: byteVals d.loose[k].2) ∧ d.loose[k].1 < d.firm.length ∧ d.loose[k].2.length = 32 ∧
      wr.cell? ⟨a, 1, none⟩ = some (.slice (some ⟨u, 0, none⟩) d.firm.length cu) ∧ a < wr.heap.size ∧ u < wr.heap.size := by
  obtain ⟨g, cap, hv, hg, hr⟩ := loose_range h.own (fun p hp => (ho.at_ p hp).2) k hk
  simp only [Value.slice.injEq] at hv
  obtain ⟨rfl, _, _⟩ := hv
  have h1 := ho.at_ _ (List.getElem_mem hk)
  have hgu : g ≠ u := fun e => h.vu (by rw [e]; rfl)
  refine ⟨g, rfl, rangeAt_block hr (hm.block g hg hgu), by rw [ho.len]; exact h1.1, h1.2, ?_, Nat.lt_of_lt_of_le (h.low a h.fa) hm.size, Nat.lt_of_lt_of_le (h.low u h.fu) hm.size⟩
  rw [World.cell?_of_block (hm.block a (h.low a h.fa) h.au)]
  exact h.cell.2.1

/-- One write laid over the firm sectors, in a world with a new block. -/
theorem firm_step {w wr : World} {u : Nat} {f : List (List UInt8)} (hm : Moves (fun q => q = u) w wr) (hf : Secs wr u f) {i : Nat} (hi : i < f.length) {x : List UInt8} (hx : x.length = 32) (o : Obj) :
    Moves (fun q => q = u) w ((wr.alloc o).drew.setCells u (i * 32) (byteVals x)) ∧ Secs ((wr.alloc o).drew.setCells u (i * 32) (byteVals x)) u (f.set i x) :=
  ⟨Moves.setCells (F := fun q => q = u) rfl _ _ (hm.alloc o).drew, Secs.set (w := (wr.alloc o).drew) (hf.kept (w' := (wr.alloc o).drew) (Below.heap_alloc wr o u hf.1) (by rw [drew_size]; simp)) hi hx⟩

theorem take_loose {l : List (Nat × List UInt8)} {k : Nat} (h : k < l.length) : l.take (k + 1) = l.take k ++ [l[k]] := List.take_succ_eq_append_getElem h

set_option maxHeartbeats 4000000 in
set_option maxRecDepth 100000 in
theorem Flush_ok {w : World} {F : Nat → Prop} {a : Nat} {d : DSt} (h : IsDisk w F a d) (h1 : d.off = false) (h4 : d.lasts = true) (hL : d.loose.length ≤ 1000001) :
    Calls Tryz.prog 101 #[.pointer (some ⟨a, 0, none⟩)] w (DiskEnd w F a d.spent.firmAll (.int .i64 0)) := by
  have HD := Lib.hid h
  have H1 := Lib.hid h1
  have H4 := Lib.hid h4
  obtain ⟨ho, sb, cs, ub, cu, v, hd⟩ := h
  have HA := Lib.hid hd
  have HO := Lib.hid ho.spent
  clear h1 h4 hd ho
  go_enter Tryz.func101, Tryz.ntmps101
  go_upto_region 3 with (first
    | (go_at_call 54; refine (Down_any HD.out).mono ?_; rw [H1.out]; rintro e w' ⟨rfl, rfl⟩)
    | (go_at_call 116; refine (lasts_any HD.out).mono ?_; rintro e w1 ⟨he, hm1, hz1, hd1⟩; rw [H4.out] at he; subst he; replace hm1 := Lib.hid hm1; replace hz1 := Lib.hid hz1; replace hd1 := Lib.hid hd1))
  have hd := hd1.out _ _ _ _ _ HA.out
  have HL2 : Hid (d.spent.loose.length ≤ 1000001) := Lib.hid (by rw [DSt.spent_loose]; exact hL)
  clear hL HA hd1
  generalize d.spent = e at *
  obtain ⟨A, c, hv, hc1, hc2⟩ := own_form hd.own
  subst hv
  obtain ⟨_, _, c2, _, _, _⟩ := hd.cell
  have hl6 := HL2.out
  have Hd := Lib.hid hd
  clear hd
  have hat := Lib.hid HO.out.at_
  have hlen := Lib.hid HO.out.len
  have hle := HO.out.le
  obtain ⟨m, hm⟩ : ∃ m, e.loose.length = m := ⟨_, rfl⟩
  have HM := Lib.hid hm
  rw [hm] at c2 hl6 hc1
  clear hm
  unfold maxLen at hc2
  go_wp2
  go_loopw [19] (fun i wr => ∃ k : Nat, k ≤ m ∧ i = .int .i64 k ∧ Hid (Moves (fun q => q = ub) w1 wr) ∧ Hid (Secs wr ub (applyAll e.firm (e.loose.take k)))) (fun i _ => m - (intOf i).toNat)
  case atStart => exact ⟨0, Nat.zero_le _, rfl, Lib.hid (Moves.refl _ _), Lib.hid Hd.out.firm⟩
  case round =>
    obtain ⟨k, hk, rfl, HW, HF⟩ := hrel
    by_cases hlt : k < m
    · have hkl : k < e.loose.length := by rw [HM.out]; exact hlt
      obtain ⟨g, rfl, hr, hat1, hx32, ca1, haw, huw⟩ := loose_at Hd.out HO.out HW.out hkl
      have HT := Lib.hid (take_loose hkl)
      obtain ⟨p, hp⟩ : ∃ p, e.loose[k] = p := ⟨_, rfl⟩
      rw [hp] at hr hat1 hx32 HT
      clear hp hkl
      obtain ⟨at_, x⟩ := p
      simp only at hr hat1 hx32
      have HST := Lib.hid (firm_step HW.out HF.out (i := at_) (by rw [applyAll_length]; exact hat1) hx32 (.cells (writeCells at_ x) 97))
      have htS : ((wr.alloc (.cells (writeCells at_ x) 97))).there ub (at_ * 32) 32 := there_block (HF.out.2 at_ (by rw [applyAll_length]; exact hat1)).2.2 (Below.heap_alloc wr _ ub huw)
      have HAP : Hid (applyAll e.firm (e.loose.take (k + 1)) = (applyAll e.firm (e.loose.take k)).set at_ x) := Lib.hid (by rw [HT.out, applyAll_snoc])
      clear HT
      have hu65 := Tryz.underlying97
      have hY : (writeCells at_ x).toList = Value.int .i64 (at_ : Int) :: byteVals x := writeCells_list _ _
      have hYs := writeCells_size at_ hx32
      have hY1 := writeCells_one at_ x
      have hZ := (zero_of_info Tryz.infoWrite2).1
      have hZs := writeCells_size 0 zeros_length
      obtain ⟨Z, hZe⟩ : ∃ Z, writeCells 0 (List.replicate 32 0) = Z := ⟨_, rfl⟩
      rw [hZe] at hZ hZs
      clear hZe
      rw [← hY] at hr
      have hrY : (wr.alloc (.cells (writeCells at_ x) 97)).heap[wr.heap.size]? = some (.cells (writeCells at_ x) 97 (0, 0)) := heap_alloc_new _ _
      have hcB : (wr.alloc (.cells (writeCells at_ x) 97)).cell? ⟨wr.heap.size, 0, none⟩ = some (.int .i64 at_) := by rw [Lib.cell_of_heap hrY]; rfl
      have hrB : (wr.alloc (.cells (writeCells at_ x) 97)).rangeAt wr.heap.size 1 (byteVals x) := fun j u hu => by
        rw [Lib.cell_of_heap hrY, Nat.add_comm 1 j]
        simpa [writeCells] using hu
      have ca2 : (wr.alloc (.cells (writeCells at_ x) 97)).cell? ⟨a, 1, none⟩ = some (.slice (some ⟨ub, 0, none⟩) e.firm.length cu) := by
        rw [World.cell?_of_block (Below.heap_alloc wr _ a haw)]
        exact ca1
      have hl32 : (byteVals x).length = 32 := by rw [byteVals_length, hx32]
      have hone := byteVals_one x
      clear hY hrY ca1
      generalize byteVals x = vs at *
      generalize writeCells at_ x = Y at *
      replace hr := Lib.hid hr
      replace hYs := Lib.hid hYs
      replace hY1 := Lib.hid hY1
      replace hZ := Lib.hid hZ
      replace hZs := Lib.hid hZs
      replace hu65 := Lib.hid hu65
      replace hcB := Lib.hid hcB
      replace hrB := Lib.hid hrB
      replace ca2 := Lib.hid ca2
      replace htS := Lib.hid htS
      replace hl32 := Lib.hid hl32
      replace hone := Lib.hid hone
      have hau : a ≠ ub := Hd.out.au
      have hBu : wr.heap.size ≠ ub := by omega
      go_upto_region 5 with fail
      refine wp_region_lit ?_
      refine wpList_value (by rfl) (.pointer (some ⟨g, k * 33, none⟩)) wr (by go_simp) ?_
      refine wpList_load_mid (by rfl) 97 (.tmp 21) (by rfl) g (k * 33) (by rfl) Y.toList _ hr.out hu65.out rfl (by rw [Array.length_toList, hYs.out]; exact (zero_of_info Tryz.infoWrite2).2) ?_
      refine wpList_alloc_known (by rfl) 97 (by rfl) Z (hZ.out _) ?_
      refine wpList_store_new (by rfl) _ _ _ (by rfl) wr Z Y rfl (by rfl) (by rfl) (by rw [hYs.out]; exact (zero_of_info Tryz.infoWrite2).2) (by rw [hYs.out, hZs.out]) hY1.out ?_
      refine wpList_nil ?_
      generalize hV : wr.alloc (.cells Y 97) = V at *
      clear hV
      generalize wr.heap.size = B at *
      go_upto_region 6 with fail
      have hk0 : (0 : Int) ≤ (at_ : Int) := Int.natCast_nonneg _
      have hk8 : (at_ : Int) < (e.firm.length : Int) := by omega
      have hu := Tryz.underlying95
      have hl := hl32.out
      have ho1 := hone.out
      have hi : (Tryz.prog.info? 95).map (·.size) = some vs.length := by rw [Tryz.infoSec, hl]
      have c1 := ca2.out
      have c3 := hcB.out
      have r1 := hrB.out
      have t1 := htS.out
      have HK : Hid ((V.drew.setCells ub (at_ * 32) vs).cell? ⟨a, 1, none⟩ = some (.slice (some ⟨ub, 0, none⟩) e.firm.length cu) ∧ (V.drew.setCells ub (at_ * 32) vs).cell? ⟨B, 0, none⟩ = some (.int .i64 at_) ∧ (V.drew.setCells ub (at_ * 32) vs).rangeAt B 1 vs ∧ (V.drew.setCells ub (at_ * 32) vs).there ub (at_ * 32) 32) :=
        Lib.hid ⟨(World.cell?_of_block (block_setCells hau _ _ _)).trans c1, (World.cell?_of_block (block_setCells hBu _ _ _)).trans c3, rangeAt_block (w := V.drew) r1 (block_setCells hBu _ _ _), World.there_setCells (w := V.drew) t1 _ _ _⟩
      simp only [Act.put]
      go_region_held3 (fun w' => w'.cell? ⟨a, 1, none⟩ = some (.slice (some ⟨ub, 0, none⟩) e.firm.length cu) ∧ w'.cell? ⟨B, 0, none⟩ = some (.int .i64 at_) ∧ w'.rangeAt B 1 vs ∧ w'.there ub (at_ * 32) 32) (first | exact ⟨c1, c3, r1, t1⟩ | exact HK.out) (fail)
      clear HK c1 c3 r1 t1 hu hl ho1 hi
      go_wp2
      refine ⟨⟨k + 1, by omega, by go_num, Lib.hid HST.out.1, Lib.hid ?_⟩, by simp [intOf]; omega⟩
      rw [HAP.out]
      exact HST.out.2
    · have HK : Hid (k = m) := Lib.hid (by omega)
      have hd9 : DiskAt wr F a { e with firm := applyAll e.firm e.loose } sb cs ub cu (.slice A e.loose.length c) := by
        have := HF.out
        rw [HK.out, ← HM.out, List.take_length] at this
        exact Hd.out.firmSet HW.out this (applyAll_length _ _)
      obtain ⟨_, _, c9, _, _, _⟩ := hd9.cell
      have f9 := hd9.frozen 2
      have H9 := Lib.hid hd9
      clear hd9
      go_wp2
      go_ret
      refine ⟨rfl, ?_, F, ⟨HO.out.firmAll, sb, cs, ub, cu, _, H9.out.looseNone⟩, fun _ h => Or.inl h⟩
      refine Moves.setCell ?_ H9.out.fa _
      exact hm1.out.trans HW.out (fun q hq => Or.inl (by subst hq; exact H9.out.fu))

set_option maxHeartbeats 400000 in
theorem Flush_any {w : World} {F : Nat → Prop} {a : Nat} {d : DSt} (h : IsDisk w F a d) (hL : d.loose.length ≤ 1000001) :
    Calls Tryz.prog 101 #[.pointer (some ⟨a, 0, none⟩)] w (DiskEnd w F a d.flushD (.int .i64 d.flushE)) := by
  have HD := Lib.hid h
  by_cases h1 : d.off = true
  · rw [show d.flushE = 7 from by unfold DSt.flushE; rw [if_pos h1], show d.flushD = d from by unfold DSt.flushD; rw [if_pos h1]]
    have H1 := Lib.hid h1
    clear h h1
    go_enter Tryz.func101, Tryz.ntmps101
    go_wp2_with (go_at_call 54; refine (Down_any HD.out).mono ?_; rw [H1.out]; rintro e w' ⟨rfl, rfl⟩)
    go_ret
    exact DiskEnd.same HD.out
  have h1' : d.off = false := by simpa using h1
  by_cases h4 : d.lasts = true
  · rw [show d.flushE = 0 from by unfold DSt.flushE; rw [if_neg h1, if_pos h4], show d.flushD = d.spent.firmAll from by unfold DSt.flushD; rw [if_neg h1, if_pos h4]]
    exact Flush_ok h h1' h4 hL
  · have h4' : d.lasts = false := by simpa using h4
    rw [show d.flushE = 7 from by unfold DSt.flushE; rw [if_neg h1, if_neg h4], show d.flushD = d.spent from by unfold DSt.flushD; rw [if_neg h1, if_neg h4]]
    have H1 := Lib.hid h1'
    have H4 := Lib.hid h4'
    clear h h1 h1' h4 h4'
    go_enter Tryz.func101, Tryz.ntmps101
    go_wp2_with (first
      | (go_at_call 54; refine (Down_any HD.out).mono ?_; rw [H1.out]; rintro e w' ⟨rfl, rfl⟩)
      | (go_at_call 116; refine (lasts_any HD.out).mono ?_; rintro e w1 hl; have HE := Lib.hid (lasts_end HD.out hl (.int .i64 7)); obtain ⟨he, _⟩ := hl; rw [H4.out] at he; subst he))
    go_ret
    exact HE.out
end Go.Proofs.YtlelfakememckaaGreatDoor
