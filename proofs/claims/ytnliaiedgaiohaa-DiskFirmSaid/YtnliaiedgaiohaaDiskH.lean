/- Contract of act at an empty disk of the document's answer: for DiskFirm. -/
import Derived.Test.YtnliaiedgaiohaaDiskE
import Derived.Deep.RegionWith
namespace Go.Proofs.Ytnliaiedgaiohaa
open Go.RowKit

/-- What an act does to a disk. -/
def actD (d : DSt) (x : ActV) : DSt :=
  if kindN x.k = 3 then d.flushD else if kindN x.k = 4 then d else if kindN x.k = 5 then d.armD x.n else if kindN x.k = 6 then d.crashD x.bs else d.writeD x.at_ x.s.data.toList

def ActEnd (w : World) (F : Nat → Prop) (a : Nat) (d : DSt) (e : Ending) (w' : World) : Prop :=
  (∃ v, e = .returned v) ∧ Moves F w w' ∧ ∃ F', IsDisk w' F' a d ∧ ∀ k, F' k → F k ∨ w.heap.size ≤ k

def eCells : Array Value := #[.slice none 0 0, .slice none 0 0, .slice none 0 0, .int .i64 0, .bool false]
def xCells (x : ActV) : Array Value := #[.int .i64 x.k, .int .i64 x.at_, .int .i64 x.n, .string x.s, .slice x.A x.len x.cap]

/-- The three blocks that act makes. -/
def Three (H : Nat) (x : ActV) (w : World) : Prop :=
  w.heap[H]? = some (.cells eCells 35 (0, 0)) ∧ w.heap[H + 1]? = some (.cells (xCells x) 39 (0, 0)) ∧ w.heap[H + 1 + 1]? = some (.cells eCells 35 (0, 0)) ∧ H + 3 ≤ w.heap.size

theorem Three.below {H : Nat} {x : ActV} {w w' : World} (h : Three H x w) (hb : Below w.heap.size w w') : Three H x w' := by
  obtain ⟨h0, h1, h2, h3⟩ := h
  have := hb.size
  exact ⟨(hb.block H (by omega)).trans h0, (hb.block (H + 1) (by omega)).trans h1, (hb.block (H + 1 + 1) (by omega)).trans h2, by omega⟩
theorem Three.moves {H : Nat} {x : ActV} {w w' : World} {F : Nat → Prop} (h : Three H x w) (hm : Moves F w w') (hF : ∀ q, F q → q < H) : Three H x w' := by
  obtain ⟨h0, h1, h2, h3⟩ := h
  have := hm.size
  have hn : ∀ q, H ≤ q → ¬ F q := fun q hq hf => by have := hF q hf; omega
  exact ⟨(hm.block H (by omega) (hn _ (by omega))).trans h0, (hm.block (H + 1) (by omega) (hn _ (by omega))).trans h1, (hm.block (H + 1 + 1) (by omega) (hn _ (by omega))).trans h2, by omega⟩

/-- A fourth block, beside them. -/
def Fourth (H B : Nat) (x : ActV) (w : World) : Prop := Three H x w ∧ w.heap[B]? = some (.cells eCells 35 (0, 0)) ∧ H + 3 ≤ B ∧ B < w.heap.size
theorem Fourth.moves {H B : Nat} {x : ActV} {w w' : World} {F : Nat → Prop} (h : Fourth H B x w) (hm : Moves F w w') (hF : ∀ q, F q → q < H) : Fourth H B x w' :=
  ⟨h.1.moves hm hF, (hm.block B h.2.2.2 (fun hf => by have := hF B hf; have := h.2.2.1; omega)).trans h.2.1, h.2.2.1, Nat.lt_of_lt_of_le h.2.2.2 hm.size⟩
theorem Fourth.cells {H B : Nat} {x : ActV} {w : World} (h : Fourth H B x w) : w.cell? ⟨B, 0, none⟩ = some (.slice none 0 0) ∧ w.cell? ⟨B, 1, none⟩ = some (.slice none 0 0) ∧ w.cell? ⟨B, 2, none⟩ = some (.slice none 0 0) ∧ w.cell? ⟨B, 3, none⟩ = some (.int .i64 0) ∧ w.cell? ⟨B, 4, none⟩ = some (.bool false) := by
  refine ⟨?_, ?_, ?_, ?_, ?_⟩ <;> rw [Lib.cell_of_heap h.2.1] <;> rfl

theorem Three.cells {H : Nat} {x : ActV} {w : World} (h : Three H x w) :
    (w.cell? ⟨H, 0, none⟩ = some (.slice none 0 0) ∧ w.cell? ⟨H, 1, none⟩ = some (.slice none 0 0) ∧ w.cell? ⟨H, 2, none⟩ = some (.slice none 0 0) ∧ w.cell? ⟨H, 3, none⟩ = some (.int .i64 0) ∧ w.cell? ⟨H, 4, none⟩ = some (.bool false)) ∧
    (w.cell? ⟨H + 1, 0, none⟩ = some (.int .i64 x.k) ∧ w.cell? ⟨H + 1, 1, none⟩ = some (.int .i64 x.at_) ∧ w.cell? ⟨H + 1, 2, none⟩ = some (.int .i64 x.n) ∧ w.cell? ⟨H + 1, 3, none⟩ = some (.string x.s) ∧ w.cell? ⟨H + 1, 4, none⟩ = some (.slice x.A x.len x.cap)) ∧
    (w.cell? ⟨H + 1 + 1, 0, none⟩ = some (.slice none 0 0) ∧ w.cell? ⟨H + 1 + 1, 1, none⟩ = some (.slice none 0 0) ∧ w.cell? ⟨H + 1 + 1, 2, none⟩ = some (.slice none 0 0) ∧ w.cell? ⟨H + 1 + 1, 3, none⟩ = some (.int .i64 0) ∧ w.cell? ⟨H + 1 + 1, 4, none⟩ = some (.bool false)) ∧
    (∀ j, w.frozen? ⟨H + 1 + 1, j, none⟩ = false) := by
  obtain ⟨h0, h1, h2, _⟩ := h
  refine ⟨⟨?_, ?_, ?_, ?_, ?_⟩, ⟨?_, ?_, ?_, ?_, ?_⟩, ⟨?_, ?_, ?_, ?_, ?_⟩, fun j => Lib.frozen_of_heap h2 j⟩ <;> first | (rw [Lib.cell_of_heap h0]; rfl) | (rw [Lib.cell_of_heap h1]; rfl) | (rw [Lib.cell_of_heap h2]; rfl)

theorem Moves.setNew {F : Nat → Prop} {a w : World} (h : Moves F a w) {p : Addr} (hp : a.heap.size ≤ p.block) (u : Value) : Moves F a (w.setCell p u) :=
  ⟨h.os, h.tape, h.output, by simp [World.setCell]; exact h.size, fun k hk hn => by rw [Below.heap_setCell _ _ _ _ (by omega)]; exact h.block k hk hn⟩
theorem IsDisk.setNew {F : Nat → Prop} {w : World} {a : Nat} {d : DSt} (h : IsDisk w F a d) {p : Addr} (hp : ¬ F p.block) (u : Value) : IsDisk (w.setCell p u) F a d :=
  h.kept (G := fun q => q = p.block) ((Moves.refl (fun q => q = p.block) w).setCell (p := p) rfl u) (fun q hq hf => hp (by subst hq; exact hf))

/-- Behind act's last stores. -/
theorem act_end {w w5 : World} {F F' : Nat → Prop} {a H : Nat} {d : DSt} (hm : Moves F w w5) (hd : IsDisk w5 F' a d) (hF : ∀ k, F' k → F k ∨ w.heap.size ≤ k) (hH : w.heap.size ≤ H) (hn : ¬ F' H) (u0 u1 u2 u3 u4 v : Value) :
    ActEnd w F a d (.returned v) (((((w5.setCell ⟨H, 0, none⟩ u0).setCell ⟨H, 1, none⟩ u1).setCell ⟨H, 2, none⟩ u2).setCell ⟨H, 3, none⟩ u3).setCell ⟨H, 4, none⟩ u4) :=
  ⟨⟨_, rfl⟩, ((((hm.setNew hH _).setNew hH _).setNew hH _).setNew hH _).setNew hH _, F', ((((hd.setNew hn _).setNew hn _).setNew hn _).setNew hn _).setNew hn _, hF⟩

set_option maxHeartbeats 4000000 in
set_option maxRecDepth 100000 in
theorem act_none {w W : World} {F : Nat → Prop} {a : Nat} {d : DSt} (h : IsDisk w F a d) (x : ActV) (hx : ActOk W x) (hb : Below W.heap.size W w) (hF : ∀ k, F k → W.heap.size ≤ k) (hL : d.loose.length ≤ 1000000) :
    Calls Try.prog 18 #[.pointer (some ⟨a, 0, none⟩), .agg #[.slice none 0 0, .slice none 0 0, .slice none 0 0, .int .i64 0, .bool false], .agg #[.int .i64 x.k, .int .i64 x.at_, .int .i64 x.n, .string x.s, .slice x.A x.len x.cap]] w (ActEnd w F a (actD d x)) := by
  have HD := Lib.hid h
  have HX := Lib.hid hx
  have HB := Lib.hid hb
  have HF := Lib.hid hF
  have HLow := Lib.hid h.low
  have hs1 : x.s.size ≤ 9223372036854775807 := hx.s1
  have hpl : x.len ≤ 9223372036854775807 := hx.len2
  clear h hx hb hF
  go_enter Try.func18, Try.ntmps18
  go_wp2_with fail
  refine (kind_any _ _ _ _ _ _).mono ?_
  rintro e w4 ⟨rfl, hb4⟩
  have hbx : Below w.heap.size w w4 := ((((Below.refl _ _).alloc (Nat.le_refl _) _).alloc (by simp) _).alloc (by simp; omega) _).trans (hb4.mono (by simp; omega))
  have HT : Hid (Three w.heap.size x w4) := by
    have h3 := heap_three w (.cells eCells 35) (.cells (xCells x) 39) (.cells eCells 35)
    have hz := hb4.size
    have hs : (((w.alloc (.cells eCells 35)).alloc (.cells (xCells x) 39)).alloc (.cells eCells 35)).heap.size = w.heap.size + 3 := h3.2.2.2
    refine Lib.hid ⟨(hb4.block _ (by show _ < (((w.alloc (.cells eCells 35)).alloc (.cells (xCells x) 39)).alloc (.cells eCells 35)).heap.size; omega)).trans h3.1, (hb4.block _ (by show _ < (((w.alloc (.cells eCells 35)).alloc (.cells (xCells x) 39)).alloc (.cells eCells 35)).heap.size; omega)).trans h3.2.1, (hb4.block _ (by show _ < (((w.alloc (.cells eCells 35)).alloc (.cells (xCells x) 39)).alloc (.cells eCells 35)).heap.size; omega)).trans h3.2.2.1, by have : _ ≤ _ := hz; simp at this; omega⟩
  have HD4 : Hid (IsDisk w4 F a d) := Lib.hid (HD.out.below hbx)
  have HM4 : Hid (Moves F w w4) := Lib.hid (Moves.of_below hbx)
  have HB4 : Hid (Below W.heap.size W w4) := Lib.hid (HB.out.trans (hbx.mono HB.out.size))
  have hact : ∃ q, q < 7 ∧ kindN x.k = q := ⟨_, kindN_lt _, rfl⟩
  clear hb4 hbx
  obtain ⟨q, hq7, hq⟩ := hact
  have HQ := Lib.hid hq
  rw [hq]
  clear hq
  have hH : ∃ H, w.heap.size = H := ⟨_, rfl⟩
  rcases (show q = 4 ∨ q = 5 ∨ q = 6 ∨ q = 3 ∨ q = 0 ∨ q = 1 ∨ q = 2 by omega) with rfl | rfl | rfl | rfl | rfl | rfl | rfl
  · obtain ⟨⟨c0, c1, c2, c3, c4⟩, ⟨d0, d1, d2, d3, d4⟩, ⟨e0, e1, e2, e3, e4⟩, hf⟩ := HT.out.cells
    have hAD : actD d x = d := by unfold actD; rw [HQ.out]; rfl
    have HAD := Lib.hid hAD
    clear hAD
    go_wp2_with fail
    refine (Read_any HD4.out x.at_).mono ?_
    rintro e w' ⟨rfl, rfl⟩
    go_wp2_with fail
    refine (RefRead_none _ _).mono ?_
    rintro e w5 ⟨rfl, hb5⟩
    have ht5 := HT.out.below hb5
    have HD5 : Hid (IsDisk w5 F a d) := Lib.hid (HD4.out.below hb5)
    have HM5 : Hid (Moves F w w5) := Lib.hid (HM4.out.trans (G := fun _ => False) (Moves.of_below hb5) (fun _ h => h.elim))
    clear c0 c1 c2 c3 c4 d0 d1 d2 d3 d4 e0 e1 e2 e3 e4 hf hb5
    obtain ⟨⟨c0, c1, c2, c3, c4⟩, ⟨d0, d1, d2, d3, d4⟩, ⟨e0, e1, e2, e3, e4⟩, hf⟩ := ht5.cells
    clear ht5 HT HD4 HM4 HB4 HQ
    have HNH : Hid (¬ F (w.heap.size + 1 + 1)) := Lib.hid (fun hf => by have := HLow.out _ hf; omega)
    go_wp2_with fail
    · exact bodyPost_ret (v := .tuple #[.agg #[.slice none 0 0, .slice none 0 0, .slice none 0 0, .int .i64 0, .bool false], .bool (d.readE x.at_ == 7)]) (by simp [results, Try.results18, go_sem, e0, e1, e2, e3, e4]) rfl (by rw [HAD.out]; exact act_end HM5.out HD5.out (fun _ h => Or.inl h) (by omega) HNH.out _ _ _ _ _ _)
    · exact bodyPost_ret (v := .tuple #[.agg #[.slice none 0 0, .slice none 0 0, .slice none 0 0, .int .i64 0, .bool false], .bool false]) (by simp [results, Try.results18, go_sem, e0, e1, e2, e3, e4]) rfl (by rw [HAD.out]; exact act_end HM5.out HD5.out (fun _ h => Or.inl h) (by omega) HNH.out _ _ _ _ _ _)
  · obtain ⟨⟨c0, c1, c2, c3, c4⟩, ⟨d0, d1, d2, d3, d4⟩, ⟨e0, e1, e2, e3, e4⟩, hf⟩ := HT.out.cells
    have HAD : Hid (actD d x = d.armD x.n) := Lib.hid (by unfold actD; rw [HQ.out]; rfl)
    go_wp2_with fail
    refine (Arm_any HD4.out x.n HX.out.n1 HX.out.n2).mono ?_
    rintro e w6 h6
    have ht6 := HT.out.moves h6.2.1 HLow.out
    obtain ⟨rfl, hm6, F6, hd6, hF6⟩ := h6
    have HT6 := Lib.hid ht6
    have HD6 := Lib.hid hd6
    have HM6 : Hid (Moves F w w6) := Lib.hid (HM4.out.trans hm6 (fun _ h => Or.inl h))
    have HF6 : Hid (∀ q, F6 q → F q ∨ w.heap.size ≤ q) := Lib.hid (fun q hq => (hF6 q hq).imp id (fun h => Nat.le_trans HM4.out.size h))
    have HNH : Hid (¬ F6 (w.heap.size + 1 + 1)) := Lib.hid (fun hf => by
      have h3 := HT.out.2.2.2
      rcases hF6 _ hf with h | h
      · have := HLow.out _ h; omega
      · omega)
    clear c0 c1 c2 c3 c4 d0 d1 d2 d3 d4 e0 e1 e2 e3 e4 hf ht6 hd6 hm6 hF6 HT HD4 HM4 HB4 HQ
    obtain ⟨⟨c0, c1, c2, c3, c4⟩, ⟨d0, d1, d2, d3, d4⟩, ⟨e0, e1, e2, e3, e4⟩, hf⟩ := HT6.out.cells
    go_wp2_with fail
    refine (RefArm_none _ _).mono ?_
    rintro e w5 ⟨rfl, hb5⟩
    have ht5 := HT6.out.below hb5
    have HD5 := Lib.hid (HD6.out.below hb5)
    have HM5 : Hid (Moves F w w5) := Lib.hid (HM6.out.trans (G := fun _ => False) (Moves.of_below hb5) (fun _ h => h.elim))
    clear c0 c1 c2 c3 c4 d0 d1 d2 d3 d4 e0 e1 e2 e3 e4 hf hb5 HT6 HD6 HM6
    obtain ⟨⟨c0, c1, c2, c3, c4⟩, ⟨d0, d1, d2, d3, d4⟩, ⟨e0, e1, e2, e3, e4⟩, hf⟩ := ht5.cells
    generalize (if x.n < 0 then -1 else x.n) = L
    clear ht5
    go_wp2_with fail
    exact bodyPost_ret (v := .tuple #[.agg #[.slice none 0 0, .slice none 0 0, .slice none 0 0, .int .i64 L, .bool false], .bool true]) (by simp [results, Try.results18, go_sem, e0, e1, e2, e3, e4]) rfl (by rw [HAD.out]; exact act_end HM5.out HD5.out HF6.out (by omega) HNH.out _ _ _ _ _ _)
  · obtain ⟨⟨c0, c1, c2, c3, c4⟩, ⟨d0, d1, d2, d3, d4⟩, ⟨e0, e1, e2, e3, e4⟩, hf⟩ := HT.out.cells
    have HAD : Hid (actD d x = d.crashD x.bs) := Lib.hid (by unfold actD; rw [HQ.out]; rfl)
    go_wp2_with fail
    refine (Crash_any HD4.out (by omega) (HX.out.keep.is HB4.out HF.out) HX.out.len hpl).mono ?_
    rintro e w6 h6
    have ht6 := HT.out.moves h6.2.1 HLow.out
    obtain ⟨rfl, hm6, F6, hd6, hF6⟩ := h6
    have HT6 := Lib.hid ht6
    have HD6 := Lib.hid hd6
    have HM6 : Hid (Moves F w w6) := Lib.hid (HM4.out.trans hm6 (fun _ h => Or.inl h))
    have HF6 : Hid (∀ q, F6 q → F q ∨ w.heap.size ≤ q) := Lib.hid (fun q hq => (hF6 q hq).imp id (fun h => Nat.le_trans HM4.out.size h))
    have HNH : Hid (¬ F6 (w.heap.size + 1 + 1)) := Lib.hid (fun hf => by
      have h3 := HT.out.2.2.2
      rcases hF6 _ hf with h | h
      · have := HLow.out _ h; omega
      · omega)
    clear c0 c1 c2 c3 c4 d0 d1 d2 d3 d4 e0 e1 e2 e3 e4 hf ht6 hd6 hm6 hF6 HT HD4 HM4 HB4 HQ
    obtain ⟨⟨c0, c1, c2, c3, c4⟩, ⟨d0, d1, d2, d3, d4⟩, ⟨e0, e1, e2, e3, e4⟩, hf⟩ := HT6.out.cells
    go_wp2_with fail
    refine (RefCrash_none _ _ _ _).mono ?_
    rintro e w5 ⟨rfl, hb5⟩
    have ht5 := HT6.out.below hb5
    have HD5 := Lib.hid (HD6.out.below hb5)
    have HM5 : Hid (Moves F w w5) := Lib.hid (HM6.out.trans (G := fun _ => False) (Moves.of_below hb5) (fun _ h => h.elim))
    clear c0 c1 c2 c3 c4 d0 d1 d2 d3 d4 e0 e1 e2 e3 e4 hf hb5 HT6 HD6 HM6
    obtain ⟨⟨c0, c1, c2, c3, c4⟩, ⟨d0, d1, d2, d3, d4⟩, ⟨e0, e1, e2, e3, e4⟩, hf⟩ := ht5.cells
    clear ht5
    go_wp2_with fail
    exact bodyPost_ret (v := .tuple #[.agg #[.slice none 0 0, .slice none 0 0, .slice none 0 0, .int .i64 (-1), .bool false], .bool true]) (by simp [results, Try.results18, go_sem, e0, e1, e2, e3, e4]) rfl (by rw [HAD.out]; exact act_end HM5.out HD5.out HF6.out (by omega) HNH.out _ _ _ _ _ _)
  · obtain ⟨⟨c0, c1, c2, c3, c4⟩, ⟨d0, d1, d2, d3, d4⟩, ⟨e0, e1, e2, e3, e4⟩, hf⟩ := HT.out.cells
    have HAD : Hid (actD d x = d.flushD) := Lib.hid (by unfold actD; rw [HQ.out]; rfl)
    go_wp2_with fail
    refine (RefFlush_none _).mono ?_
    rintro e w5 ⟨rfl, hb5⟩
    have ht5 := HT.out.below hb5
    have HD5 := Lib.hid (HD4.out.below hb5)
    have HM5 : Hid (Moves F w w5) := Lib.hid (HM4.out.trans (G := fun _ => False) (Moves.of_below hb5) (fun _ h => h.elim))
    have HT5 := Lib.hid ht5
    clear c0 c1 c2 c3 c4 d0 d1 d2 d3 d4 e0 e1 e2 e3 e4 hf hb5 HT HD4 HM4 HQ ht5
    go_wp2_with fail
    have HV : Hid (Fourth w.heap.size w5.heap.size x (w5.alloc (.cells #[.slice none 0 0, .slice none 0 0, .slice none 0 0, .int .i64 0, .bool false] 35))) := Lib.hid ⟨HT5.out.below ((Below.refl _ _).alloc (Nat.le_refl _) _), heap_alloc_new _ _, HT5.out.2.2.2, by simp⟩
    have HDV : Hid (IsDisk (w5.alloc (.cells #[.slice none 0 0, .slice none 0 0, .slice none 0 0, .int .i64 0, .bool false] 35)).drew F a d) := Lib.hid (HD5.out.below ((Below.refl _ _).alloc (Nat.le_refl _) _).drew)
    have HMV : Hid (Moves F w (w5.alloc (.cells #[.slice none 0 0, .slice none 0 0, .slice none 0 0, .int .i64 0, .bool false] 35)).drew) := Lib.hid (HM5.out.alloc _).drew
    generalize w5.alloc (.cells #[.slice none 0 0, .slice none 0 0, .slice none 0 0, .int .i64 0, .bool false] 35) = V at *
    generalize w5.heap.size = B at *
    clear HT5 HD5 HM5
    obtain ⟨b0, b1, b2, b3, b4⟩ := HV.out.cells
    go_region_with (first | (go_at_call 11; refine (Flush_any HDV.out (by omega)).mono ?_; rintro e w7 h7; have hv7 : Fourth w.heap.size B x w7 := (Fourth.moves (w := V.drew) HV.out h7.2.1 HLow.out); obtain ⟨rfl, hm7, F7, hd7, hF7⟩ := h7; obtain ⟨g0, g1, g2, g3, g4⟩ := hv7.cells; obtain ⟨_, _, ⟨e0, e1, e2, e3, e4⟩, hf⟩ := hv7.1.cells))
    all_goals
      have HM7 : Hid (Moves F w w7) := Lib.hid (HMV.out.trans hm7 (fun _ h => Or.inl h))
      have HD7 := Lib.hid hd7
      have HF7 : Hid (∀ q, F7 q → F q ∨ w.heap.size ≤ q) := Lib.hid (fun q hq => (hF7 q hq).imp id (fun h => Nat.le_trans HMV.out.size h))
      have HNH : Hid (¬ F7 (w.heap.size + 1 + 1)) := Lib.hid (fun hff => by
        have h3 : w.heap.size + 3 ≤ B := HV.out.2.2.1
        have h4 : B < V.drew.heap.size := HV.out.2.2.2
        rcases hF7 _ hff with h | h
        · have := HLow.out _ h; omega
        · omega)
      clear hm7 hd7 hF7 hv7
      go_wp2_with fail
      exact bodyPost_ret (v := .tuple #[.agg #[.slice none 0 0, .slice none 0 0, .slice none 0 0, .int .i64 0, .bool false], .bool (d.flushE == 7)]) (by simp [results, Try.results18, go_sem, e0, e1, e2, e3, e4]) rfl (by rw [HAD.out]; exact act_end HM7.out HD7.out HF7.out (by omega) HNH.out _ _ _ _ _ _)
  · obtain ⟨⟨c0, c1, c2, c3, c4⟩, ⟨d0, d1, d2, d3, d4⟩, ⟨e0, e1, e2, e3, e4⟩, hf⟩ := HT.out.cells
    have HAD : Hid (actD d x = d.writeD x.at_ x.s.data.toList) := Lib.hid (by unfold actD; rw [HQ.out]; rfl)
    go_wp2_with fail
    refine (RefWrite_none _ _ _).mono ?_
    rintro e w5 ⟨rfl, hb5⟩
    have ht5 := HT.out.below hb5
    have HD5 := Lib.hid (HD4.out.below hb5)
    have HM5 : Hid (Moves F w w5) := Lib.hid (HM4.out.trans (G := fun _ => False) (Moves.of_below hb5) (fun _ h => h.elim))
    have HT5 := Lib.hid ht5
    clear c0 c1 c2 c3 c4 d0 d1 d2 d3 d4 e0 e1 e2 e3 e4 hf hb5 HT HD4 HM4 HQ ht5
    go_wp2_with fail
    have HV : Hid (Fourth w.heap.size w5.heap.size x (w5.alloc (.cells #[.slice none 0 0, .slice none 0 0, .slice none 0 0, .int .i64 0, .bool false] 35))) := Lib.hid ⟨HT5.out.below ((Below.refl _ _).alloc (Nat.le_refl _) _), heap_alloc_new _ _, HT5.out.2.2.2, by simp⟩
    have HDV : Hid (IsDisk (w5.alloc (.cells #[.slice none 0 0, .slice none 0 0, .slice none 0 0, .int .i64 0, .bool false] 35)).drew F a d) := Lib.hid (HD5.out.below ((Below.refl _ _).alloc (Nat.le_refl _) _).drew)
    have HMV : Hid (Moves F w (w5.alloc (.cells #[.slice none 0 0, .slice none 0 0, .slice none 0 0, .int .i64 0, .bool false] 35)).drew) := Lib.hid (HM5.out.alloc _).drew
    generalize w5.alloc (.cells #[.slice none 0 0, .slice none 0 0, .slice none 0 0, .int .i64 0, .bool false] 35) = V at *
    generalize w5.heap.size = B at *
    clear HT5 HD5 HM5
    obtain ⟨b0, b1, b2, b3, b4⟩ := HV.out.cells
    obtain ⟨_, ⟨_, y1, _, y3, _⟩, _⟩ := HV.out.1.cells
    go_region_with (first | (go_at_call 10; refine (Write_any HDV.out x.at_ x.s hs1 hL).mono ?_; rintro e w7 h7; have hv7 : Fourth w.heap.size B x w7 := (Fourth.moves (w := V.drew) HV.out h7.2.1 HLow.out); obtain ⟨rfl, hm7, F7, hd7, hF7⟩ := h7; obtain ⟨g0, g1, g2, g3, g4⟩ := hv7.cells; obtain ⟨_, ⟨_, z1, _, z3, _⟩, ⟨e0, e1, e2, e3, e4⟩, hf⟩ := hv7.1.cells))
    all_goals
      have HM7 : Hid (Moves F w w7) := Lib.hid (HMV.out.trans hm7 (fun _ h => Or.inl h))
      have HD7 := Lib.hid hd7
      have HF7 : Hid (∀ q, F7 q → F q ∨ w.heap.size ≤ q) := Lib.hid (fun q hq => (hF7 q hq).imp id (fun h => Nat.le_trans HMV.out.size h))
      have HNH : Hid (¬ F7 (w.heap.size + 1 + 1)) := Lib.hid (fun hff => by
        have h3 : w.heap.size + 3 ≤ B := HV.out.2.2.1
        have h4 : B < V.drew.heap.size := HV.out.2.2.2
        rcases hF7 _ hff with h | h
        · have := HLow.out _ h; omega
        · omega)
      clear hm7 hd7 hF7 hv7
      go_wp2_with fail
      exact bodyPost_ret (v := .tuple #[.agg #[.slice none 0 0, .slice none 0 0, .slice none 0 0, .int .i64 0, .bool false], .bool (d.writeE x.at_ x.s.data.toList == 7)]) (by simp [results, Try.results18, go_sem, e0, e1, e2, e3, e4]) rfl (by rw [HAD.out]; exact act_end HM7.out HD7.out HF7.out (by omega) HNH.out _ _ _ _ _ _)
  · obtain ⟨⟨c0, c1, c2, c3, c4⟩, ⟨d0, d1, d2, d3, d4⟩, ⟨e0, e1, e2, e3, e4⟩, hf⟩ := HT.out.cells
    have HAD : Hid (actD d x = d.writeD x.at_ x.s.data.toList) := Lib.hid (by unfold actD; rw [HQ.out]; rfl)
    go_wp2_with fail
    refine (RefWrite_none _ _ _).mono ?_
    rintro e w5 ⟨rfl, hb5⟩
    have ht5 := HT.out.below hb5
    have HD5 := Lib.hid (HD4.out.below hb5)
    have HM5 : Hid (Moves F w w5) := Lib.hid (HM4.out.trans (G := fun _ => False) (Moves.of_below hb5) (fun _ h => h.elim))
    have HT5 := Lib.hid ht5
    clear c0 c1 c2 c3 c4 d0 d1 d2 d3 d4 e0 e1 e2 e3 e4 hf hb5 HT HD4 HM4 HQ ht5
    go_wp2_with fail
    have HV : Hid (Fourth w.heap.size w5.heap.size x (w5.alloc (.cells #[.slice none 0 0, .slice none 0 0, .slice none 0 0, .int .i64 0, .bool false] 35))) := Lib.hid ⟨HT5.out.below ((Below.refl _ _).alloc (Nat.le_refl _) _), heap_alloc_new _ _, HT5.out.2.2.2, by simp⟩
    have HDV : Hid (IsDisk (w5.alloc (.cells #[.slice none 0 0, .slice none 0 0, .slice none 0 0, .int .i64 0, .bool false] 35)).drew F a d) := Lib.hid (HD5.out.below ((Below.refl _ _).alloc (Nat.le_refl _) _).drew)
    have HMV : Hid (Moves F w (w5.alloc (.cells #[.slice none 0 0, .slice none 0 0, .slice none 0 0, .int .i64 0, .bool false] 35)).drew) := Lib.hid (HM5.out.alloc _).drew
    generalize w5.alloc (.cells #[.slice none 0 0, .slice none 0 0, .slice none 0 0, .int .i64 0, .bool false] 35) = V at *
    generalize w5.heap.size = B at *
    clear HT5 HD5 HM5
    obtain ⟨b0, b1, b2, b3, b4⟩ := HV.out.cells
    obtain ⟨_, ⟨_, y1, _, y3, _⟩, _⟩ := HV.out.1.cells
    go_region_with (first | (go_at_call 10; refine (Write_any HDV.out x.at_ x.s hs1 hL).mono ?_; rintro e w7 h7; have hv7 : Fourth w.heap.size B x w7 := (Fourth.moves (w := V.drew) HV.out h7.2.1 HLow.out); obtain ⟨rfl, hm7, F7, hd7, hF7⟩ := h7; obtain ⟨g0, g1, g2, g3, g4⟩ := hv7.cells; obtain ⟨_, ⟨_, z1, _, z3, _⟩, ⟨e0, e1, e2, e3, e4⟩, hf⟩ := hv7.1.cells))
    all_goals
      have HM7 : Hid (Moves F w w7) := Lib.hid (HMV.out.trans hm7 (fun _ h => Or.inl h))
      have HD7 := Lib.hid hd7
      have HF7 : Hid (∀ q, F7 q → F q ∨ w.heap.size ≤ q) := Lib.hid (fun q hq => (hF7 q hq).imp id (fun h => Nat.le_trans HMV.out.size h))
      have HNH : Hid (¬ F7 (w.heap.size + 1 + 1)) := Lib.hid (fun hff => by
        have h3 : w.heap.size + 3 ≤ B := HV.out.2.2.1
        have h4 : B < V.drew.heap.size := HV.out.2.2.2
        rcases hF7 _ hff with h | h
        · have := HLow.out _ h; omega
        · omega)
      clear hm7 hd7 hF7 hv7
      go_wp2_with fail
      exact bodyPost_ret (v := .tuple #[.agg #[.slice none 0 0, .slice none 0 0, .slice none 0 0, .int .i64 0, .bool false], .bool (d.writeE x.at_ x.s.data.toList == 7)]) (by simp [results, Try.results18, go_sem, e0, e1, e2, e3, e4]) rfl (by rw [HAD.out]; exact act_end HM7.out HD7.out HF7.out (by omega) HNH.out _ _ _ _ _ _)
  · obtain ⟨⟨c0, c1, c2, c3, c4⟩, ⟨d0, d1, d2, d3, d4⟩, ⟨e0, e1, e2, e3, e4⟩, hf⟩ := HT.out.cells
    have HAD : Hid (actD d x = d.writeD x.at_ x.s.data.toList) := Lib.hid (by unfold actD; rw [HQ.out]; rfl)
    go_wp2_with fail
    refine (RefWrite_none _ _ _).mono ?_
    rintro e w5 ⟨rfl, hb5⟩
    have ht5 := HT.out.below hb5
    have HD5 := Lib.hid (HD4.out.below hb5)
    have HM5 : Hid (Moves F w w5) := Lib.hid (HM4.out.trans (G := fun _ => False) (Moves.of_below hb5) (fun _ h => h.elim))
    have HT5 := Lib.hid ht5
    clear c0 c1 c2 c3 c4 d0 d1 d2 d3 d4 e0 e1 e2 e3 e4 hf hb5 HT HD4 HM4 HQ ht5
    go_wp2_with fail
    have HV : Hid (Fourth w.heap.size w5.heap.size x (w5.alloc (.cells #[.slice none 0 0, .slice none 0 0, .slice none 0 0, .int .i64 0, .bool false] 35))) := Lib.hid ⟨HT5.out.below ((Below.refl _ _).alloc (Nat.le_refl _) _), heap_alloc_new _ _, HT5.out.2.2.2, by simp⟩
    have HDV : Hid (IsDisk (w5.alloc (.cells #[.slice none 0 0, .slice none 0 0, .slice none 0 0, .int .i64 0, .bool false] 35)).drew F a d) := Lib.hid (HD5.out.below ((Below.refl _ _).alloc (Nat.le_refl _) _).drew)
    have HMV : Hid (Moves F w (w5.alloc (.cells #[.slice none 0 0, .slice none 0 0, .slice none 0 0, .int .i64 0, .bool false] 35)).drew) := Lib.hid (HM5.out.alloc _).drew
    generalize w5.alloc (.cells #[.slice none 0 0, .slice none 0 0, .slice none 0 0, .int .i64 0, .bool false] 35) = V at *
    generalize w5.heap.size = B at *
    clear HT5 HD5 HM5
    obtain ⟨b0, b1, b2, b3, b4⟩ := HV.out.cells
    obtain ⟨_, ⟨_, y1, _, y3, _⟩, _⟩ := HV.out.1.cells
    go_region_with (first | (go_at_call 10; refine (Write_any HDV.out x.at_ x.s hs1 hL).mono ?_; rintro e w7 h7; have hv7 : Fourth w.heap.size B x w7 := (Fourth.moves (w := V.drew) HV.out h7.2.1 HLow.out); obtain ⟨rfl, hm7, F7, hd7, hF7⟩ := h7; obtain ⟨g0, g1, g2, g3, g4⟩ := hv7.cells; obtain ⟨_, ⟨_, z1, _, z3, _⟩, ⟨e0, e1, e2, e3, e4⟩, hf⟩ := hv7.1.cells))
    all_goals
      have HM7 : Hid (Moves F w w7) := Lib.hid (HMV.out.trans hm7 (fun _ h => Or.inl h))
      have HD7 := Lib.hid hd7
      have HF7 : Hid (∀ q, F7 q → F q ∨ w.heap.size ≤ q) := Lib.hid (fun q hq => (hF7 q hq).imp id (fun h => Nat.le_trans HMV.out.size h))
      have HNH : Hid (¬ F7 (w.heap.size + 1 + 1)) := Lib.hid (fun hff => by
        have h3 : w.heap.size + 3 ≤ B := HV.out.2.2.1
        have h4 : B < V.drew.heap.size := HV.out.2.2.2
        rcases hF7 _ hff with h | h
        · have := HLow.out _ h; omega
        · omega)
      clear hm7 hd7 hF7 hv7
      go_wp2_with fail
      exact bodyPost_ret (v := .tuple #[.agg #[.slice none 0 0, .slice none 0 0, .slice none 0 0, .int .i64 0, .bool false], .bool (d.writeE x.at_ x.s.data.toList == 7)]) (by simp [results, Try.results18, go_sem, e0, e1, e2, e3, e4]) rfl (by rw [HAD.out]; exact act_end HM7.out HD7.out HF7.out (by omega) HNH.out _ _ _ _ _ _)
end Go.Proofs.Ytnliaiedgaiohaa
