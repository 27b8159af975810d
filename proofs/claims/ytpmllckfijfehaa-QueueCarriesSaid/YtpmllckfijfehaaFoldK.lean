/- Folded writes: contracts of slices.Grow, slices.Concat, Merge and the document's Join. -/
import Derived.Test.YtpmllckfijfehaaFoldJ
import Derived.Shelf.Spec.SlicesGrow
namespace Go.Proofs.Ytpmllckfijfehaa
open Go.Shelf Go.RowKit Go.Lib Go.Sort

def Try.ren8 : Go.Shelf.Ren := ⟨fun | 4 => 63 | n => n, fun | 0 => 0 | 3 => 3 | 4 => 4 | 9 => 9 | 20 => 20 | 22 => 23 | 25 => 61 | n => n, fun | n => n⟩
theorem Try.lays8 : Lays8.n4 Try.prog Try.ren8 where
  mixed := by kernel_rfl
  f4 := ⟨Try.f63.name, by kernel_rfl, Try.func63.trans (congrArg some (by kernel_rfl))⟩
  t0 := Try.underlying0
  a0 := Try.isAgg0
  z0 := Try.sizeOf0
  v0 := Try.zeroValue0
  t3 := Try.underlying3
  a3 := Try.isAgg3
  z3 := Try.sizeOf3
  v3 := Try.zeroValue3
  t4 := Try.underlying4
  a4 := Try.isAgg4
  z4 := Try.sizeOf4
  v4 := Try.zeroValue4
  t9 := Try.underlying9
  a9 := Try.isAgg9
  z9 := Try.sizeOf9
  v9 := Try.zeroValue9
  t20 := Try.underlying20
  a20 := Try.isAgg20
  z20 := Try.sizeOf20
  v20 := Try.zeroValue20
  t22 := Try.underlying23
  a22 := Try.isAgg23
  z22 := Try.sizeOf23
  v22 := Try.zeroValue23

/-- slices.Grow of a nil slice: a row of the call's own, empty. -/
theorem Grow_nil (w : World) (n : Nat) (hn : n ≤ 4000) : Calls Try.prog 63 #[.slice none 0 0, .int .i64 n] w (OwnEnd 61 3 0 [] w) := by
  by_cases h0 : n = 0
  · subst h0
    refine (Any8.slices_Grow_room Try.lays8 none 0 0 0 w (Nat.le_refl _) (by omega) (by omega) (Nat.le_refl _)).mono ?_
    rintro e w' ⟨rfl, rfl⟩
    exact ⟨_, rfl, World.ownsRow_nil _ _ _ _, Below.refl _ _⟩
  · obtain ⟨i0, hi0, hz0, hz1, hz2⟩ := info_parts Try.infoWr
    have := Any8.slices_Grow_grow Try.lays8 i0 (.agg #[.int .i64 0, .int .i64 0, .string ByteArray.empty]) hi0 hz0 (by rw [hz1]; omega) none 0 0 n [] w (Nat.le_refl _) (by omega) (by rw [hz2]; omega) (by omega) (by simp) (fun _ => rfl) (fun a h => by cases h)
    rw [show Try.ren8.t 25 = 61 from rfl] at this
    refine this.mono ?_
    rintro e w' ⟨rfl, rfl⟩
    have hge : n ≤ grownCap w (0 + n) 0 61 := by have := grownCap_ge w (0 + n) 0 61; omega
    have hle : grownCap w (0 + n) 0 61 ≤ maxLen := grownCap_le_maxLen w (0 + n) 0 61 (by unfold maxLen; omega)
    refine ⟨_, rfl, ⟨rfl, .inr ⟨w.heap.size, _, _, rfl, Nat.le_refl _, heap_alloc_new w.drew _, Nat.zero_le _, hle, ?_, by simp⟩⟩, ?_⟩
    · rw [Array.size_append, Array.size_append, size_zeroCells, size_zeroCells]
      show 0 + (0 + n - 0) * 3 + (grownCap w (0 + n) 0 61 - (0 + n)) * 3 = _
      omega
    · exact (Below.refl w.heap.size w).drew.alloc (Nat.le_refl _) _

set_option maxHeartbeats 4000000 in
set_option maxRecDepth 100000 in
theorem Concat_two {w : World} {g : Nat} {A1 A2 : Option Addr} {c1 c2 : Nat} {xs ys : List Wr} (h1 : WrsAt w w.heap.size A1 xs) (h2 : WrsAt w w.heap.size A2 ys) (hx : xs.length ≤ 400 ∧ (A1 = none → c1 = 0)) (hy : ys.length ≤ 400 ∧ (A2 = none → c2 = 0))
    (hg : g < w.heap.size) (hc0 : w.cell? ⟨g, 0, none⟩ = some (.slice A1 xs.length c1)) (hc1 : w.cell? ⟨g, 1, none⟩ = some (.slice A2 ys.length c2)) :
    Calls Try.prog 51 #[.slice (some ⟨g, 0, none⟩) 2 2] w (OwnEnd 61 3 (xs.length + ys.length) (wrCells (xs ++ ys)) w) := by
  have H1 := Lib.hid h1
  have H2 := Lib.hid h2
  have HX := Lib.hid hx.2
  have HY := Lib.hid hy.2
  have hxl := hx.1
  have hyl := hy.1
  obtain ⟨i0, hi0, hz0, hz1, hz2⟩ := info_parts Try.infoWr
  have HG : Hid (Calls Try.prog 63 #[.slice none 0 0, .int .i64 ((xs.length : Int) + (ys.length : Int))] w (OwnEnd 61 3 0 [] w)) := Lib.hid (by
    have := Grow_nil w (xs.length + ys.length) (by omega)
    rw [Int.natCast_add] at this
    exact this)
  have HC0 := Lib.hid hc0
  have HC1 := Lib.hid hc1
  clear h1 h2 hx hy
  have e1 : ¬ ((xs.length : Int) < 0) := by omega
  have e2 : ¬ ((xs.length : Int) + (ys.length : Int) < 0) := by omega
  go_enter Try.func51, Try.ntmps51
  go_wp2
  refine wp_loop_rounds 3 ?_
  rw [rounds_succ]
  go_wp2_with fail
  rw [rounds_succ]
  go_wp2_with fail
  rw [rounds_succ]
  go_wp2_with fail
  refine HG.out.mono ?_
  rintro e w2 ⟨v2, rfl, ho2, hb2⟩
  have HO2 := Lib.hid ho2
  have HB2 := Lib.hid hb2
  have y0 : w2.cell? ⟨g, 0, none⟩ = some (.slice A1 xs.length c1) := by rw [hb2.cell (p := ⟨g, 0, none⟩) hg]; exact HC0.out
  have hw2 : w.heap.size ≤ w2.heap.size := hb2.size
  clear ho2 hb2 hc0 hc1 HG
  go_wp2_with fail
  refine wp_loop_rounds 3 ?_
  rw [rounds_succ]
  go_wp2_with (at_builtin; refine wpList_append_rows rfl (.tmp 31) (.tmp 32) 23 rfl w.heap.size 61 i0 (.agg #[.int .i64 0, .int .i64 0, .string ByteArray.empty]) 3 32 Try.underlying23 hi0 hz0 hz1 hz2 rfl (by decide) v2 0 [] rfl HO2.out A1 xs.length c1 (wrCells xs) rfl (wrCells_length _) w2.heap.size (H1.out.next HB2.out).lies HX.out (wrCells_one _) ?c1 ?c2 hw2 ?_)
  case c1 => unfold maxLen; omega
  case c2 => omega
  intro v3 w3 ho3 hg3
  have HB3 : Hid (Below w.heap.size w w3) := Lib.hid (HB2.out.grown hg3 hw2 (fun q hq => (HO2.out.lt q hq).1))
  (try rw [List.nil_append, Nat.zero_add] at ho3)
  have HO3 := Lib.hid ho3
  have y1 : w3.cell? ⟨g, 1, none⟩ = some (.slice A2 ys.length c2) := by rw [HB3.out.cell (p := ⟨g, 1, none⟩) hg]; exact HC1.out
  have hw3 : w.heap.size ≤ w3.heap.size := HB3.out.size
  clear ho3 hg3 y0
  go_wp2_with fail
  rw [rounds_succ]
  go_wp2_with (at_builtin; refine wpList_append_rows rfl (.tmp 31) (.tmp 32) 23 rfl w.heap.size 61 i0 (.agg #[.int .i64 0, .int .i64 0, .string ByteArray.empty]) 3 32 Try.underlying23 hi0 hz0 hz1 hz2 rfl (by decide) v3 xs.length (wrCells xs) rfl HO3.out A2 ys.length c2 (wrCells ys) rfl (wrCells_length _) w3.heap.size (H2.out.next HB3.out).lies HY.out (wrCells_one _) ?c3 ?c4 hw3 ?_)
  case c3 => unfold maxLen; omega
  case c4 => omega
  intro v4 w4 ho4 hg4
  have HE : Hid (OwnEnd 61 3 (xs.length + ys.length) (wrCells (xs ++ ys)) w (.returned v4) w4) := Lib.hid ⟨v4, rfl, by rw [wrCells_append]; exact ho4, HB3.out.grown hg4 hw3 (fun q hq => (HO3.out.lt q hq).1)⟩
  clear ho4 hg4
  go_wp2_with fail
  rw [rounds_succ]
  go_wp2_with fail
  go_ret
  exact HE.out

set_option maxHeartbeats 4000000 in
set_option maxRecDepth 100000 in
theorem Merge_any {w : World} {A1 A2 : Option Addr} {c1 c2 : Nat} {xs ys : List Wr} (h1 : WrsAt w w.heap.size A1 xs) (h2 : WrsAt w w.heap.size A2 ys) (hx : xs.length ≤ 400 ∧ (A1 = none → c1 = 0)) (hy : ys.length ≤ 400 ∧ (A2 = none → c2 = 0)) :
    Calls Try.prog 34 #[.slice A1 xs.length c1, .slice A2 ys.length c2] w (WrsEnd (foldW (xs ++ ys)) w) := by
  have hB : Below w.heap.size w (w.alloc (.cells #[.slice A1 xs.length c1, .slice A2 ys.length c2] 23)) := (Below.refl _ _).alloc (Nat.le_refl _) _
  have HC := Lib.hid (Concat_two (g := w.heap.size) (c1 := c1) (c2 := c2) (h1.next hB) (h2.next hB) hx hy (by simp) (by rw [Lib.cell_of_heap (heap_alloc_new _ _)]; rfl) (by rw [Lib.cell_of_heap (heap_alloc_new _ _)]; rfl))
  have HF : Hid (∀ A c w1, WrsAt w1 w1.heap.size A (xs ++ ys) → Calls Try.prog 43 #[.slice A (xs.length + ys.length) c] w1 (WrsEnd (foldW (xs ++ ys)) w1)) := Lib.hid (fun A c w1 h => by
    have := Fold_any (c := c) h (by rw [List.length_append]; omega)
    rw [List.length_append] at this
    exact this)
  obtain ⟨F, hF⟩ : ∃ F, foldW (xs ++ ys) = F := ⟨_, rfl⟩
  rw [hF] at HF ⊢
  have HB := Lib.hid hB
  clear h1 h2 hx hy hF hB
  go_enter Try.func34, Try.ntmps34
  go_wp2_with fail
  refine HC.out.mono ?_
  rintro e w2 ⟨v2, rfl, ho2, hb2⟩
  obtain ⟨A3, c3, hv3, _, hl3⟩ := own_lies ho2
  have HL3 := Lib.hid (WrsAt.of_lies hl3)
  have HB2 : Hid (Below w.heap.size w w2) := Lib.hid (HB.out.trans (hb2.mono HB.out.size))
  clear ho2 hb2 hl3
  subst hv3
  go_wp2_with fail
  refine (HF.out _ _ _ HL3.out).mono ?_
  rintro e w3 ⟨A4, c4, rfl, hA4, hn4, hb4⟩
  have HE : Hid (WrsEnd F w (.returned (.slice A4 F.length c4)) w3) := Lib.hid ⟨A4, c4, rfl, hA4, hn4, HB2.out.trans (hb4.mono HB2.out.size)⟩
  clear hA4 hn4 hb4
  go_wp2_with fail
  go_ret
  exact HE.out

set_option maxHeartbeats 4000000 in
set_option maxRecDepth 100000 in
theorem Join_any {w : World} {A1 A2 : Option Addr} {c1 c2 : Nat} {xs ys : List Wr} (h1 : WrsAt w w.heap.size A1 xs) (h2 : WrsAt w w.heap.size A2 ys) (hx : xs.length ≤ 400 ∧ (A1 = none → c1 = 0)) (hy : ys.length ≤ 400 ∧ (A2 = none → c2 = 0)) :
    Calls Try.prog 38 #[.slice A1 xs.length c1, .slice A2 ys.length c2] w (WrsEnd (xs ++ ys) w) := by
  have H1 := Lib.hid h1
  have H2 := Lib.hid h2
  have HX := Lib.hid hx.2
  have HY := Lib.hid hy.2
  have hxl := hx.1
  have hyl := hy.1
  obtain ⟨i0, hi0, hz0, hz1, hz2⟩ := info_parts Try.infoWr
  clear h1 h2 hx hy
  go_enter Try.func38, Try.ntmps38
  go_wp2_with (at_builtin; refine wpList_append_rows rfl (.tmp 6) (.tmp 7) 23 rfl w.heap.size 61 i0 (.agg #[.int .i64 0, .int .i64 0, .string ByteArray.empty]) 3 32 Try.underlying23 hi0 hz0 hz1 hz2 rfl (by decide) (.slice none 0 0) 0 [] rfl (World.ownsRow_nil _ _ _ _) A1 xs.length c1 (wrCells xs) rfl (wrCells_length _) w.heap.size H1.out.lies HX.out (wrCells_one _) ?c1 ?c2 (Nat.le_refl _) ?_)
  case c1 => unfold maxLen; omega
  case c2 => omega
  intro v3 w3 ho3 hg3
  have HB3 : Hid (Below w.heap.size w w3) := Lib.hid ((Below.refl _ _).grown hg3 (Nat.le_refl _) (fun q hq => by cases hq))
  (try rw [List.nil_append, Nat.zero_add] at ho3)
  have HO3 := Lib.hid ho3
  have hw3 : w.heap.size ≤ w3.heap.size := HB3.out.size
  clear ho3 hg3
  go_wp2_with (at_builtin; refine wpList_append_rows rfl (.tmp 8) (.tmp 9) 23 rfl w.heap.size 61 i0 (.agg #[.int .i64 0, .int .i64 0, .string ByteArray.empty]) 3 32 Try.underlying23 hi0 hz0 hz1 hz2 rfl (by decide) v3 xs.length (wrCells xs) rfl HO3.out A2 ys.length c2 (wrCells ys) rfl (wrCells_length _) w3.heap.size (H2.out.next HB3.out).lies HY.out (wrCells_one _) ?c3 ?c4 hw3 ?_)
  case c3 => unfold maxLen; omega
  case c4 => omega
  intro v4 w4 ho4 hg4
  have HE : Hid (WrsEnd (xs ++ ys) w (.returned v4) w4) := Lib.hid (own_end (by rw [List.length_append, wrCells_append]; exact ho4) (HB3.out.grown hg4 hw3 (fun q hq => (HO3.out.lt q hq).1)))
  clear ho4 hg4
  go_wp2_with fail
  go_ret
  exact HE.out
end Go.Proofs.Ytpmllckfijfehaa
