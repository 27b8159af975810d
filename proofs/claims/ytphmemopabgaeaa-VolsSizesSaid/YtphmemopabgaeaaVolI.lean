/- Contract of slices.Insert of one volume, ahead of the end, where there is no room; the whole contract. -/
import Derived.Test.YtphmemopabgaeaaVolH
namespace Go.Proofs.Ytphmemopabgaeaa
open Go.RowKit

set_option maxHeartbeats 4000000 in
set_option maxRecDepth 100000 in
theorem Insert_grow {w : World} {g n cap i vb : Nat} {xs news : List Value} (hown : w.ownsRow 0 47 2 (.slice (some ⟨g, 0, none⟩) n cap) n xs) (hn : n ≤ 1000) (hi : i < n) (hroom : cap < n + 1)
    (hvh : w.heap[vb]? = some (.cells news.toArray 47 (0, 0)))
    (hvl : news.length = 1 * 2) (h1v : ∀ u ∈ news, u.oneCell' = true) (h1x : ∀ u ∈ xs, u.oneCell' = true) :
    Calls Try.prog 33 #[.slice (some ⟨g, 0, none⟩) n cap, .int .i64 i, .slice (some ⟨vb, 0, none⟩) 1 1] w (InsEnd xs i news n (.slice (some ⟨g, 0, none⟩) n cap) w) := by
  obtain ⟨i0, hi0, hz0, hzs, hzb⟩ := info_parts Try.infoVol
  have hz2 : ((i : Int) == (n : Int)) = false := by rw [beq_eq_false_iff_ne]; omega
  have hz3 : decide ((cap : Int) < (n : Int) + 1) = true := by rw [decide_eq_true_iff]; omega
  have hnc : n ≤ cap := by
    rcases hown.2 with ⟨h0, _⟩ | ⟨g', cap', cur, h0, _, hg, hnc, hcm, _, _⟩
    · cases h0
    · simp only [Value.slice.injEq] at h0; omega
  have hgw : g < w.heap.size := (hown.lt g rfl).2
  have hvw : vb < w.heap.size := (Array.getElem?_eq_some_iff.1 hvh).1
  have hxl : xs.length = n * 2 := hown.1
  have hxs : ∀ j u, xs[j]? = some u → w.cell? ⟨g, j, none⟩ = some u := fun j u hu => by
    have := hown.cells (g := g) rfl j u hu
    rwa [WideShapes.add_plain, Nat.zero_add] at this
  have hvs : ∀ j u, news[j]? = some u → w.cell? ⟨vb, j, none⟩ = some u := fun j u hu => by rw [Lib.cell_of_heap hvh]; simpa using hu
  have hsz : (Try.prog.info? 47).map (·.size) = some 2 := by kernel_rfl
  have hkk : (n : Int) + 1 - (i : Int) = ((n + 1 - i : Nat) : Int) := by omega
  have hik : i + (n + 1 - i) = n + 1 := by omega
  have hold : (Builtin.firstCells i0.size i (.slice (some ⟨g, 0, none⟩) i cap)).run Try.prog w.drew = .ok (xs.take (i * 2)).toArray w.drew := by
    rw [hzs]
    exact run_firstCells_some w.drew 2 i ⟨g, 0, none⟩ i cap (xs.take (i * 2)) (by rw [List.length_take]; omega) (fun j v hj => by
      rw [WideShapes.add_plain, Nat.zero_add]
      rw [List.getElem?_take] at hj
      split at hj
      · exact hxs j v hj
      · cases hj)
  have hrz : ∀ ty, (Builtin.append_ #[22, 3] ty #[.slice (some ⟨g, 0, none⟩) i cap, .int .i64 ((n : Int) + 1 - (i : Int))]).run Try.prog w =
      .ok (.slice (some ⟨w.heap.size, 0, none⟩) (n + 1) (grownCap w (n + 1) cap 47)) (w.drew.alloc (.cells ((xs.take (i * 2)).toArray ++ Builtin.zeroCells (Value.agg #[.int .i64 0, .slice none 0 0]).cells (n + 1 - i) ++ Builtin.zeroCells (Value.agg #[.int .i64 0, .slice none 0 0]).cells (grownCap w (n + 1) cap 47 - (n + 1))) 47)) := fun ty => by
    have h := Lib.run_append_grow_zeros w 22 3 ty 47 i0 _ .i64 .i64 Try.underlying22 Try.underlying3 hi0 hz0 (some ⟨g, 0, none⟩) i cap (xs.take (i * 2)) hold (n + 1 - i) (by omega) (by omega) (by omega) (by omega) (by rw [hzb]; omega) (by rw [hzb, hik]; exact growslice_fits hroom (by omega))
    rw [hik] at h
    rw [hkk]
    exact h
  obtain ⟨G, hG⟩ : ∃ G, G = grownCap w (n + 1) cap 47 := ⟨_, rfl⟩
  obtain ⟨ROW, hROW⟩ : ∃ ROW : Array Value, ROW = (xs.take (i * 2)).toArray ++ Builtin.zeroCells (Value.agg #[.int .i64 0, .slice none 0 0]).cells (n + 1 - i) ++ Builtin.zeroCells (Value.agg #[.int .i64 0, .slice none 0 0]).cells (G - (n + 1)) := ⟨_, rfl⟩
  rw [← hG] at hrz
  rw [← hROW] at hrz
  have hRl : (n + 1) * 2 ≤ ROW.size := by
    rw [hROW]
    simp [Builtin.zeroCells, Value.cells]
    omega
  have hRt : ∀ j u, j < i * 2 → xs[j]? = some u → ROW[j]? = some u := fun j u hj hu => by
    rw [hROW, Array.append_assoc, Array.getElem?_append_left (by simp; omega)]
    simp [hj, hu]
  obtain ⟨W1, hW1⟩ : ∃ W1, W1 = w.drew.alloc (.cells ROW 47) := ⟨_, rfl⟩
  rw [← hW1] at hrz
  have hN : ∀ j, j < (n + 1) * 2 → (W1.cell? ⟨w.heap.size, j, none⟩).isSome = true := fun j hj => by
    rw [hW1, World.cell?_alloc_at (w := w.drew) ROW _ w.heap.size j rfl, Array.getElem?_eq_getElem (by omega)]; rfl
  have hNx : ∀ j u, j < i * 2 → xs[j]? = some u → W1.cell? ⟨w.heap.size, j, none⟩ = some u := fun j u hj hu => by
    rw [hW1, World.cell?_alloc_at (w := w.drew) ROW _ w.heap.size j rfl]; exact hRt j u hj hu
  have hNf : ∀ j, W1.frozen? ⟨w.heap.size, j, none⟩ = false := fun j => by rw [hW1]; exact World.frozen?_alloc_at (w := w.drew) ROW _ w.heap.size j rfl
  have hOb : ∀ j v, w.cell? ⟨g, j, none⟩ = some v → W1.cell? ⟨g, j, none⟩ = some v := fun j v h => by rw [hW1, World.cell?_alloc_past (w := w.drew) _ g j hgw]; exact h
  have hOv : ∀ j v, w.cell? ⟨vb, j, none⟩ = some v → W1.cell? ⟨vb, j, none⟩ = some v := fun j v h => by rw [hW1, World.cell?_alloc_past (w := w.drew) _ vb j hvw]; exact h
  have hcpA : ∀ (W : World), (∀ x, W.cell? x = W1.cell? x) → (∀ x, W.frozen? x = W1.frozen? x) → ∀ ty dc, (Builtin.copy_ #[22, 22] ty #[.slice (some ⟨w.heap.size, i * 2, none⟩) (n + 1 - i) dc, .slice (some ⟨vb, 0, none⟩) 1 1]).run Try.prog W = .ok (goInt (Nat.min 1 (n + 1 - i))) (W.setCells w.heap.size (i * 2) news) := fun W hWc hWf ty dc =>
    run_copy_k W 2 _ _ ty 47 w.heap.size (i * 2) (n + 1 - i) dc ⟨vb, 0, none⟩ 1 1 news Try.underlying22 hsz (by rw [hvl]; simp only [Nat.min_def]; split <;> omega)
      (fun j v hj => by rw [WideShapes.add_plain, Nat.zero_add, hWc]; exact hOv _ v (hvs j v hj))
      (fun j hj => by rw [hWc]; exact hN _ (by omega)) (fun j hj => by rw [hWf]; exact hNf _) h1v
  have hGn : n + 1 ≤ G := by rw [hG]; exact grownCap_ge w _ _ _
  have hG63 : G ≤ 9223372036854775807 := by
    have := grownCap_le_maxLen w (n + 1) cap 47 (by unfold maxLen; omega)
    rw [← hG] at this
    unfold maxLen at this
    omega
  have hGi : ¬ (G = i) := by omega
  have hGim : ¬ (G = i + 1) := by omega
  have hci : ¬ (cap = i) := by omega
  have hbN : g ≠ w.heap.size := by omega
  have hcpB : ∀ (W : World), (∀ x, W.cell? x = (W1.setCells w.heap.size (i * 2) news).cell? x) → (∀ x, W.frozen? x = (W1.setCells w.heap.size (i * 2) news).frozen? x) → ∀ ty dc sc, (Builtin.copy_ #[22, 22] ty #[.slice (some ⟨w.heap.size, (i + 1) * 2, none⟩) (n - i) dc, .slice (some ⟨g, i * 2, none⟩) (n - i) sc]).run Try.prog W = .ok (goInt (Nat.min (n - i) (n - i))) (W.setCells w.heap.size ((i + 1) * 2) (xs.drop (i * 2))) := fun W hWc hWf ty dc sc =>
    run_copy_k W 2 _ _ ty 47 w.heap.size ((i + 1) * 2) (n - i) dc ⟨g, i * 2, none⟩ (n - i) sc (xs.drop (i * 2)) Try.underlying22 hsz (by rw [List.length_drop, hxl]; simp only [Nat.min_def]; split <;> omega)
      (fun j v hj => by
        rw [WideShapes.add_plain, hWc, World.cell?_setCells_out _ _ _ _ _ (fun h _ => absurd h hbN)]
        exact hOb _ v (hxs _ v (by rwa [List.getElem?_drop] at hj)))
      (fun j hj => by
        rw [List.length_drop, hxl] at hj
        rw [hWc, World.cell?_setCells_out _ _ _ _ _ (fun _ _ => Or.inr (by show i * 2 + news.length ≤ (i + 1) * 2 + j; omega))]; exact hN _ (by omega))
      (fun j hj => by rw [hWf, World.frozen?_setCells]; exact hNf _) (fun v hv => h1x v (List.mem_of_mem_drop hv))
  have HE : Hid (InsEnd xs i news n (.slice (some ⟨g, 0, none⟩) n cap) w (.returned (.slice (some ⟨w.heap.size, 0, none⟩) (n + 1) G)) (((W1.setCells w.heap.size (i * 2) news).drew).setCells w.heap.size ((i + 1) * 2) (xs.drop (i * 2)))) := by
    refine Lib.hid ⟨_, G, rfl, .inr ⟨w.heap.size, 0, rfl, ?_, fun j hj => ?_⟩, ?_⟩
    · rw [size_setCells]; show w.heap.size < (W1.setCells _ _ _).heap.size; rw [size_setCells, hW1]; show w.heap.size < (w.drew.alloc _).heap.size; simp
    · rw [Nat.zero_add]
      obtain ⟨u, hu⟩ : ∃ u, (xs.take (i * 2) ++ news ++ xs.drop (i * 2))[j]? = some u := ⟨_, List.getElem?_eq_getElem hj⟩
      have hu' := hu
      rw [List.getElem?_eq_getElem hj] at hu'
      rw [hu']
      have hlen : (xs.take (i * 2)).length = i * 2 := by rw [List.length_take]; omega
      by_cases c1 : j < (i + 1) * 2
      · rw [World.cell?_setCells_out w.heap.size _ _ _ ⟨w.heap.size, j, none⟩ (fun _ _ => Or.inl (by show j < (i + 1) * 2; omega))]
        show (W1.setCells w.heap.size (i * 2) news).cell? _ = _
        by_cases c2 : j < i * 2
        · rw [World.cell?_setCells_out w.heap.size _ _ _ ⟨w.heap.size, j, none⟩ (fun _ _ => Or.inl c2)]
          rw [List.append_assoc, List.getElem?_append_left (by omega), List.getElem?_take, if_pos c2] at hu
          exact hNx j u c2 hu
        · have := World.cell?_setCells_in w.heap.size news (i * 2) W1 (fun t ht => hN _ (by omega)) (j - i * 2) (by omega)
          rw [show i * 2 + (j - i * 2) = j from by omega] at this
          rw [this]
          rw [List.append_assoc, List.getElem?_append_right (by omega), hlen, List.getElem?_append_left (by omega)] at hu
          rw [← hu, List.getElem?_eq_getElem]
      · rw [List.getElem?_append_right (by rw [List.length_append, hlen]; omega), List.length_append, hlen] at hu
        have hj2 := (List.getElem?_eq_some_iff.1 hu).1
        have := World.cell?_setCells_in w.heap.size (xs.drop (i * 2)) ((i + 1) * 2) (W1.setCells w.heap.size (i * 2) news).drew (fun t ht => by
          show ((W1.setCells w.heap.size (i * 2) news).cell? _).isSome = true
          rw [List.length_drop, hxl] at ht
          rw [World.cell?_setCells_out _ _ _ _ _ (fun _ _ => Or.inr (by show i * 2 + news.length ≤ (i + 1) * 2 + t; omega))]; exact hN _ (by omega)) (j - (i + 1) * 2) (by rw [hvl] at hj2; omega)
        rw [show (i + 1) * 2 + (j - (i + 1) * 2) = j from by omega] at this
        rw [this, ← hu, ← List.getElem?_eq_getElem, hvl, show i * 2 + 1 * 2 = (i + 1) * 2 from by omega]
    · have h0 : w.grownBy W1 (some w.heap.size) := by rw [hW1]; exact ⟨rfl, rfl, rfl, by show w.heap.size ≤ (w.drew.alloc _).heap.size; simp, fun k hk _ => Below.heap_alloc w.drew _ k hk⟩
      have h1 := grown_setCells (grown_drew (grown_setCells h0 (i * 2) news)) ((i + 1) * 2) (xs.drop (i * 2))
      exact ⟨h1.os, h1.tape, h1.output, h1.size, fun k hk _ => h1.block k hk (by simp; omega)⟩
  subst hW1
  have hE1 : ∀ x, ((w.alloc (.cells ROW 47)).drew).cell? x = (w.drew.alloc (.cells ROW 47)).cell? x := fun x => rfl
  have hE2 : ∀ x, ((w.alloc (.cells ROW 47)).drew).frozen? x = (w.drew.alloc (.cells ROW 47)).frozen? x := fun x => rfl
  have hF1 : ∀ x, (((w.alloc (.cells ROW 47)).drew.setCells w.heap.size (i * 2) news).drew).cell? x = ((w.drew.alloc (.cells ROW 47)).setCells w.heap.size (i * 2) news).cell? x := fun x => rfl
  have hF2 : ∀ x, (((w.alloc (.cells ROW 47)).drew.setCells w.heap.size (i * 2) news).drew).frozen? x = ((w.drew.alloc (.cells ROW 47)).setCells w.heap.size (i * 2) news).frozen? x := fun x => rfl
  have hw1 : IntKind.i64.wrap ((i : Int) + 1) = (i : Int) + 1 := by rw [IntKind.wrap_i64]; omega
  have hb1 : (0 : Int) ≤ (i : Int) + 1 := by omega
  have hin : i ≤ n := by omega
  have htn : ((i : Int) + 1).toNat = i + 1 := by omega
  have hb3 : (i : Int) ≤ (n : Int) := by omega
  have hb5 : (i : Int) + 1 ≤ (n : Int) + 1 := by omega
  have mixed : Try.prog.follows Departure.mixedOrders = true := by kernel_rfl
  clear hkk hik hold hROW hG hRl hRt hown hvh hvl hxs hvs hN hNx hNf hOb hOv hxl h1v h1x hi0 hz0 hzs hzb hsz
  go_enter Try.func33, Try.ntmps33
  go_wp2_with (first
    | (at_builtin; refine Lib.wpList_append_run _ rfl _ _ _ _ rfl _ _ rfl rfl _ _ (hrz _) ?_)
    | (at_builtin; refine wpList_copy_run _ rfl _ _ 22 22 rfl _ _ rfl rfl (hcpA _ hE1 hE2 _ _) ?_))
  go_region_law_o (refine step_copy_run rfl _ _ 22 22 rfl (.slice (some ⟨w.heap.size, (i + 1) * 2, none⟩) (n - i) (G - (i + 1))) (.slice (some ⟨g, i * 2, none⟩) (n - i) (cap - i)) (by simp [Act.eval, Act.put]) (by simp [Act.eval, Act.put]) (hcpB _ hF1 hF2 3 (G - (i + 1)) (cap - i)) ?_)
  go_wp2_with fail
  go_ret
  exact HE.out

/-- slices.Insert of one volume. -/
theorem Insert_any {w : World} {v : Value} {n i vb : Nat} {xs news : List Value} (hown : w.ownsRow 0 47 2 v n xs) (hn : n ≤ 1000) (hi : i ≤ n)
    (hvb : v.ownBlock ≠ some vb) (hvh : w.heap[vb]? = some (.cells news.toArray 47 (0, 0)))
    (hvl : news.length = 1 * 2) (h1v : ∀ u ∈ news, u.oneCell' = true) (h1x : ∀ u ∈ xs, u.oneCell' = true) :
    Calls Try.prog 33 #[v, .int .i64 i, .slice (some ⟨vb, 0, none⟩) 1 1] w (InsEnd xs i news n v w) := by
  by_cases h : i = n
  · subst h
    exact Insert_end hown hn hvl (fun j u hu => by rw [WideShapes.add_plain, Nat.zero_add, Lib.cell_of_heap hvh]; simpa using hu) h1v
  · obtain ⟨g, cap, rfl, _⟩ := hown.form (by omega)
    have hne : vb ≠ g := fun e => hvb (by simp [Value.ownBlock, e])
    by_cases h2 : n + 1 ≤ cap
    · exact Insert_shift hown hn (by omega) h2 hne hvh hvl h1v h1x
    · exact Insert_grow hown hn (by omega) (by omega) hvh hvl h1v h1x
end Go.Proofs.Ytphmemopabgaeaa
