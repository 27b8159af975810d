/- Contract of slices.Insert of one volume, ahead of the end. -/
import Derived.Test.YtphmemopabgaeaaVolG
namespace Go.Proofs.Ytphmemopabgaeaa
open Go.RowKit

theorem size_setCells (g : Nat) : ∀ (vs : List Value) (o : Nat) (w : World), (w.setCells g o vs).heap.size = w.heap.size
  | [], _, _ => rfl
  | v :: r, o, w => by
    rw [World.setCells, size_setCells g r]
    simp [World.setCell]
theorem block_setCells {g k : Nat} (h : k ≠ g) : ∀ (vs : List Value) (o : Nat) (w : World), (w.setCells g o vs).heap[k]? = w.heap[k]?
  | [], _, _ => rfl
  | v :: r, o, w => by
    rw [World.setCells, block_setCells h r, Below.heap_setCell _ _ _ _ h]
theorem os_setCells (g : Nat) : ∀ (vs : List Value) (o : Nat) (w : World), (w.setCells g o vs).os = w.os ∧ (w.setCells g o vs).tape = w.tape ∧ (w.setCells g o vs).output = w.output
  | [], _, _ => ⟨rfl, rfl, rfl⟩
  | v :: r, o, w => by rw [World.setCells]; exact os_setCells g r _ _
theorem grown_setCells {w w' : World} {g : Nat} (h : w.grownBy w' (some g)) (o : Nat) (vs : List Value) : w.grownBy (w'.setCells g o vs) (some g) :=
  ⟨(os_setCells g vs o w').1.trans h.os, (os_setCells g vs o w').2.1.trans h.tape, (os_setCells g vs o w').2.2.trans h.output, by rw [size_setCells]; exact h.size,
   fun k hk hne => (block_setCells (fun e => hne (by rw [e])) vs o w').trans (h.block k hk hne)⟩
theorem grown_drew {w w' : World} {row : Option Nat} (h : w.grownBy w' row) : w.grownBy w'.drew row := ⟨h.os, h.tape, h.output, h.size, h.block⟩
theorem grown_refl (w : World) (row : Option Nat) : w.grownBy w row := ⟨rfl, rfl, rfl, Nat.le_refl _, fun _ _ _ => rfl⟩

/-- A row of which the tail is moved up, and news laid in. -/
theorem row_shift {w : World} {g i : Nat} {xs news : List Value} (hx : ∀ j u, xs[j]? = some u → w.cell? ⟨g, j, none⟩ = some u) (hs : ∀ j, j < xs.length + news.length → (w.cell? ⟨g, j, none⟩).isSome = true) (hi : i ≤ xs.length) :
    ∀ j u, (xs.take i ++ news ++ xs.drop i)[j]? = some u → ((w.setCells g (i + news.length) (xs.drop i)).setCells g i news).cell? ⟨g, j, none⟩ = some u := by
  intro j u hu
  have h1 : ∀ t, t < (xs.drop i).length → (w.cell? ⟨g, i + news.length + t, none⟩).isSome = true := fun t ht => hs _ (by rw [List.length_drop] at ht; omega)
  have hlen : (xs.take i).length = i := by rw [List.length_take]; omega
  by_cases c1 : j < i
  · rw [World.cell?_setCells_out g news i _ ⟨g, j, none⟩ (fun _ _ => Or.inl c1), World.cell?_setCells_out g _ _ _ ⟨g, j, none⟩ (fun _ _ => Or.inl (by show j < i + news.length; omega))]
    rw [List.append_assoc, List.getElem?_append_left (by omega), List.getElem?_take, if_pos c1] at hu
    exact hx j u hu
  · by_cases c2 : j < i + news.length
    · have := World.cell?_setCells_in g news i (w.setCells g (i + news.length) (xs.drop i)) (fun t ht => by
        rw [World.cell?_setCells_out g _ _ _ ⟨g, i + t, none⟩ (fun _ _ => Or.inl (by show i + t < i + news.length; omega))]
        exact hs _ (by omega)) (j - i) (by omega)
      rw [show i + (j - i) = j from by omega] at this
      rw [this]
      rw [List.append_assoc, List.getElem?_append_right (by omega), hlen, List.getElem?_append_left (by omega)] at hu
      rw [← hu, List.getElem?_eq_getElem]
    · rw [World.cell?_setCells_out g news i _ ⟨g, j, none⟩ (fun _ _ => Or.inr (by show i + news.length ≤ j; omega))]
      rw [List.getElem?_append_right (by rw [List.length_append, hlen]; omega), List.length_append, hlen] at hu
      have hj := (List.getElem?_eq_some_iff.1 hu).1
      have := World.cell?_setCells_in g (xs.drop i) (i + news.length) w h1 (j - (i + news.length)) hj
      rw [show i + news.length + (j - (i + news.length)) = j from by omega] at this
      rw [this, ← hu, List.getElem?_eq_getElem]

set_option maxHeartbeats 4000000 in
set_option maxRecDepth 100000 in
theorem Insert_shift {w : World} {g n cap i vb : Nat} {xs news : List Value} (hown : w.ownsRow 0 47 2 (.slice (some ⟨g, 0, none⟩) n cap) n xs) (hn : n ≤ 1000) (hi : i < n) (hroom : n + 1 ≤ cap)
    (hvb : vb ≠ g) (hvh : w.heap[vb]? = some (.cells news.toArray 47 (0, 0)))
    (hvl : news.length = 1 * 2) (h1v : ∀ u ∈ news, u.oneCell' = true) (h1x : ∀ u ∈ xs, u.oneCell' = true) :
    Calls Try.prog 33 #[.slice (some ⟨g, 0, none⟩) n cap, .int .i64 i, .slice (some ⟨vb, 0, none⟩) 1 1] w (InsEnd xs i news n (.slice (some ⟨g, 0, none⟩) n cap) w) := by
  have hz2 : ((i : Int) == (n : Int)) = false := by rw [beq_eq_false_iff_ne]; omega
  have hz3 : decide ((cap : Int) < (n : Int) + 1) = false := by rw [decide_eq_false_iff_not]; omega
  have hb4 : ¬ (cap = i) := by omega
  have hb2 : ¬ (cap = i + 1) := by omega
  have hcm : cap ≤ 9223372036854775807 := by
    rcases hown.2 with ⟨h0, _⟩ | ⟨g', cap', cur, h0, _, hg, hnc, hcm, _, _⟩
    · cases h0
    · simp only [Value.slice.injEq] at h0; unfold maxLen at hcm; omega
  have hgb : ∃ cur, w.heap[g]? = some (.cells cur 47 (0, 0)) ∧ cur.size = cap * 2 := by
    rcases hown.2 with ⟨h0, _⟩ | ⟨g', cap', cur, h0, _, hg, _, _, hs, _⟩
    · cases h0
    · simp only [Value.slice.injEq, Option.some.injEq, Addr.mk.injEq, and_true, true_and] at h0
      obtain ⟨rfl, rfl⟩ := h0
      exact ⟨cur, hg, hs⟩
  obtain ⟨cur, hgh, hgs⟩ := hgb
  have hxl : xs.length = n * 2 := hown.1
  have hxs : ∀ j u, xs[j]? = some u → w.cell? ⟨g, j, none⟩ = some u := fun j u hu => by
    have := hown.cells (g := g) rfl j u hu
    rwa [WideShapes.add_plain, Nat.zero_add] at this
  have hsp : ∀ j, j < cap * 2 → (w.cell? ⟨g, j, none⟩).isSome = true := fun j hj => by rw [Lib.cell_of_heap hgh, Array.getElem?_eq_getElem (by omega)]; rfl
  have hfz : ∀ j, w.frozen? ⟨g, j, none⟩ = false := fun j => Lib.frozen_of_heap hgh j
  have hvs : ∀ j u, news[j]? = some u → w.cell? ⟨vb, j, none⟩ = some u := fun j u hu => by rw [Lib.cell_of_heap hvh]; simpa using hu
  have hsz : (Try.prog.info? 47).map (·.size) = some 2 := by kernel_rfl
  have hov : ∀ lb cb, (callFunc 46 #[.slice (some ⟨vb, 0, none⟩) 1 1, .slice (some ⟨g, (i + 1) * 2, none⟩) lb cb]).run Try.prog w = .ok (.value (.bool false)) w := fun lb cb => by
    rw [run_callFunc_extern Try.func46 (by kernel_rfl) (by kernel_rfl) (by kernel_rfl) (e := Extern.SlicesOverlaps.overlaps #[22, 22] #[4]) (by kernel_rfl),
      Lib.run_overlaps_apart w 22 4 47 Try.underlying22 2 (fun w => by kernel_rfl) ⟨vb, 0, none⟩ ⟨g, (i + 1) * 2, none⟩ 1 1 lb cb hvb 47 47 news.toArray.size cur.size (by simp [World.shape?, hvh]) (by simp [World.shape?, hgh]) (by omega) (Lib.frozen_of_heap hvh _) (Lib.frozen_of_heap hvh _)]
    rfl
  have hcp1 : ∀ ty dc sc, (Builtin.copy_ #[22, 22] ty #[.slice (some ⟨g, (i + 1) * 2, none⟩) (n - i) dc, .slice (some ⟨g, i * 2, none⟩) (n + 1 - i) sc]).run Try.prog w.drew = .ok (goInt (Nat.min (n + 1 - i) (n - i))) (w.drew.setCells g ((i + 1) * 2) (xs.drop (i * 2))) := fun ty dc sc =>
    run_copy_k w.drew 2 _ _ ty 47 g ((i + 1) * 2) (n - i) dc ⟨g, i * 2, none⟩ (n + 1 - i) sc (xs.drop (i * 2)) Try.underlying22 hsz (by rw [List.length_drop, hxl]; simp only [Nat.min_def]; split <;> omega)
      (fun j v hj => by rw [WideShapes.add_plain]; exact hxs _ v (by rwa [List.getElem?_drop] at hj))
      (fun j hj => hsp _ (by rw [List.length_drop, hxl] at hj; omega)) (fun j _ => hfz _) (fun v hv => h1x v (List.mem_of_mem_drop hv))
  obtain ⟨W1, hW1⟩ : ∃ W1, W1 = w.drew.setCells g ((i + 1) * 2) (xs.drop (i * 2)) := ⟨_, rfl⟩
  have hcp2 : ∀ ty dc, (Builtin.copy_ #[22, 22] ty #[.slice (some ⟨g, i * 2, none⟩) (n + 1 - i) dc, .slice (some ⟨vb, 0, none⟩) 1 1]).run Try.prog W1 = .ok (goInt (Nat.min 1 (n + 1 - i))) (W1.setCells g (i * 2) news) := fun ty dc =>
    run_copy_k W1 2 _ _ ty 47 g (i * 2) (n + 1 - i) dc ⟨vb, 0, none⟩ 1 1 news Try.underlying22 hsz (by rw [hvl]; simp only [Nat.min_def]; split <;> omega)
      (fun j v hj => by
        rw [WideShapes.add_plain, Nat.zero_add, hW1, World.cell?_setCells_out g _ _ _ _ (fun h _ => absurd h hvb)]
        exact hvs j v hj)
      (fun j hj => by rw [hW1, World.cell?_setCells_out g _ _ _ _ (fun _ _ => Or.inl (by show i * 2 + j < (i + 1) * 2; omega))]; exact hsp _ (by omega)) (fun j hj => by rw [hW1, World.frozen?_setCells]; exact hfz _) h1v
  rw [← hW1] at hcp1
  have HE : Hid (InsEnd xs i news n (.slice (some ⟨g, 0, none⟩) n cap) w (.returned (.slice (some ⟨g, 0, none⟩) (n + 1) cap)) (W1.setCells g (i * 2) news)) := by
    refine Lib.hid ⟨_, cap, rfl, .inr ⟨g, 0, rfl, ?_, fun j hj => ?_⟩, ?_⟩
    · rw [size_setCells, hW1, size_setCells]; exact (hown.lt g rfl).2
    · rw [Nat.zero_add, hW1]
      have := row_shift (w := w.drew) (g := g) (i := i * 2) (xs := xs) (news := news) hxs (fun j hj => hsp j (by omega)) (by omega) j _ (List.getElem?_eq_getElem hj)
      rw [show i * 2 + news.length = (i + 1) * 2 from by omega] at this
      exact this
    · rw [hW1]
      exact grown_setCells (grown_setCells (grown_drew (grown_refl w (some g))) _ _) _ _
  have hw1 : IntKind.i64.wrap ((i : Int) + 1) = (i : Int) + 1 := by rw [IntKind.wrap_i64]; omega
  have hb1 : (0 : Int) ≤ (i : Int) + 1 := by omega
  have hin : i ≤ n := by omega
  have htn : ((i : Int) + 1).toNat = i + 1 := by omega
  have hb3 : (i : Int) ≤ (n : Int) + 1 := by omega
  have hb5 : (i : Int) + 1 ≤ (n : Int) + 1 := by omega
  clear hown hvh hvl h1v h1x hW1 hxs hsp hfz hvs hsz hgh hgs hxl
  go_enter Try.func33, Try.ntmps33
  go_wp2_with (simp only [hov])
  clear hov
  have mixed : Try.prog.follows Departure.mixedOrders = true := by kernel_rfl
  go_region_law_o (refine step_copy_run rfl _ _ 22 22 rfl _ _ (by simp [Act.eval, Act.put]) (by simp [Act.eval, Act.put]) (hcp1 _ _ _) ?_)
  go_wp2_with (at_builtin; refine wpList_copy_run _ rfl _ _ 22 22 rfl _ _ rfl rfl (hcp2 _ _) ?_)
  all_goals (go_ret; exact HE.out)
end Go.Proofs.Ytphmemopabgaeaa
