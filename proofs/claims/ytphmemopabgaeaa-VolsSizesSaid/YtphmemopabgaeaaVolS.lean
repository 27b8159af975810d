/- Contract of slices.Delete of one volume. -/
import Derived.Test.YtphmemopabgaeaaVolQ
namespace Go.Proofs.Ytphmemopabgaeaa
open Go.RowKit

def DelEnd (xs : List Value) (i n : Nat) (v : Value) (w : World) (e : Ending) (w' : World) : Prop :=
  ∃ A cap, e = .returned (.slice A (n - 1) cap) ∧ Lies w' w'.heap.size A (xs.take (i * 2) ++ xs.drop ((i + 1) * 2)) ∧ w.grownBy w' v.ownBlock

theorem Try.infoVol2 : (Try.prog.info? 47).map (fun i => (i.zero, i.size)) = some (some (.agg #[.int .i64 0, .slice none 0 0]), 2) := by kernel_rfl

theorem run_clear_k {P : Program} (w : World) (t e ty : TypeId) (z : Value) (ht : P.underlying t = some (.slice e)) (hv : ∀ w, (zeroValue e).run P w = .ok z w) (zs : List Value) (b o n c : Nat) (hn : 0 < n) (hz : (Builtin.zeroCells z.cells n).toList = zs) (h1 : ∀ v ∈ zs, v.oneCell' = true)
    (hc : ∀ j, j < zs.length → (w.cell? ⟨b, o + j, none⟩).isSome = true) (hf : ∀ j, j < zs.length → w.frozen? ⟨b, o + j, none⟩ = false) :
    (Builtin.clear_ #[t] ty #[.slice (some ⟨b, o, none⟩) n c]).run P w = .ok (.tuple #[]) (w.setCells b o zs) := by
  have hst := run_storeCells_cells (P := P) b o zs 0 w (by simpa using hc) (by simpa using hf) h1
  simp only [Nat.add_zero] at hst
  obtain ⟨m, rfl⟩ : ∃ m, n = m + 1 := ⟨n - 1, by omega⟩
  simp [Builtin.clear_, run_underlying ht, hv, hz, hst]

set_option maxHeartbeats 4000000 in
set_option maxRecDepth 100000 in
theorem Delete_any {w : World} {v : Value} {n i : Nat} {xs : List Value} (hown0 : w.ownsRow 0 47 2 v n xs) (hn : n ≤ 1000) (hi : i < n) (h1x : ∀ u ∈ xs, u.oneCell' = true) :
    Calls Try.prog 37 #[v, .int .i64 i, .int .i64 ((i : Int) + 1)] w (DelEnd xs i n v w) := by
  obtain ⟨i0, hi0, hz0, hz1, hz2⟩ := info_parts Try.infoVol
  obtain ⟨g, cap, rfl, _, hgw⟩ := hown0.form (by omega)
  have hown := hown0
  clear hown0
  have hgb : ∃ cur, w.heap[g]? = some (.cells cur 47 (0, 0)) ∧ cur.size = cap * 2 ∧ n ≤ cap ∧ cap ≤ 9223372036854775807 := by
    rcases hown.2 with ⟨h0, _⟩ | ⟨g', cap', cur, h0, _, hg, hnc, hcm, hs, _⟩
    · cases h0
    · simp only [Value.slice.injEq, Option.some.injEq, Addr.mk.injEq, and_true, true_and] at h0
      obtain ⟨rfl, rfl⟩ := h0
      unfold maxLen at hcm
      exact ⟨cur, hg, hs, hnc, by omega⟩
  obtain ⟨cur, hgh, hgs, hnc, hcm⟩ := hgb
  have hxl : xs.length = n * 2 := hown.1
  have hxs : ∀ j u, xs[j]? = some u → w.cell? ⟨g, j, none⟩ = some u := fun j u hu => by
    have := hown.cells (g := g) rfl j u hu
    rwa [WideShapes.add_plain, Nat.zero_add] at this
  have hsp : ∀ j, j < cap * 2 → (w.cell? ⟨g, j, none⟩).isSome = true := fun j hj => by rw [Lib.cell_of_heap hgh, Array.getElem?_eq_getElem (by omega)]; rfl
  have hfz : ∀ j, w.frozen? ⟨g, j, none⟩ = false := fun j => Lib.frozen_of_heap hgh j
  obtain ⟨news, hnews⟩ : ∃ news, xs.drop ((i + 1) * 2) = news := ⟨_, rfl⟩
  have hlen : news.length = (n - (i + 1)) * 2 := by rw [← hnews, List.length_drop, hxl]; omega
  have hget : ∀ t u, news[t]? = some u → xs[(i + 1) * 2 + t]? = some u := fun t u hu => by rw [← hnews, List.getElem?_drop] at hu; exact hu
  obtain ⟨A, hA, hsrc⟩ : ∃ A : Addr, (if cap = i + 1 then some (⟨g, 0, none⟩ : Addr) else some ⟨g, (i + 1) * 2, none⟩) = some A ∧ Hid (∀ t u, news[t]? = some u → w.drew.cell? (A.add t) = some u) := by
    by_cases h : cap = i + 1
    · refine ⟨⟨g, 0, none⟩, by simp [h], Lib.hid (fun t u hu => ?_)⟩
      have h0 : news.length = 0 := by rw [hlen]; omega
      rw [List.length_eq_zero_iff.1 h0] at hu
      simp at hu
    · refine ⟨⟨g, (i + 1) * 2, none⟩, by simp [h], Lib.hid (fun t u hu => ?_)⟩
      rw [WideShapes.add_plain]
      exact hxs _ u (hget t u hu)
  have s1 : Hid (news.length = (n - (i + 1)) * 2) := Lib.hid hlen
  have s2 : Hid (∀ u ∈ news, u.oneCell' = true) := Lib.hid (fun u hu => h1x u (by rw [← hnews] at hu; exact List.mem_of_mem_drop hu))
  have s3 : Hid (∀ t, t < news.length → (w.drew.cell? ⟨g, 0 + i * 2 + t, none⟩).isSome = true ∧ w.drew.frozen? ⟨g, 0 + i * 2 + t, none⟩ = false) := Lib.hid (fun t ht => ⟨hsp _ (by omega), hfz _⟩)
  obtain ⟨W1, hW1⟩ : ∃ W1, W1 = w.drew.setCells g (0 + i * 2) news := ⟨_, rfl⟩
  have hW : Hid (W1 = w.drew.setCells g (0 + i * 2) news) := Lib.hid hW1
  obtain ⟨q, hq⟩ : ∃ q, i + (n - (i + 1)) = q := ⟨_, rfl⟩
  have hqn : q + 1 = n := by omega
  have HCL : Hid (∀ ty, (Builtin.clear_ #[22] ty #[.slice (some ⟨g, q * 2, none⟩) (n - q) (cap - q)]).run Try.prog W1 = .ok (.tuple #[]) (W1.setCells g (q * 2) [.int .i64 0, .slice none 0 0])) := Lib.hid (fun ty => by
    rw [show n - q = 1 from by omega]
    refine run_clear_k W1 22 47 ty (.agg #[.int .i64 0, .slice none 0 0]) Try.underlying22 (zero_of_info Try.infoVol2).1 _ g (q * 2) 1 _ (by omega) (by simp [Builtin.zeroCells, Value.cells, Array.range]) ?_ ?_ ?_
    · intro u hu
      simp only [List.mem_cons, List.not_mem_nil, or_false] at hu
      rcases hu with rfl | rfl <;> rfl
    · intro j hj
      simp only [List.length_cons, List.length_nil] at hj
      rw [hW1, World.cell?_setCells_out g _ _ _ _ (fun _ _ => Or.inr (by show 0 + i * 2 + news.length ≤ q * 2 + j; omega))]
      exact hsp _ (by omega)
    · intro j hj
      rw [hW1, World.frozen?_setCells]
      exact hfz _)
  have HE : Hid (DelEnd xs i n (.slice (some ⟨g, 0, none⟩) n cap) w (.returned (.slice (some ⟨g, 0, none⟩) q cap)) (W1.setCells g (q * 2) [.int .i64 0, .slice none 0 0])) := by
    refine Lib.hid ⟨_, cap, by rw [show n - 1 = q from by omega], .inr ⟨g, 0, rfl, ?_, fun j hj => ?_⟩, ?_⟩
    · rw [size_setCells, hW1, size_setCells]; exact hgw
    · have hll : (xs.take (i * 2) ++ xs.drop ((i + 1) * 2)).length = q * 2 := by rw [List.length_append, List.length_take, hnews, hlen]; omega
      rw [hll] at hj
      rw [Nat.zero_add, World.cell?_setCells_out g _ _ _ ⟨g, j, none⟩ (fun _ _ => Or.inl hj), hW1]
      obtain ⟨u, hu⟩ : ∃ u, (xs.take (i * 2) ++ xs.drop ((i + 1) * 2))[j]? = some u := ⟨_, List.getElem?_eq_getElem (by omega)⟩
      have hu' := hu
      rw [List.getElem?_eq_getElem (by omega)] at hu'
      rw [hu']
      by_cases c2 : j < i * 2
      · rw [World.cell?_setCells_out g _ _ _ ⟨g, j, none⟩ (fun _ _ => Or.inl (by show j < 0 + i * 2; omega))]
        rw [List.getElem?_append_left (by rw [List.length_take]; omega), List.getElem?_take, if_pos c2] at hu
        exact hxs j u hu
      · rw [List.getElem?_append_right (by rw [List.length_take]; omega), List.length_take, hnews, show min (i * 2) xs.length = i * 2 from by omega] at hu
        obtain ⟨hj2, hj3⟩ := List.getElem?_eq_some_iff.1 hu
        have := World.cell?_setCells_in g news (0 + i * 2) w.drew (fun t ht => (s3.out t ht).1) (j - i * 2) hj2
        rw [show 0 + i * 2 + (j - i * 2) = j from by omega] at this
        rw [this, hj3]
    · rw [hW1]
      exact grown_setCells (grown_setCells (grown_drew (grown_refl w (some g))) _ _) _ _
  have HQ := Lib.hid hq
  clear hq
  have hic : i ≤ cap := by omega
  have hjc : i + 1 ≤ cap := by omega
  have hw1 : IntKind.i64.wrap ((i : Int) + 1) = (i : Int) + 1 := by rw [IntKind.wrap_i64]; omega
  have hb1 : (0 : Int) ≤ (i : Int) + 1 := by omega
  have htn : ((i : Int) + 1).toNat = i + 1 := by omega
  have hb5 : (i : Int) + 1 ≤ (n : Int) := by omega
  have hne : ((i : Int) == (i : Int) + 1) = false := by rw [beq_eq_false_iff_ne]; omega
  have mixed : Try.prog.follows Departure.mixedOrders = true := by kernel_rfl
  clear hW1 hgh hgs hxs hsp hfz hnews hget hxl hown
  go_enter Try.func37, Try.ntmps37
  go_wp2_with fail
  go_region_law_o (refine step_append_room rfl (.tmp 22) (.tmp 25) 22 rfl 47 i0 2 Try.underlying22 hi0 hz1 g 0 i cap (by simp [Act.eval, Act.put]) A (n - (i + 1)) (cap - (i + 1)) news (by simp [Act.eval, Act.put]) s1.out hsrc.out s2.out (by omega) s3.out ?_; rw [← hW.out])
  clear hw1 hb1 htn hb5 hne hA
  rw [HQ.out]
  have hq1 : q ≤ n := by omega
  have hq2 : ¬ (cap = q) := by omega
  have hcl := HCL.out
  go_wp2_with (simp only [hcl])
  go_ret
  exact HE.out
end Go.Proofs.Ytphmemopabgaeaa
