/- Contract of slices.Clone over sectors. -/
import Derived.Test.YtjeabnlmanfplaaGreatDoorDiskF
namespace Go.Proofs.YtjeabnlmanfplaaGreatDoor
open Go.RowKit

def flatCells (l : List (List UInt8)) : List Value := (l.map byteVals).flatten
theorem flatCells_length {l : List (List UInt8)} (h : ∀ x ∈ l, x.length = 32) : (flatCells l).length = l.length * 32 := by
  induction l with
  | nil => rfl
  | cons p l ih =>
    have h1 := ih (fun q hq => h q (List.mem_cons_of_mem _ hq))
    have h2 := h p List.mem_cons_self
    simp only [flatCells, List.map_cons, List.flatten_cons, List.length_append, List.length_cons, byteVals_length] at h1 ⊢
    omega
theorem flatCells_at {l : List (List UInt8)} (h : ∀ x ∈ l, x.length = 32) (k : Nat) (hk : k < l.length) (j : Nat) (hj : j < 32) : (flatCells l)[k * 32 + j]? = (byteVals l[k])[j]? := by
  induction l generalizing k with
  | nil => simp at hk
  | cons p l ih =>
    have h2 := h p List.mem_cons_self
    have hlen : (byteVals p).length = 32 := by simp [byteVals_length, h2]
    simp only [flatCells, List.map_cons, List.flatten_cons]
    cases k with
    | zero => rw [List.getElem?_append_left (by omega), Nat.zero_mul, Nat.zero_add]; rfl
    | succ k =>
      rw [List.getElem?_append_right (by omega), hlen, show (k + 1) * 32 + j - 32 = k * 32 + j from by omega]
      exact ih (fun q hq => h q (List.mem_cons_of_mem _ hq)) k (by simpa using hk)
theorem flatCells_one (l : List (List UInt8)) : ∀ u ∈ flatCells l, u.oneCell' = true := by
  intro u hu
  unfold flatCells at hu
  rw [List.mem_flatten] at hu
  obtain ⟨m, hm, hu⟩ := hu
  obtain ⟨x, _, rfl⟩ := List.mem_map.1 hm
  exact byteVals_one x u hu

theorem Secs.all32 {w : World} {b : Nat} {l : List (List UInt8)} (h : Secs w b l) : ∀ x ∈ l, x.length = 32 := by
  intro x hx
  obtain ⟨i, hi, rfl⟩ := List.getElem_of_mem hx
  exact (h.2 i hi).1

theorem Secs.flat {w : World} {b : Nat} {l : List (List UInt8)} (h : Secs w b l) : ∀ j u, (flatCells l)[j]? = some u → w.cell? ((⟨b, 0, none⟩ : Addr).add j) = some u := fun j u hu => by
  have hl := (List.getElem?_eq_some_iff.1 hu).1
  rw [flatCells_length h.all32] at hl
  have h1 : j / 32 < l.length := by omega
  have h2 : j % 32 < 32 := Nat.mod_lt _ (by omega)
  have e : j / 32 * 32 + j % 32 = j := by omega
  rw [← e, flatCells_at h.all32 _ h1 _ h2] at hu
  rw [WideShapes.add_plain, Nat.zero_add, ← e]
  exact (h.2 _ h1).2.1 _ _ hu

theorem secs_own {w : World} {base g cap : Nat} {l : List (List UInt8)} (hl : ∀ x ∈ l, x.length = 32) (h : w.ownsRow base 109 32 (.slice (some ⟨g, 0, none⟩) l.length cap) l.length (flatCells l)) : Secs w g l := by
  refine ⟨(h.lt g rfl).2, fun i hi => ⟨hl _ (List.getElem_mem hi), fun j u hu => ?_, fun j hj => ?_⟩⟩
  · have hj : j < 32 := by
      have := (List.getElem?_eq_some_iff.1 hu).1
      rw [byteVals_length, hl _ (List.getElem_mem hi)] at this
      exact this
    rw [h.cellAt _ (by omega), flatCells_at hl i hi j hj]
    exact hu
  · rw [h.cellAt _ (by omega), flatCells_at hl i hi j hj, h.frozenAt]
    refine ⟨?_, rfl⟩
    rw [List.getElem?_eq_getElem (by rw [byteVals_length, hl _ (List.getElem_mem hi)]; exact hj)]
    rfl

def CloneEnd (l : List (List UInt8)) (w : World) (e : Ending) (w' : World) : Prop :=
  ∃ g cap, e = .returned (.slice (some ⟨g, 0, none⟩) l.length cap) ∧ Secs w' g l ∧ w.heap.size ≤ g ∧ l.length ≤ cap ∧ cap ≤ maxLen ∧ Below w.heap.size w w'

set_option maxHeartbeats 400000 in
theorem Clone_any {w : World} {u cu : Nat} {l : List (List UInt8)} (h : Secs w u l) (h1 : 0 < l.length) (h2 : l.length ≤ 4096) :
    Calls Tryz.prog 63 #[.slice (some ⟨u, 0, none⟩) l.length cu] w (CloneEnd l w) := by
  obtain ⟨i0, hi0, hz0, hz1, hz2⟩ := info_parts Tryz.infoSector
  have HS := Lib.hid h
  have hnil := run_eql_slice_nil (P := Tryz.prog) w 80 109 (some ⟨u, 0, none⟩) l.length cu Tryz.underlying80
  have HF : Hid (∀ j v, (flatCells l)[j]? = some v → (w.alloc (.cells #[] 109)).cell? ((⟨u, 0, none⟩ : Addr).add j) = some v) := Lib.hid (Secs.flat (h.kept (Below.heap_alloc w _ u h.1) (by simp)))
  have HL := Lib.hid (flatCells_length h.all32)
  have HA := Lib.hid h.all32
  obtain ⟨n, hn⟩ : ∃ n, l.length = n := ⟨_, rfl⟩
  have HN := Lib.hid hn
  rw [hn] at h1 h2 hnil HL ⊢
  clear h hn
  go_enter Tryz.func63, Tryz.ntmps63
  go_wp2_with (at_builtin; refine wpList_append_lies _ rfl (.tmp 5) (.tmp 6) 80 rfl w.heap.size 109 i0 (.agg (Array.replicate 32 (.int .u8 0))) 32 32 Tryz.underlying80 hi0 hz0 hz1 hz2 rfl (by decide) (.slice (some ⟨w.heap.size, 0, none⟩) 0 0) 0 [] rfl (World.ownsRow_made w #[] 0 (Nat.le_refl _) (Nat.zero_le _) rfl) ⟨u, 0, none⟩ n cu (flatCells l) rfl HL.out HF.out (flatCells_one l) h1 ?c3 ?c4 ?c5 _ rfl ?_)
  case c3 => unfold maxLen; omega
  case c4 => omega
  case c5 => simp
  intro g cap w2 hown hg hat hlt
  have HE : Hid (CloneEnd l w (.returned (.slice (some ⟨g, 0, none⟩) n cap)) w2) := by
    refine Lib.hid ⟨g, cap, by rw [HN.out], ?_, (hown.lt g rfl).1, ?_, ?_, ?_⟩
    · rw [← HN.out] at hown
      exact secs_own HA.out hown
    · rw [HN.out]
      rcases hown.2 with ⟨h0, _⟩ | ⟨g', cap', cur, h0, _, _, h3, _⟩
      · cases h0
      · simp only [Value.slice.injEq] at h0; omega
    · rcases hown.2 with ⟨h0, _⟩ | ⟨g', cap', cur, h0, _, _, _, h3, _⟩
      · cases h0
      · simp only [Value.slice.injEq] at h0; omega
    · refine ((Below.refl w.heap.size w).alloc (Nat.le_refl _) _).grown hg (by simp) (fun k hk => ?_)
      simp only [Value.ownBlock, Option.some.injEq] at hk
      omega
  clear hown hg hat hlt
  go_wp2
  go_ret
  exact HE.out
end Go.Proofs.YtjeabnlmanfplaaGreatDoor
