/- Folded writes: the fixed answer. -/
import Derived.Test.YtlhklpkpnkjgbaaFoldK
namespace Go.Proofs.Ytlhklpkpnkjgbaa
open Go.Shelf Go.RowKit Go.Lib Go.Sort

def wakeIn : List Wr := [⟨2, 0, ⟨#[97]⟩⟩, ⟨1, 3, ⟨#[98]⟩⟩, ⟨2, 0, ⟨#[99]⟩⟩]
theorem wake_fold : foldW wakeIn = [⟨1, 3, ⟨#[98]⟩⟩, ⟨2, 0, ⟨#[99]⟩⟩] := by
  simp [foldW, wakeIn, insW, ltW]

set_option maxHeartbeats 2000000 in
set_option maxRecDepth 100000 in
theorem awake8_any (w : World) : Calls Try.prog 9 #[] w fun e w' => e = .returned (.bool true) ∧ Below w.heap.size w w' := by
  obtain ⟨O, hO⟩ : ∃ O : Obj, O = .cells #[.int .i64 2, .int .i64 0, .string ⟨#[97]⟩, .int .i64 1, .int .i64 3, .string ⟨#[98]⟩, .int .i64 2, .int .i64 0, .string ⟨#[99]⟩] 44 := ⟨_, rfl⟩
  have hB : Below w.heap.size w (w.alloc O) := (Below.refl _ _).alloc (Nat.le_refl _) _
  have hW : WrsAt (w.alloc O) (w.alloc O).heap.size (some ⟨w.heap.size, 0, none⟩) wakeIn := by
    refine .inr ⟨w.heap.size, 0, rfl, by simp, fun i hi => ?_⟩
    have hi3 : i < 3 := hi
    subst hO
    match i, hi3 with
    | 0, _ => exact ⟨by rw [Lib.cell_of_heap (heap_alloc_new _ _)]; rfl, by rw [Lib.cell_of_heap (heap_alloc_new _ _)]; rfl, by rw [Lib.cell_of_heap (heap_alloc_new _ _)]; rfl⟩
    | 1, _ => exact ⟨by rw [Lib.cell_of_heap (heap_alloc_new _ _)]; rfl, by rw [Lib.cell_of_heap (heap_alloc_new _ _)]; rfl, by rw [Lib.cell_of_heap (heap_alloc_new _ _)]; rfl⟩
    | 2, _ => exact ⟨by rw [Lib.cell_of_heap (heap_alloc_new _ _)]; rfl, by rw [Lib.cell_of_heap (heap_alloc_new _ _)]; rfl, by rw [Lib.cell_of_heap (heap_alloc_new _ _)]; rfl⟩
  have HF : Hid (∀ c, Calls Try.prog 10 #[.slice (some ⟨w.heap.size, 0, none⟩) 3 c] (w.alloc O) (WrsEnd (foldW wakeIn) (w.alloc O))) := Lib.hid (fun c => Fold_any (c := c) hW (by decide))
  rw [wake_fold] at HF
  rw [hO] at HF hB
  have HB := Lib.hid hB
  have q1 := eql_write ⟨1, 3, ⟨#[98]⟩⟩ ⟨1, 3, ⟨#[98]⟩⟩
  have q2 := eql_write ⟨2, 0, ⟨#[99]⟩⟩ ⟨2, 0, ⟨#[99]⟩⟩
  rw [sameW_self] at q1 q2
  simp only at q1 q2
  have hgd := guard_write
  clear hW hB hO
  go_enter Try.func9, Try.ntmps9
  go_wp2_with fail
  refine (HF.out _).mono ?_
  rintro e w2 ⟨A2, c2, rfl, hA2, _, hb2⟩
  obtain ⟨b, off, hA, _, x1, x2, x3⟩ := hA2.at_ (Below.refl _ _) (i := 0) (by simp)
  obtain ⟨b', off', hA', _, y1, y2, y3⟩ := hA2.at_ (Below.refl _ _) (i := 1) (by simp)
  have HB2 : Hid (Below w.heap.size w w2) := Lib.hid (HB.out.trans (hb2.mono HB.out.size))
  subst hA
  cases hA'
  clear hA2 hb2
  simp only [List.getElem_cons_zero, List.getElem_cons_succ, Nat.zero_mul, Nat.add_zero, Nat.one_mul] at x1 x2 x3 y1 y2 y3
  simp only [List.length_cons, List.length_nil, Nat.zero_add, Nat.reduceAdd]
  go_wp2_with fail
  go_ret
  exact ⟨rfl, HB2.out⟩
end Go.Proofs.Ytlhklpkpnkjgbaa
