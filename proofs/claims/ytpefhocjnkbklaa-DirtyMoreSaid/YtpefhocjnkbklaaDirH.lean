/- Bitmaps: the table of masks in memory; contracts of list and Join. -/
import Derived.Test.YtpefhocjnkbklaaDirF
import Derived.Deep.WholeRow
import Derived.Laws.ResultCell
import Derived.BigRegion
import Derived.Deep.RegionLaw
namespace Go.Proofs.Ytpefhocjnkbklaa
open Go.RowKit

/-- The table's cells. -/
def mskCells (f : Nat → Nat) : Array Value := Array.ofFn (n := 256) fun i => Value.int .u64 (f i.val : Int)
theorem mskCells_size (f : Nat → Nat) : (mskCells f).size = 256 := by simp [mskCells]
theorem mskCells_at {f : Nat → Nat} {j : Nat} (hj : j < 256) : (mskCells f)[j]? = some (.int .u64 (f j : Int)) := by simp [mskCells, hj]
theorem mskCells_zero : mskCells noT = Array.replicate 256 (.int .u64 0) := by
  apply Array.ext
  · simp [mskCells]
  · intro i h1 h2
    simp [mskCells, noT]
theorem mskCells_set {f : Nat → Nat} {v x : Nat} : (mskCells f).setIfInBounds v (.int .u64 ((f v ||| x : Nat) : Int)) = mskCells (upd f (v, x)) := by
  apply Array.ext_getElem?
  intro i
  rw [Array.getElem?_setIfInBounds, mskCells_size]
  by_cases hi : i < 256
  · rw [mskCells_at hi, mskCells_at hi]
    unfold upd
    by_cases e : v = i
    · subst e; rw [if_pos rfl, if_pos hi, if_pos rfl]
    · rw [if_neg e, if_neg (fun h => e h.symm)]
  · have e1 : (mskCells f)[i]? = none := Array.getElem?_eq_none (by rw [mskCells_size]; omega)
    have e2 : (mskCells (upd f (v, x)))[i]? = none := Array.getElem?_eq_none (by rw [mskCells_size]; omega)
    rw [e1, e2]
    split
    · rename_i h; rw [if_neg (by omega)]
    · rfl
theorem Try.infoMasks : (Try.prog.info? 72).map (fun i => (i.zero, i.size)) = some (some (.agg (Array.replicate 256 (.int .u64 0))), 256) := by kernel_rfl

set_option maxHeartbeats 2000000 in
set_option maxRecDepth 100000 in
theorem list_any {w : World} {H : Nat} {f : Nat → Nat} (h : w.heap[H]? = some (.cells (mskCells f) 72 (0, 0))) :
    Calls Try.prog 41 #[.pointer (some ⟨H, 0, none⟩)] w (BtsEnd1 (listT f) w) := by
  have HH := Lib.hid h
  have hHs : H < w.heap.size := (Array.getElem?_eq_some_iff.1 h).1
  obtain ⟨i0, hi0, hz0, hz1, hz2⟩ := info_parts Try.infoBt
  obtain ⟨L, hL⟩ : ∃ L, listFrom f 0 256 = L := ⟨_, rfl⟩
  have HL := Lib.hid hL
  rw [show listT f = L from hL]
  clear h hL
  go_enter Try.func41, Try.ntmps41
  go_wp2_with fail
  go_loopg [3, 7] 256 (fun kx s3 s7 wr => ∃ (k : Nat) (ms : List Bt) (j : Nat), s7 = .int .i64 k ∧ k ≤ 256 ∧ 256 - k ≤ kx ∧ j ≤ k ∧ ms.length = j ∧ Hid (ms ++ listFrom f k (256 - k) = L) ∧ Hid (wr.ownsRow w.heap.size 66 2 s3 j (btCells ms)) ∧ Hid (Below w.heap.size w wr))
  case atStart => exact ⟨0, [], 0, rfl, Nat.zero_le _, by omega, Nat.le_refl _, rfl, Lib.hid HL.out, Lib.hid (World.ownsRow_nil _ _ _ _), Lib.hid (Below.refl _ _)⟩
  case round =>
    obtain ⟨k, ms, j, rfl, hk, hkx, hjk, hj, HM, HO, HB⟩ := hrel
    obtain ⟨A4, c4, h4, hxx⟩ := own_lies HO.out
    clear hxx
    subst h4
    by_cases hlt : k < 256
    · have hltz : (k : Int) < 256 := by omega
      have hk0 : (0 : Int) ≤ (k : Int) := Int.natCast_nonneg _
      have HHr : Hid (wr.heap[H]? = some (.cells (mskCells f) 72 (0, 0))) := Lib.hid (by rw [HB.out.block _ hHs]; exact HH.out)
      have hc := Lib.cell_of_heap HHr.out k
      rw [mskCells_at hlt] at hc
      have HO2 : Hid (∀ z, (wr.drewN z).ownsRow w.heap.size 66 2 (.slice A4 j c4) j (btCells ms)) := Lib.hid fun z => own_kept HO.out (below_q (Below.refl _ _) z)
      have HB2 : Hid (∀ z, Below w.heap.size w (wr.drewN z)) := Lib.hid fun z => below_q HB.out z
      obtain ⟨x, hx⟩ : ∃ x : Int, (f k : Int) = x := ⟨_, rfl⟩
      rw [hx] at hc
      by_cases h0 : f k = 0
      · have HM2 : Hid (ms ++ listFrom f (k + 1) (256 - (k + 1)) = L) := Lib.hid (by rw [← HM.out, show 256 - k = (256 - (k + 1)) + 1 from by omega, listFrom_zero h0])
        have hx0 : (x != 0) = false := by rw [← hx, h0]; rfl
        clear h0 hx HM HO HB HHr
        go_wp2_with fail
        go_quiet (fail)
        go_wp2_with fail
        go_roundg (256 - (k + 1))
        case measure => omega
        case rel => exact ⟨k + 1, ms, j, by go_num, by omega, Nat.le_refl _, by omega, hj, HM2, Lib.hid (HO2.out _), Lib.hid (HB2.out _)⟩
      · have HM2 : Hid ((ms ++ [⟨(k : Int), x⟩]) ++ listFrom f (k + 1) (256 - (k + 1)) = L) := Lib.hid (by rw [← HM.out, show 256 - k = (256 - (k + 1)) + 1 from by omega, listFrom_some h0, ← hx]; simp)
        have hx0 : (x != 0) = true := by rw [← hx, bne_iff_ne]; omega
        clear h0 hx HM HO HB HHr
        go_wp2_with fail
        go_quiet (fail)
        have HO3 := Lib.hid (HO2.out nq)
        have HB3 := Lib.hid (HB2.out nq)
        clear HO2 HB2 hc
        generalize wr.drewN nq = W2 at *
        go_wp2_with (at_builtin; refine wpList_append_own_at _ rfl (.tmp 15) (.tmp 19) 22 rfl w.heap.size 66 i0 (.agg #[.int .i64 0, .int .u64 0]) 2 16 Try.underlying22 hi0 hz0 hz1 hz2 rfl (by decide) (.slice A4 j c4) j _ rfl (HO3.out.alloc _) ⟨W2.heap.size, 0, none⟩ 1 1 [.int .i64 k, .int .u64 x] (by first | rfl | simp) rfl ?c3 (by intro u hu; simp at hu; rcases hu with rfl | rfl <;> rfl) ?c4 ?c5 ?c6 ?_)
        case c3 =>
          intro j u hj
          have := cell_two_new W2 (.int .i64 k) (.int .u64 x) 66 j u hj
          simpa using this
        case c4 => unfold maxLen; omega
        case c5 => omega
        case c6 => have := HB3.out.size; simp; omega
        intro v6 w6 hown hg _ _
        have HO6 : Hid (w6.ownsRow w.heap.size 66 2 v6 (j + 1) (btCells (ms ++ [⟨(k : Int), x⟩]))) := Lib.hid (by rw [btCells_append]; exact hown)
        have HB6 : Hid (Below w.heap.size w w6) := Lib.hid ((HB3.out.alloc HB3.out.size _).grown hg (by have := HB3.out.size; simp; omega) (fun q hq => (HO3.out.lt q hq).1))
        clear hown hg HO3 HB3
        go_wp2_with fail
        go_roundg (256 - (k + 1))
        case measure => omega
        case rel => exact ⟨k + 1, ms ++ [⟨(k : Int), x⟩], j + 1, by go_num, by omega, Nat.le_refl _, by omega, by simp [hj], HM2, HO6, HB6⟩
    · have hltz : ¬ (k : Int) < 256 := by omega
      have HE : Hid (BtsEnd1 L w (.returned (.slice A4 j c4)) wr) := Lib.hid (by
        have hm := HM.out
        rw [show 256 - k = 0 from by omega] at hm
        simp only [listFrom, List.append_nil] at hm
        subst hm
        have hO := HO.out
        rw [← hj] at hO ⊢
        exact own_endB1 hO HB.out)
      go_wp2_with fail
      go_ret
      exact HE.out
end Go.Proofs.Ytpefhocjnkbklaa
