/- The contract of seg.Cut. -/
import Derived.Test.YtlncedjgpndlpaaSegA
import Derived.Test.YtlncedjgpndlpaaItems
namespace Go.Proofs.Ytlncedjgpndlpaa
open Go.RowKit

/-- What Cut leaves: a list of texts of the call's own, the error. -/
def CutEnd (l : List UInt8) (n : Int) (w : World) (e : Ending) (w' : World) : Prop :=
  ∃ v, e = .returned (.tuple #[v, .int .i64 (cutE l n)]) ∧ w'.ownsRow w.heap.size 9 1 v (cutL l n).length ((cutL l n).map txt) ∧ Below w.heap.size w w'

/-- The cells while the pieces are laid. -/
def cutCells (l : List UInt8) (n of k : Nat) : Array Value := ((piecesK l n of k).map txt ++ List.replicate (of - k) (Value.string ⟨#[]⟩)).toArray
theorem cutCells_none (l : List UInt8) (n of : Nat) : cutCells l n of 0 = madeCells #[.string ⟨#[]⟩] of := by
  apply Array.ext
  · simp [cutCells, piecesK, madeCells]
  · intro i h1 h2
    simp [cutCells, piecesK, madeCells]
    rw [Nat.mod_one]
    rfl
theorem cutCells_at {l : List UInt8} {n of k : Nat} (h : k < of) : (cutCells l n of k)[k]? = some (.string ⟨#[]⟩) := by
  unfold cutCells
  rw [List.getElem?_toArray, List.getElem?_append_right (by rw [List.length_map, piecesK_len]; omega), List.length_map, piecesK_len, Nat.sub_self, List.getElem?_replicate, if_pos (by omega)]
theorem cutCells_step {l : List UInt8} {n of k : Nat} (h : k < of) (u : Value) (hu : u = txt (pieceN l n of k)) : (cutCells l n of k).setIfInBounds k u = cutCells l n of (k + 1) := by
  subst hu
  unfold cutCells
  rw [List.setIfInBounds_toArray, List.set_append, List.length_map, piecesK_len, if_neg (by omega), Nat.sub_self, show of - k = (of - (k + 1)) + 1 from by omega, List.replicate_succ, List.set_cons_zero, piecesK_snoc]
  simp
theorem cutCells_done (l : List UInt8) (n of : Nat) : (cutCells l n of of) = ((piecesK l n of of).map txt).toArray := by
  unfold cutCells; rw [Nat.sub_self]; simp

theorem heap_lt {w : World} {g : Nat} {o : Obj} (h : w.heap[g]? = some o) : g < w.heap.size := by
  rcases Nat.lt_or_ge g w.heap.size with h' | h'
  · exact h'
  · simp [Array.getElem?_eq_none h'] at h

/-- The part that Cut cuts out. -/
theorem cut_part (s : ByteArray) (n i m : Nat) (h : m = min (i * n + n) s.size) : (s.extract (i * n) m).data.toList = partN s.data.toList n i := by
  rw [Lib.extract_data, partN]
  rw [show m - i * n = min n (s.size - i * n) from by omega]
  by_cases hc : n ≤ s.size - i * n
  · rw [Nat.min_eq_left hc]
  · rw [Nat.min_eq_right (by omega), List.take_of_length_le (by rw [List.length_drop, list_length]; omega), List.take_of_length_le (by rw [List.length_drop, list_length]; omega)]

set_option maxRecDepth 100000 in
set_option maxHeartbeats 800000 in
theorem Cut_any (s : ByteArray) (n : Int) (w : World) (hs : s.size ≤ 1000000) :
    Calls Try.prog 10 #[.string s, .int .i64 n] w (CutEnd s.data.toList n w) := by
  by_cases hn1 : n < 1
  · obtain ⟨a, b⟩ := cut_arg (l := s.data.toList) (n := n) (.inl hn1)
    unfold CutEnd
    rw [a, b]
    clear a b
    go_enter Try.func10, Try.ntmps10
    go_wp2
    go_ret2
    exact ⟨_, rfl, World.ownsRow_nil _ _ _ _, Below.refl _ _⟩
  · by_cases hn2 : 508 < n
    · obtain ⟨a, b⟩ := cut_arg (l := s.data.toList) (n := n) (.inr hn2)
      unfold CutEnd
      rw [a, b]
      clear a b
      go_enter Try.func10, Try.ntmps10
      go_wp2
      go_ret2
      exact ⟨_, rfl, World.ownsRow_nil _ _ _ _, Below.refl _ _⟩
    · obtain ⟨m, rfl⟩ := Int.eq_ofNat_of_zero_le (show 0 ≤ n by omega)
      have hm1 : 1 ≤ m := by omega
      have hm2 : m ≤ 508 := by omega
      clear hn1 hn2
      have hcl := cnt_le s.size m hm1
      have hcp := cnt_pos s.size m
      have HIN : Hid (∀ i, i < cntN s.size m → i * m ≤ s.size) := Lib.hid (fun i hi => (cnt_in hm1 hi).1)
      have HC : Hid (∀ W : World, Calls Try.prog 16 #[.int .i64 s.size, .int .i64 m] W fun e w' => e = .returned (.int .i64 (cntN s.size m)) ∧ W = w') := Lib.hid (fun W => count_any s.size m W hm1 hm2 (by omega))
      by_cases hlong : 65535 < cntN s.size m
      · obtain ⟨a, b⟩ := cut_long (l := s.data.toList) (n := m) hm1 hm2 (by rw [list_length]; exact hlong)
        unfold CutEnd
        rw [a, b]
        clear a b
        generalize cntN s.size m = of at *
        go_enter Try.func10, Try.ntmps10
        go_wp2_with fail
        refine (HC.out _).mono ?_
        rintro e w1 ⟨rfl, rfl⟩
        go_wp2
        go_ret2
        exact ⟨_, rfl, World.ownsRow_nil _ _ _ _, Below.refl _ _⟩
      · obtain ⟨a, b⟩ := cut_ok (l := s.data.toList) (n := m) hm1 hm2 (by rw [list_length]; omega)
        unfold CutEnd
        rw [a, b]
        clear a b
        unfold piecesN
        rw [list_length]
        generalize cntN s.size m = of at *
        rw [piecesK_len]
        have hmk := fun W => run_make_row' (P := Try.prog) 23 9 (.string ⟨#[]⟩) 16 Try.underlying23 Try.infoStr rfl .i64 .i64 of (by omega) (by omega) W
        go_enter Try.func10, Try.ntmps10
        go_wp2_with fail
        refine (HC.out _).mono ?_
        rintro e w1 ⟨rfl, rfl⟩
        clear HC
        go_wp2
        go_loopw [8, 25] (fun x i wr => ∃ k : Nat, k ≤ of ∧ i = .int .i64 k ∧ Hid (wr.heap[w.heap.size]? = some (.cells (cutCells s.data.toList m of k) 9 (0, 0))) ∧ Below w.heap.size w wr) (fun _ i _ => of - (intOf i).toNat)
        case atStart =>
          refine ⟨0, by omega, rfl, ?_, (Below.refl _ _).alloc (Nat.le_refl _) _⟩
          rw [cutCells_none]; exact Lib.hid (heap_alloc_new _ _)
        case round =>
          obtain ⟨k, hk, rfl, HB, hbel⟩ := hrel
          by_cases hlt : k < of
          · have hin := HIN.out k hlt
            obtain ⟨a, ha⟩ : ∃ a, a = k * m := ⟨_, rfl⟩
            rw [← ha] at hin
            have e1 : (k : Int) * (m : Int) = (a : Int) := by rw [ha]; exact (Int.natCast_mul _ _).symm
            have e2 : ((k : Int) + 1) * (m : Int) = ((a + m : Nat) : Int) := by rw [ha, Int.add_mul, Int.one_mul, ← Int.natCast_mul, ← Int.natCast_add]
            have HP : Hid (∀ q, q = min (a + m) s.size → (s.extract a q).data.toList = partN s.data.toList m k) := Lib.hid (fun q hq => by rw [ha] at hq ⊢; exact cut_part s m k q hq)
            clear ha
            have HS : Hid (∀ (q : Nat) (W : World), q ≤ s.size → Calls Try.prog 17 #[.int .i64 k, .int .i64 of, .string (s.extract a q)] W fun e w' => e = .returned (.string (str (enc 2 k ++ enc 2 of ++ (s.extract a q).data.toList))) ∧ Below W.heap.size W w') := Lib.hid (fun q W hq => seal_any k of _ W (by omega) (by omega) (by rw [ByteArray.size_extract]; omega))
            by_cases hmin : a + m ≤ s.size
            · have HP2 := Lib.hid (HP.out (a + m) (by omega))
              clear HP
              have hcut : ((a + m : Nat) : Int) ≤ (s.size : Int) := by omega
              go_wp2_with fail
              refine (HS.out _ _ hmin).mono ?_
              rintro e w2 ⟨rfl, hb2⟩
              have hwlt : w.heap.size < wr.heap.size := heap_lt HB.out
              have HB2 := Lib.hid ((hb2.block _ hwlt).trans HB.out)
              have hbel2 := hbel.trans (hb2.mono hbel.size)
              have hc := Lib.cell_of_heap HB2.out k
              rw [cutCells_at hlt] at hc
              have hf := Lib.frozen_of_heap HB2.out k
              rw [HP2.out]
              clear HB hbel hb2 HS
              go_wp2
              go_roundw
              case rel =>
                refine ⟨k + 1, by omega, by go_num, ?_, hbel2.setCell (Nat.le_refl _) _⟩
                rw [← cutCells_step hlt _ rfl]
                exact Lib.hid (row_set HB2.out k _)
              case measure => simp [intOf]; omega
            · have HP2 := Lib.hid (HP.out s.size (by omega))
              clear HP
              go_wp2_with fail
              refine (HS.out _ _ (Nat.le_refl _)).mono ?_
              rintro e w2 ⟨rfl, hb2⟩
              have hwlt : w.heap.size < wr.heap.size := heap_lt HB.out
              have HB2 := Lib.hid ((hb2.block _ hwlt).trans HB.out)
              have hbel2 := hbel.trans (hb2.mono hbel.size)
              have hc := Lib.cell_of_heap HB2.out k
              rw [cutCells_at hlt] at hc
              have hf := Lib.frozen_of_heap HB2.out k
              rw [HP2.out]
              clear HB hbel hb2 HS
              go_wp2
              go_roundw
              case rel =>
                refine ⟨k + 1, by omega, by go_num, ?_, hbel2.setCell (Nat.le_refl _) _⟩
                rw [← cutCells_step hlt _ rfl]
                exact Lib.hid (row_set HB2.out k _)
              case measure => simp [intOf]; omega
          · obtain rfl : k = of := by omega
            go_wp2
            go_ret2
            refine ⟨_, rfl, ⟨by rw [List.length_map, piecesK_len, Nat.mul_one], .inr ⟨w.heap.size, _, _, rfl, Nat.le_refl _, HB.out, Nat.le_refl _, by unfold maxLen; omega, ?_, ?_⟩⟩, hbel⟩
            · rw [cutCells_done]; simp [piecesK_len]
            · rw [cutCells_done, Nat.mul_one]
              exact List.take_of_length_le (by simp [piecesK_len])
end Go.Proofs.Ytlncedjgpndlpaa
