/- The walk of RingPieces. -/
import Derived.Test.YtndclhccfelghaaRingP
import Derived.Deep.QuietTactic
import Derived.BigQuiet
namespace Go.Proofs.Ytndclhccfelghaa
open Go.RowKit

theorem below_drewN {B : Nat} {a w : World} (h : Below B a w) (n : Nat) : Below B a (w.drewN n) := ⟨h.os, h.tape, h.output, h.size, h.block⟩

/-- How many places lie in the first i pieces. -/
def before (l : List (Int × Int)) (i : Nat) : Int := ((l.take i).map Prod.snd).sum

theorem before_zero (l : List (Int × Int)) : before l 0 = 0 := rfl
theorem before_succ (l : List (Int × Int)) (i : Nat) (h : i < l.length) : before l (i + 1) = before l i + l[i].2 := by
  unfold before
  rw [List.take_succ_eq_append_getElem h, List.map_append, List.sum_append]
  simp

/-- What pieces are asked to be. -/
def Good (size from_ n : Int) (l : List (Int × Int)) : Prop :=
  l.length ≤ 2 ∧ before l l.length = n ∧ ∀ i, (h : i < l.length) → 1 ≤ l[i].2 ∧ (0 < i → l[i].1 = 0) ∧ 0 ≤ l[i].1 ∧ l[i].1 ≤ 4096 ∧ 0 ≤ before l i ∧ before l i + l[i].2 ≤ n ∧ ∀ k : Int, 0 ≤ k → k < l[i].2 → (from_ + (before l i + k)) % size = l[i].1 + k

theorem pieces_good {size from_ n : Int} (hp : Place size from_) (h5 : 0 ≤ n) (h6 : n ≤ size) : Good size from_ n (pieces size from_ n) := by
  obtain ⟨h1, h2, h3, h4⟩ := hp
  unfold pieces
  split
  · next h => exact ⟨by simp, by simp [before, h], fun i h => by simp at h⟩
  · split
    · next h0 h =>
      refine ⟨by simp, by simp [before], fun i hi => ?_⟩
      obtain rfl : i = 0 := by simpa using hi
      refine ⟨by show 1 ≤ n; omega, by omega, h3, by show from_ ≤ 4096; omega, by simp [before], by simp [before], fun k hk1 hk2 => ?_⟩
      show (from_ + (0 + k)) % size = from_ + k
      have hk3 : k < n := hk2
      rw [Int.zero_add]
      exact Int.emod_eq_of_lt (by omega) (by omega)
    · next h0 h =>
      refine ⟨by simp, by simp [before]; omega, fun i hi => ?_⟩
      have hi2 : i < 2 := by simpa using hi
      rcases (show i = 0 ∨ i = 1 by omega) with rfl | rfl
      · refine ⟨by show 1 ≤ size - from_; omega, by omega, h3, by show from_ ≤ 4096; omega, by simp [before], by show 0 + (size - from_) ≤ n; omega, fun k hk1 hk2 => ?_⟩
        show (from_ + (0 + k)) % size = from_ + k
        have hk3 : k < size - from_ := hk2
        rw [Int.zero_add]
        exact Int.emod_eq_of_lt (by omega) (by omega)
      · have hb : before [(from_, size - from_), (0, n - (size - from_))] 1 = size - from_ := by simp [before]
        rw [hb]
        refine ⟨by show 1 ≤ n - (size - from_); omega, fun _ => rfl, by show (0 : Int) ≤ 0; omega, by show (0 : Int) ≤ 4096; omega, by omega, by show size - from_ + (n - (size - from_)) ≤ n; omega, fun k hk1 hk2 => ?_⟩
        have hk3 : k < n - (size - from_) := hk2
        show (from_ + (size - from_ + k)) % size = 0 + k
        rw [show from_ + (size - from_ + k) = k + size from by omega, Int.add_emod_right, Int.zero_add]
        exact Int.emod_eq_of_lt (by omega) (by omega)

set_option maxHeartbeats 1600000 in
set_option maxRecDepth 100000 in
theorem RingPieces_ok (size from_ n : Int) (w : World) (hp : Place size from_) (h5 : 0 ≤ n) (h6 : n ≤ size) :
    Calls Try.prog 5 #[.int .i64 size, .int .i64 from_, .int .i64 n] w fun e w' => e = .returned (.bool true) ∧ Below w.heap.size w w' := by
  have hgood := Lib.hid (pieces_good hp h5 h6)
  have hcon := Pieces_ok size from_ n w hp h5 h6
  obtain ⟨l, HL⟩ : ∃ l, Hid (pieces size from_ n = l) := ⟨_, Lib.hid rfl⟩
  rw [HL.out] at hgood hcon
  clear HL
  have hcon := Lib.hid hcon
  obtain ⟨h1, h2, h3, h4⟩ := hp
  obtain ⟨m, rfl⟩ := Int.eq_ofNat_of_zero_le h5
  go_enter Try.func5, Try.ntmps5
  go_wp2_with fail
  refine hcon.out.mono ?_
  rintro e w1 ⟨A, rfl, hlp, hb1⟩
  have hll : l.length ≤ 2 := hgood.out.1
  go_wp2_with fail
  refine (Right_yes _ _ _ ⟨h1, h2, h3, h4⟩).mono ?_
  rintro e w' ⟨rfl, rfl⟩
  go_wp2_with fail
  refine (Places_any _ _ _ _ ⟨h1, h2, h3, h4⟩ (by omega)).mono ?_
  rintro e w2 ⟨B, c, rfl, hlq, hb2⟩
  have hlp2 := hlp.next hb2
  have hb := below_next hb1 hb2
  clear hlp hb1 hb2
  go_wp2
  go_loopw [10, 50] (fun at_ i wr => ∃ i' : Nat, i' ≤ l.length ∧ i = .int .i64 i' ∧ at_ = .int .i64 (before l i') ∧ Below w.heap.size w wr ∧ Below w2.heap.size w2 wr) (fun _ i _ => l.length - (intOf i).toNat)
  case atStart => exact ⟨0, Nat.zero_le _, rfl, rfl, hb, Below.refl _ _⟩
  case round =>
    obtain ⟨i, hi, rfl, rfl, hbw, hbr⟩ := hrel
    by_cases hlt : i < l.length
    · obtain ⟨g1, g2, g3, g4, g5, g6, g7⟩ := hgood.out.2.2 i hlt
      have HS := Lib.hid (before_succ l i hlt)
      obtain ⟨b, off, rfl, hbb, hcs⟩ := (hlp2.below hbr).at_ (by intro h; have := pieceCells_length l; rw [h] at this; simp at this; omega)
      have hc0 := (hcs (2 * i) (by rw [pieceCells_length]; omega)).trans ((List.getElem?_eq_getElem _).symm.trans (pieceCells_fst l i hlt))
      have hc1 := (hcs (2 * i + 1) (by rw [pieceCells_length]; omega)).trans ((List.getElem?_eq_getElem _).symm.trans (pieceCells_snd l i hlt))
      rw [show off + 2 * i = off + i * 2 from by omega] at hc0
      rw [show off + (2 * i + 1) = off + i * 2 + 1 from by omega] at hc1
      clear hcs
      generalize l[i] = p at *
      obtain ⟨a, q⟩ := p
      simp only at *
      have HG := Lib.hid g7
      have hi1 : i ≤ 1 := by omega
      clear g7
      obtain ⟨d, hd⟩ := Int.eq_ofNat_of_zero_le g5
      have HD := Lib.hid hd
      rw [hd] at g5 g6 HG HS ⊢
      clear hd
      obtain ⟨q, rfl⟩ := Int.eq_ofNat_of_zero_le (show 0 ≤ q by omega)
      have hli : ((i : Nat) : Int) < l.length := by omega
      have hba : 0 < i → (a != 0) = false := fun h => by rw [g2 h]; rfl
      clear g2
      have hbw2 : Below w.heap.size w (wr.alloc (.cells #[.int .i64 a, .int .i64 q] 35)) := hbw.alloc hbw.size _
      have hbr2 : Below w2.heap.size w2 (wr.alloc (.cells #[.int .i64 a, .int .i64 q] 35)) := hbr.alloc hbr.size _
      have hnew : (wr.alloc (.cells #[.int .i64 a, .int .i64 q] 35)).heap[wr.heap.size]? = some (.cells #[.int .i64 a, .int .i64 q] 35) := heap_alloc_new _ _
      have hp0 := Lib.cell_of_heap hnew 0
      have hp1 := Lib.cell_of_heap hnew 1
      clear hnew
      obtain ⟨bb, bo, rfl, hbbb, hcq⟩ := (hlq.below hbr2).at_ (by intro h; have := places_length size from_ m; rw [h] at this; simp at this; omega)
      have HQ : Hid (∀ k : Nat, k < q → (wr.alloc (.cells #[.int .i64 a, .int .i64 q] 35)).cell? ⟨bb, bo + (d + k), none⟩ = some (.int .i64 (a + k))) := Lib.hid (fun k hk => by
        rw [hcq (d + k) (by rw [places_length]; omega), places_at, Int.natCast_add, HG.out k (by omega) (by omega)])
      clear hcq
      have H0 := Lib.hid hp0
      have H1 := Lib.hid hp1
      clear hp0 hp1
      by_cases h0 : 0 < i
      · have hb0 := hba h0
        clear hba
        go_wp2
        generalize wr.alloc (.cells #[.int .i64 a, .int .i64 q] 35) = W at *
        go_loopw [10, 13] (fun at_ k W' => ∃ k' z p : Nat, k' ≤ q ∧ k = .int .i64 k' ∧ at_ = .int .i64 p ∧ Hid (d + k' = p) ∧ W' = W.drewN z) (fun _ k _ => q - (intOf k).toNat)
        case atStart => exact ⟨0, 0, d, Nat.zero_le _, rfl, rfl, Lib.hid rfl, rfl⟩
        case round =>
          obtain ⟨k, z, p, hk, rfl, rfl, HP, rfl⟩ := hrel
          have hpl : p ≤ d + k := Nat.le_of_eq HP.out.symm
          have hpg : d + k ≤ p := Nat.le_of_eq HP.out
          have hp0 := H0.out
          have hp1 := H1.out
          by_cases hkq : k < q
          · have hqq := HQ.out k hkq
            rw [HP.out] at hqq
            have hp6 : p < 4096 := by omega
            have hpm : p < m := by omega
            have hm1 : decide (m ≤ p) = false := by rw [decide_eq_false_iff_not]; omega
            have HP2 : Hid (d + (k + 1) = p + 1) := Lib.hid (by omega)
            have hs1 : IntKind.i64.wrap (a + (k : Int)) = a + k := IntWalk.i64_in _ (by omega)
            go_wp2
            go_quiet (fail)
            clear hs1
            go_wp2
            go_roundw
            case rel => exact ⟨k + 1, _, p + 1, by omega, by go_num, by go_num, HP2, rfl⟩
            case measure => simp [intOf]; omega
          · have HE : Hid (before l (i + 1) = (p : Int)) := Lib.hid (by rw [HS.out]; omega)
            go_wp2
            go_roundw
            case rel => exact ⟨i + 1, by omega, by go_num, by rw [HE.out], below_drewN hbw2 _, below_drewN hbr2 _⟩
            case measure => simp [intOf]; omega
      · clear hba
        go_wp2
        generalize wr.alloc (.cells #[.int .i64 a, .int .i64 q] 35) = W at *
        go_loopw [10, 13] (fun at_ k W' => ∃ k' z p : Nat, k' ≤ q ∧ k = .int .i64 k' ∧ at_ = .int .i64 p ∧ Hid (d + k' = p) ∧ W' = W.drewN z) (fun _ k _ => q - (intOf k).toNat)
        case atStart => exact ⟨0, 0, d, Nat.zero_le _, rfl, rfl, Lib.hid rfl, rfl⟩
        case round =>
          obtain ⟨k, z, p, hk, rfl, rfl, HP, rfl⟩ := hrel
          have hpl : p ≤ d + k := Nat.le_of_eq HP.out.symm
          have hpg : d + k ≤ p := Nat.le_of_eq HP.out
          have hp0 := H0.out
          have hp1 := H1.out
          by_cases hkq : k < q
          · have hqq := HQ.out k hkq
            rw [HP.out] at hqq
            have hp6 : p < 4096 := by omega
            have hpm : p < m := by omega
            have hm1 : decide (m ≤ p) = false := by rw [decide_eq_false_iff_not]; omega
            have HP2 : Hid (d + (k + 1) = p + 1) := Lib.hid (by omega)
            have hs1 : IntKind.i64.wrap (a + (k : Int)) = a + k := IntWalk.i64_in _ (by omega)
            go_wp2
            go_quiet (fail)
            clear hs1
            go_wp2
            go_roundw
            case rel => exact ⟨k + 1, _, p + 1, by omega, by go_num, by go_num, HP2, rfl⟩
            case measure => simp [intOf]; omega
          · have HE : Hid (before l (i + 1) = (p : Int)) := Lib.hid (by rw [HS.out]; omega)
            go_wp2
            go_roundw
            case rel => exact ⟨i + 1, by omega, by go_num, by rw [HE.out], below_drewN hbw2 _, below_drewN hbr2 _⟩
            case measure => simp [intOf]; omega
    · have HE : Hid (before l i = (m : Int)) := Lib.hid (by rw [show i = l.length from by omega]; exact hgood.out.2.1)
      rw [HE.out]
      go_wp2_with (go_at_call 11; refine (RingAwake_any _).mono ?_; rintro e w' ⟨rfl, rfl⟩)
      go_ret
      exact ⟨rfl, hbw⟩

set_option maxHeartbeats 400000 in
theorem RingPieces_no (size from_ n : Int) (w : World) (h : ¬ (Place size from_ ∧ 0 ≤ n ∧ n ≤ size)) :
    Calls Try.prog 5 #[.int .i64 size, .int .i64 from_, .int .i64 n] w fun e w' => e = .returned (.bool true) ∧ Below w.heap.size w w' := by
  by_cases hp : Place size from_
  · have h7 : n < 0 ∨ size < n := by simp only [hp, true_and] at h; omega
    go_enter Try.func5, Try.ntmps5
    go_wp2_with (first
      | (go_at_call 14; refine (Pieces_no _ _ _ _ h).mono ?_; rintro e w' ⟨rfl, rfl⟩)
      | (go_at_call 15; refine (Right_yes _ _ _ hp).mono ?_; rintro e w' ⟨rfl, rfl⟩)
      | (go_at_call 11; refine (RingAwake_any _).mono ?_; rintro e w' ⟨rfl, rfl⟩))
    all_goals
      go_ret
      exact ⟨rfl, Below.refl _ _⟩
  · go_enter Try.func5, Try.ntmps5
    go_wp2_with (first
      | (go_at_call 14; refine (Pieces_no _ _ _ _ h).mono ?_; rintro e w' ⟨rfl, rfl⟩)
      | (go_at_call 15; refine (Right_no _ _ _ hp).mono ?_; rintro e w' ⟨rfl, rfl⟩)
      | (go_at_call 11; refine (RingAwake_any _).mono ?_; rintro e w' ⟨rfl, rfl⟩))
    go_ret
    exact ⟨rfl, Below.refl _ _⟩

theorem RingPieces_walk (size from_ n : Int) (w : World) :
    Calls Try.prog 5 #[.int .i64 size, .int .i64 from_, .int .i64 n] w fun e w' => e = .returned (.bool true) ∧ Below w.heap.size w w' := by
  by_cases h : Place size from_ ∧ 0 ≤ n ∧ n ≤ size
  · exact RingPieces_ok size from_ n w h.1 h.2.1 h.2.2
  · exact RingPieces_no size from_ n w h
end Go.Proofs.Ytndclhccfelghaa
