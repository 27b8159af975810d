/- Folded writes: contracts of the document's Marks. -/
import Derived.Test.YtlhklpkpnkjgbaaFoldH
namespace Go.Proofs.Ytlhklpkpnkjgbaa
open Go.Shelf Go.RowKit Go.Lib Go.Sort

set_option maxHeartbeats 4000000 in
set_option maxRecDepth 100000 in
theorem RefMarks_any {w : World} {A : Option Addr} {c : Nat} {ws : List Wr} (h : WrsAt w w.heap.size A ws) (hn : ws.length ≤ 1000) :
    Calls Try.prog 16 #[.slice A ws.length c] w (MksEnd (marksW ws) w) := by
  have HC : Hid (∀ c, Calls Try.prog 11 #[.slice A ws.length c] w (WrsEnd (foldW ws) w)) := Lib.hid (fun c => RefFold_any h hn)
  have hF : (foldW ws).length ≤ 1000 := by have := foldW_len ws; omega
  rw [show marksW ws = (foldW ws).map mkOf from rfl]
  obtain ⟨F, hFF⟩ : ∃ F, foldW ws = F := ⟨_, rfl⟩
  rw [hFF] at HC hF ⊢
  clear hFF h hn
  obtain ⟨i0, hi0, hz0, hz1, hz2⟩ := info_parts Try.infoMk
  obtain ⟨n, hnn⟩ : ∃ n, F.length = n := ⟨_, rfl⟩
  have HN := Lib.hid hnn
  rw [hnn] at hF
  go_enter Try.func16, Try.ntmps16
  go_wp2_with fail
  refine (HC.out _).mono ?_
  rintro e w1 ⟨A1, c1, rfl, hA1, _, hb1⟩
  have HV := Lib.hid hA1
  have HB1 := Lib.hid hb1
  rw [hnn]
  clear hA1 hb1 hnn HC
  go_wp2_with fail
  go_loopg [4, 5] n (fun kx s3 s9 wr => ∃ k : Nat, s9 = .int .i64 k ∧ k ≤ n ∧ n - k ≤ kx ∧ Hid (wr.ownsRow w1.heap.size 49 2 s3 k (mkCells ((F.take k).map mkOf))) ∧ Hid (Below w1.heap.size w1 wr))
  case atStart => exact ⟨0, rfl, Nat.zero_le _, by omega, Lib.hid (World.ownsRow_nil _ _ _ _), Lib.hid (Below.refl _ _)⟩
  case round =>
    obtain ⟨k, rfl, hk, hkx, HO, HB⟩ := hrel
    obtain ⟨A4, c4, h4, hxx⟩ := own_lies HO.out
    clear hxx
    subst h4
    by_cases hlt : k < n
    · have hltz : (k : Int) < (n : Int) := by omega
      have hkl : k < F.length := by rw [HN.out]; exact hlt
      obtain ⟨b, off, hA, hbl, x1, x2, x3⟩ := HV.out.at_ HB.out hkl
      have HT := Lib.hid (mkOf_take hkl)
      have hwz : w1.heap.size ≤ wr.heap.size := HB.out.size
      have hbw : b < wr.heap.size := by omega
      subst hA
      obtain ⟨x, hx⟩ : ∃ x, F[k] = x := ⟨_, rfl⟩
      rw [hx] at x1 x2 x3 HT
      clear hx hkl
      obtain ⟨vol, block, data⟩ := x
      simp only at x1 x2 x3 HT
      have p0 : (0 : Int) ≤ (k : Int) := Int.natCast_nonneg _
      have HOd : Hid (wr.drew.ownsRow w1.heap.size 49 2 (.slice A4 k c4) k (mkCells ((F.take k).map mkOf))) := Lib.hid HO.out
      have hsz : wr.drew.heap.size = wr.heap.size := rfl
      go_wp2_with fail
      go_region_law (refine step_append_lies _ (by rfl) _ _ _ (by rfl) w1.heap.size 49 i0 (.agg #[.int .i64 0, .int .i64 0]) 2 16 Try.underlying28 hi0 hz0 hz1 hz2 rfl (by decide) (.slice A4 k c4) k (mkCells ((F.take k).map mkOf)) (by rfl) (HOd.out.alloc _) ⟨wr.heap.size, 0, none⟩ 1 1 [.int .i64 vol, .int .i64 block] (by rfl) (by rfl) (cell_two_new _ _ _ _) (by simp [Value.oneCell']) (by omega) (by unfold maxLen; omega) (by omega) (by simp; omega) (wr.heap.size + 1) (by simp) ?_; intro g cap w6 hown hg hat hltg)
      all_goals
        have HO6 : Hid (w6.ownsRow w1.heap.size 49 2 (.slice (some ⟨g, 0, none⟩) (k + 1) cap) (k + 1) (mkCells ((F.take (k + 1)).map mkOf))) := Lib.hid (by rw [HT.out, mkCells_append]; first | exact hown | (rw [List.map_take]; exact hown))
        have HB6 : Hid (Below w1.heap.size w1 w6) := Lib.hid ((HB.out.drew.alloc hwz _).grown hg (by simp; omega) (fun q hq => (HO.out.lt q hq).1))
        clear hown hg hat hltg x1 x2 x3
        go_wp2_with fail
        go_roundg (n - (k + 1))
        case measure => omega
        case rel => exact ⟨k + 1, by go_num, by omega, Nat.le_refl _, HO6, HB6⟩
    · have hltz : ¬ (k : Int) < (n : Int) := by omega
      have HE : Hid (MksEnd (F.map mkOf) w (.returned (.slice A4 k c4)) wr) := Lib.hid (by
        have hO := HO.out
        have e1 : F.take k = F := List.take_of_length_le (by rw [HN.out]; omega)
        rw [e1] at hO
        have e2 : k = (F.map mkOf).length := by rw [List.length_map, HN.out]; omega
        rw [e2] at hO ⊢
        exact own_endM hO (HB1.out.trans (HB.out.mono HB1.out.size)))
      go_wp2_with fail
      go_ret
      exact HE.out
end Go.Proofs.Ytlhklpkpnkjgbaa
