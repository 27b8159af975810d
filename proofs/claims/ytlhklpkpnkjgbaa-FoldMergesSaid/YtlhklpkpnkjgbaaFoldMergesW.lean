/- The walk of FoldMerges. -/
import Derived.Test.YtlhklpkpnkjgbaaFoldL
namespace Go.Proofs.Ytlhklpkpnkjgbaa
open Go.Shelf Go.RowKit Go.Lib Go.Sort

set_option maxHeartbeats 4000000 in
set_option maxRecDepth 100000 in
theorem FoldMerges_walk {w : World} {A1 A2 : Option Addr} {c1 c2 : Nat} {xs ys : List Wr} (h1 : WrsAt w w.heap.size A1 xs) (hx : xs.length ≤ 9223372036854775807 ∧ (A1 = none → c1 = 0)) (h2 : WrsAt w w.heap.size A2 ys) (hy : ys.length ≤ 9223372036854775807 ∧ (A2 = none → c2 = 0)) :
    Calls Try.prog 4 #[.slice A1 xs.length c1, .slice A2 ys.length c2] w fun e w' => e = .returned (.bool true) ∧ Below w.heap.size w w' := by
  have H1 := Lib.hid h1
  have H2 := Lib.hid h2
  have hxl := hx.1
  have hyl := hy.1
  have HXn := Lib.hid hx.2
  have HYn := Lib.hid hy.2
  have HB0 := Lib.hid (Below.refl w.heap.size w)
  clear h1 h2 hx hy
  by_cases hx2 : xs.length ≤ 200
  · have hxz : ¬ 200 < (xs.length : Int) := by omega
    by_cases hy2 : ys.length ≤ 200
    · have hyz : ¬ 200 < (ys.length : Int) := by omega
      have HJl : Hid ((xs ++ ys).length ≤ 1000) := Lib.hid (by rw [List.length_append]; omega)
      have HMl : Hid ((foldW (xs ++ ys)).length ≤ 9223372036854775807) := Lib.hid (by have := foldW_len (xs ++ ys); have := HJl.out; omega)
      have HMg : Hid (foldW (foldW xs ++ foldW ys) = foldW (xs ++ ys)) := Lib.hid (foldW_merge xs ys)
      have HFx : Hid ((foldW xs).length ≤ 400) := Lib.hid (by have := foldW_len xs; omega)
      have HFy : Hid ((foldW ys).length ≤ 400) := Lib.hid (by have := foldW_len ys; omega)
      have HLen : Hid ((xs ++ ys).length = xs.length + ys.length) := Lib.hid List.length_append
      have HRF : Hid (∀ A c w1, WrsAt w1 w1.heap.size A (xs ++ ys) → Calls Try.prog 11 #[.slice A (xs.length + ys.length) c] w1 (WrsEnd (foldW (xs ++ ys)) w1)) := Lib.hid (fun A c w1 h => by
        have := RefFold_any (c := c) h HJl.out
        rw [HLen.out] at this
        exact this)
      obtain ⟨M, hM⟩ : ∃ M, foldW (xs ++ ys) = M := ⟨_, rfl⟩
      have HM := Lib.hid hM
      rw [hM] at HMl HMg HRF
      obtain ⟨X, hX⟩ : ∃ X, foldW xs = X := ⟨_, rfl⟩
      have HX := Lib.hid hX
      rw [hX] at HMg HFx
      obtain ⟨Y, hY⟩ : ∃ Y, foldW ys = Y := ⟨_, rfl⟩
      have HY := Lib.hid hY
      rw [hY] at HMg HFy
      clear hM hX hY
      go_enter Try.func4, Try.ntmps4
      go_wp2_with fail
      refine (Merge_any H1.out H2.out ⟨by omega, HXn.out⟩ ⟨by omega, HYn.out⟩).mono ?_
      rw [HM.out]
      rintro e w1 ⟨B1, d1, rfl, hB1, _, hb1⟩
      have K1 := Lib.hid hB1
      clear hB1
      have HB1 : Hid (Below w.heap.size w w1) := Lib.hid (HB0.out.trans (hb1.mono HB0.out.size))
      clear hb1
      go_wp2_with fail
      refine (Join_any (H1.out.next HB1.out) (H2.out.next HB1.out) ⟨by omega, HXn.out⟩ ⟨by omega, HYn.out⟩).mono ?_
      rintro e w2 ⟨B2, d2, rfl, hB2, _, hb2⟩
      rw [HLen.out]
      have K2 := Lib.hid hB2
      have K12 := Lib.hid (K1.out.next hb2)
      clear hB2
      have HB2 : Hid (Below w.heap.size w w2) := Lib.hid (HB1.out.trans (hb2.mono HB1.out.size))
      clear hb2
      go_wp2_with fail
      refine (HRF.out _ _ _ K2.out).mono ?_
      rintro e w3 ⟨B3, d3, rfl, hB3, _, hb3⟩
      have K3 := Lib.hid hB3
      have K13 := Lib.hid (K12.out.next hb3)
      clear hB3
      have HB3 : Hid (Below w.heap.size w w3) := Lib.hid (HB2.out.trans (hb3.mono HB2.out.size))
      clear hb3
      go_wp2_with fail
      refine (RefEqW_any K13.out K3.out HMl.out).mono ?_
      rw [eqW_self]
      rintro e w4 ⟨rfl, hb4⟩
      have K14 := Lib.hid (K13.out.next hb4)
      have HB4 : Hid (Below w.heap.size w w4) := Lib.hid (HB3.out.trans (hb4.mono HB3.out.size))
      clear hb4
      go_wp2_with fail
      refine (Fold_any (H1.out.next HB4.out) (by omega)).mono ?_
      rw [HX.out]
      rintro e w5 ⟨B5, d5, rfl, hB5, hn5, hb5⟩
      have K5 := Lib.hid hB5
      have N5 := Lib.hid hn5
      have K15 := Lib.hid (K14.out.next hb5)
      clear hB5 hn5
      have HB5 : Hid (Below w.heap.size w w5) := Lib.hid (HB4.out.trans (hb5.mono HB4.out.size))
      clear hb5
      go_wp2_with fail
      refine (Fold_any (H2.out.next HB5.out) (by omega)).mono ?_
      rw [HY.out]
      rintro e w6 ⟨B6, d6, rfl, hB6, hn6, hb6⟩
      have K6 := Lib.hid hB6
      have N6 := Lib.hid hn6
      have K16 := Lib.hid (K15.out.next hb6)
      have K56 := Lib.hid (K5.out.next hb6)
      clear hB6 hn6
      have HB6 : Hid (Below w.heap.size w w6) := Lib.hid (HB5.out.trans (hb6.mono HB5.out.size))
      clear hb6
      go_wp2_with fail
      refine (Merge_any K56.out K6.out ⟨HFx.out, N5.out⟩ ⟨HFy.out, N6.out⟩).mono ?_
      rw [HMg.out]
      rintro e w7 ⟨B7, d7, rfl, hB7, _, hb7⟩
      have K7 := Lib.hid hB7
      have K17 := Lib.hid (K16.out.next hb7)
      clear hB7
      have HB7 : Hid (Below w.heap.size w w7) := Lib.hid (HB6.out.trans (hb7.mono HB6.out.size))
      clear hb7
      go_wp2_with fail
      refine (RefEqW_any K17.out K7.out HMl.out).mono ?_
      rw [eqW_self]
      rintro e w8 ⟨rfl, hb8⟩
      have HB8 : Hid (Below w.heap.size w w8) := Lib.hid (HB7.out.trans (hb8.mono HB7.out.size))
      clear hb8
      go_wp2_with fail
      refine (awake8_any _).mono ?_
      rintro e wz ⟨rfl, hbz⟩
      have HBz : Hid (Below w.heap.size w wz) := Lib.hid (HB8.out.trans (hbz.mono HB8.out.size))
      clear hbz
      go_wp2_with fail
      go_ret
      exact ⟨rfl, HBz.out⟩
    · have hyz : 200 < (ys.length : Int) := by omega
      go_enter Try.func4, Try.ntmps4
      go_wp2_with fail
      refine (awake8_any _).mono ?_
      rintro e wz ⟨rfl, hbz⟩
      have HBz : Hid (Below w.heap.size w wz) := Lib.hid (HB0.out.trans (hbz.mono HB0.out.size))
      clear hbz
      go_wp2_with fail
      go_ret
      exact ⟨rfl, HBz.out⟩
  · have hxz : 200 < (xs.length : Int) := by omega
    go_enter Try.func4, Try.ntmps4
    go_wp2_with fail
    refine (awake8_any _).mono ?_
    rintro e wz ⟨rfl, hbz⟩
    have HBz : Hid (Below w.heap.size w wz) := Lib.hid (HB0.out.trans (hbz.mono HB0.out.size))
    clear hbz
    go_wp2_with fail
    go_ret
    exact ⟨rfl, HBz.out⟩
end Go.Proofs.Ytlhklpkpnkjgbaa
