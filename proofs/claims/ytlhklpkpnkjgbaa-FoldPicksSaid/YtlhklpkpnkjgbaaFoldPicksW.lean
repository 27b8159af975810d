/- The walk of FoldPicks. -/
import Derived.Test.YtlhklpkpnkjgbaaFoldL
namespace Go.Proofs.Ytlhklpkpnkjgbaa
open Go.Shelf Go.RowKit Go.Lib Go.Sort

set_option maxHeartbeats 4000000 in
set_option maxRecDepth 100000 in
theorem FoldPicks_walk {w : World} {A1 A2 : Option Addr} {c1 c2 : Nat} {vs : List Vl} {ms : List Mk} (h1 : VolsAt w w.heap.size A1 vs) (hf : VolsFit vs) (h2 : MksAt w w.heap.size A2 ms) (hy : ms.length ≤ 9223372036854775807) :
    Calls Try.prog 5 #[.slice A1 vs.length c1, .slice A2 ms.length c2] w fun e w' => e = .returned (.bool true) ∧ Below w.heap.size w w' := by
  have H1 := Lib.hid h1
  have HF := Lib.hid hf
  have H2 := Lib.hid h2
  have HB0 := Lib.hid (Below.refl w.heap.size w)
  clear h1 h2 hf
  cases hs : smallB vs 0 with
  | false =>
    have HS := Lib.hid hs
    clear hs
    go_enter Try.func5, Try.ntmps5
    go_wp2_with fail
    refine (Small_any H1.out HF.out _ _ _).mono ?_
    rw [HS.out]
    rintro e w' ⟨rfl, rfl⟩
    go_wp2_with fail
    refine (awake8_any _).mono ?_
    rintro e wz ⟨rfl, hbz⟩
    have HBz : Hid (Below w.heap.size w wz) := Lib.hid (HB0.out.trans (hbz.mono HB0.out.size))
    clear hbz
    go_wp2_with fail
    go_ret
    exact ⟨rfl, HBz.out⟩
  | true =>
    have HS := Lib.hid hs
    clear hs
    by_cases hm2 : ms.length ≤ 200
    · have hmz : ¬ 200 < (ms.length : Int) := by omega
      have HPl : Hid ((pickV vs ms).length ≤ 9223372036854775807) := Lib.hid (by
        unfold pickV; split
        · rw [pickL_length]; omega
        · simp)
      obtain ⟨V, hV⟩ : ∃ V, pickV vs ms = V := ⟨_, rfl⟩
      have HV := Lib.hid hV
      obtain ⟨E, hE⟩ : ∃ E, pickEr vs ms = E := ⟨_, rfl⟩
      have HE := Lib.hid hE
      rw [hV] at HPl
      clear hV hE
      go_enter Try.func5, Try.ntmps5
      go_wp2_with fail
      refine (Small_any H1.out HF.out _ _ _).mono ?_
      rw [HS.out]
      rintro e w' ⟨rfl, rfl⟩
      go_wp2_with fail
      refine (Pick_any H1.out HF.out H2.out (by omega)).mono ?_
      rw [HV.out, HE.out]
      rintro e w1 ⟨B1, d1, rfl, hB1, _, hb1⟩
      have K1 := Lib.hid hB1
      clear hB1
      have HB1 : Hid (Below w.heap.size w w1) := Lib.hid (HB0.out.trans (hb1.mono HB0.out.size))
      clear hb1
      go_wp2_with fail
      refine (RefPick_any (H1.out.next HB1.out) HF.out (H2.out.next HB1.out) (by omega)).mono ?_
      rw [HV.out, HE.out]
      rintro e w2 ⟨B2, d2, rfl, hB2, _, hb2⟩
      have K2 := Lib.hid hB2
      have K12 := Lib.hid (K1.out.next hb2)
      clear hB2
      have HB2 : Hid (Below w.heap.size w w2) := Lib.hid (HB1.out.trans (hb2.mono HB1.out.size))
      clear hb2
      go_wp2_with fail
      refine (RefEqW_any K12.out K2.out HPl.out).mono ?_
      rw [eqW_self]
      rintro e w3 ⟨rfl, hb3⟩
      have HB3 : Hid (Below w.heap.size w w3) := Lib.hid (HB2.out.trans (hb3.mono HB2.out.size))
      clear hb3
      go_wp2_with fail
      refine (awake8_any _).mono ?_
      rintro e wz ⟨rfl, hbz⟩
      have HBz : Hid (Below w.heap.size w wz) := Lib.hid (HB3.out.trans (hbz.mono HB3.out.size))
      clear hbz
      go_wp2_with fail
      go_ret
      exact ⟨rfl, HBz.out⟩
    · have hmz : 200 < (ms.length : Int) := by omega
      go_enter Try.func5, Try.ntmps5
      go_wp2_with fail
      refine (Small_any H1.out HF.out _ _ _).mono ?_
      rw [HS.out]
      rintro e w' ⟨rfl, rfl⟩
      go_wp2_with fail
      refine (awake8_any _).mono ?_
      rintro e wz ⟨rfl, hbz⟩
      have HBz : Hid (Below w.heap.size w wz) := Lib.hid (HB0.out.trans (hbz.mono HB0.out.size))
      clear hbz
      go_wp2_with fail
      go_ret
      exact ⟨rfl, HBz.out⟩
end Go.Proofs.Ytlhklpkpnkjgbaa
