/- The walk of SnapNotes. -/
import Derived.Test.YtaenlcokgplgkaaSnapS
import Derived.Test.YtaenlcokgplgkaaSnapR
namespace Go.Proofs.Ytaenlcokgplgkaa
open Go.Shelf Go.RowKit Go.Lib Go.Sort

set_option maxHeartbeats 4000000 in
set_option maxRecDepth 100000 in
theorem SnapNotes_walk {w : World} {A A2 A3 : Option Addr} {c c2 c3 : Nat} {vs : List Vl} {ks ws : List Wr} (h2 : WrsAt w w.heap.size A2 ks) (hn : ks.length ≤ 9223372036854775807 ∧ (A2 = none → c2 = 0)) (h : VolsAt w w.heap.size A vs) (hf : VolsFit vs) (h3 : WrsAt w w.heap.size A3 ws) (_ : ws.length ≤ 9223372036854775807 ∧ (A3 = none → c3 = 0)) (most : Int) :
    Calls Try.prog 3 #[.slice A2 ks.length c2, .slice A vs.length c, .slice A3 ws.length c3, .int .i64 most] w fun e w' => e = .returned (.bool true) ∧ Below w.heap.size w w' := by
  have H1 := Lib.hid h
  have HF := Lib.hid hf
  have H2 := Lib.hid h2
  have H3 := Lib.hid h3
  have HB0 := Lib.hid (Below.refl w.heap.size w)
  have HN := Lib.hid hn.2
  have hnl := hn.1
  clear h hf h2 h3 hn
  cases hs : smallB vs ws.length with
  | false =>
    have HS := Lib.hid hs
    clear hs
    go_enter Try.func3, Try.ntmps3
    go_wp2_with fail
    refine (Small_any H1.out HF.out _ _ _).mono ?_
    rw [HS.out]
    rintro e w' ⟨rfl, rfl⟩
    go_wp2_with fail
    refine (awake9_any _).mono ?_
    rintro e wz ⟨rfl, hbz⟩
    have HBz : Hid (Below w.heap.size w wz) := Lib.hid (HB0.out.trans (hbz.mono HB0.out.size))
    clear hbz
    go_wp2_with fail
    go_ret
    exact ⟨rfl, HBz.out⟩
  | true =>
    have HS := Lib.hid hs
    have hsm := ((smallB_iff _ _).1 hs).2.1
    clear hs
    by_cases h200 : ks.length ≤ 200
    · have hz : ¬ 200 < (ks.length : Int) := by omega
      have hR : Hid ((noteR ks ws vs most).length ≤ 9223372036854775807) := Lib.hid (by have := noteR_len (ks := ks) (ws := ws) (vs := vs) (most := most); omega)
      have HN4 : Hid (ks.length ≤ 400 ∧ (A2 = none → c2 = 0)) := Lib.hid ⟨by omega, HN.out⟩
      have hm4 : ws.length ≤ 400 := by omega
      have hk1 : ks.length ≤ 1000 := by omega
      go_enter Try.func3, Try.ntmps3
      go_wp2_with fail
      refine (Small_any H1.out HF.out _ _ _).mono ?_
      rw [HS.out]
      rintro e w' ⟨rfl, rfl⟩
      go_wp2_with fail
      refine (Note_any H1.out HF.out H2.out HN4.out H3.out hm4 most).mono ?_
      rintro e w1 ⟨B1, d1, rfl, hB1, _, hb1⟩
      have K1 := Lib.hid hB1
      clear hB1
      have HB1 : Hid (Below w.heap.size w w1) := Lib.hid (HB0.out.trans (hb1.mono HB0.out.size))
      clear hb1
      go_wp2_with fail
      refine (RefNote_any (H1.out.next HB1.out) HF.out (H2.out.next HB1.out) h200 (H3.out.next HB1.out) hsm most).mono ?_
      rintro e w2 ⟨B2, d2, rfl, hB2, _, hb2⟩
      have K2 := Lib.hid hB2
      have K12 := Lib.hid (K1.out.next hb2)
      clear hB2
      have HB2 : Hid (Below w.heap.size w w2) := Lib.hid (HB1.out.trans (hb2.mono HB1.out.size))
      clear hb2
      generalize noteR ks ws vs most = R at K1 K2 K12 hR ⊢
      generalize noteE ks ws vs most = E
      have hEE : (E == E) = true := by simp
      go_wp2_with fail
      refine (RefEqW_any K12.out K2.out hR.out).mono ?_
      rw [eqW_self]
      rintro e w3 ⟨rfl, hb3⟩
      have HB3 : Hid (Below w.heap.size w w3) := Lib.hid (HB2.out.trans (hb3.mono HB2.out.size))
      clear hb3
      go_wp2_with fail
      refine (SnapRight_any (H1.out.next HB3.out) HF.out (H2.out.next HB3.out) hk1).mono ?_
      rintro e w4 ⟨rfl, hb4⟩
      have HB4 : Hid (Below w.heap.size w w4) := Lib.hid (HB3.out.trans (hb4.mono HB3.out.size))
      clear hb4
      go_wp2_with fail
      refine (RefKeep_any (H1.out.next HB4.out) HF.out (H2.out.next HB4.out) hk1).mono ?_
      rintro e w5 ⟨rfl, hb5⟩
      have HB5 : Hid (Below w.heap.size w w5) := Lib.hid (HB4.out.trans (hb5.mono HB4.out.size))
      clear hb5
      generalize keepB ks vs = q
      have hqq : (q == q) = true := by simp
      go_wp2_with fail
      refine (awake9_any _).mono ?_
      rintro e wz ⟨rfl, hbz⟩
      have HBz : Hid (Below w.heap.size w wz) := Lib.hid (HB5.out.trans (hbz.mono HB5.out.size))
      clear hbz
      go_wp2_with fail
      go_ret
      exact ⟨rfl, HBz.out⟩
    · have hz : 200 < (ks.length : Int) := by omega
      go_enter Try.func3, Try.ntmps3
      go_wp2_with fail
      refine (Small_any H1.out HF.out _ _ _).mono ?_
      rw [HS.out]
      rintro e w' ⟨rfl, rfl⟩
      go_wp2_with fail
      refine (awake9_any _).mono ?_
      rintro e wz ⟨rfl, hbz⟩
      have HBz : Hid (Below w.heap.size w wz) := Lib.hid (HB0.out.trans (hbz.mono HB0.out.size))
      clear hbz
      go_wp2_with fail
      go_ret
      exact ⟨rfl, HBz.out⟩
end Go.Proofs.Ytaenlcokgplgkaa
