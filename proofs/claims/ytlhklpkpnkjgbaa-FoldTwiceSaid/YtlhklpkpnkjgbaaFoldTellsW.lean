/- The walks of FoldTells and FoldTwice. -/
import Derived.Test.YtlhklpkpnkjgbaaFoldL
namespace Go.Proofs.Ytlhklpkpnkjgbaa
open Go.Shelf Go.RowKit Go.Lib Go.Sort

theorem bytes_le {ws : List Wr} (h : ∀ x ∈ ws, x.data.size ≤ 140737488351232) : bytesW ws ≤ ws.length * 140737488351240 := by
  induction ws with
  | nil => simp [bytesW]
  | cons x r ih =>
    rw [bytesW_cons, List.length_cons]
    have h1 := h x List.mem_cons_self
    have h2 := ih (fun y hy => h y (List.mem_cons_of_mem _ hy))
    omega
theorem bytes_fit {ws : List Wr} (h : ∀ x ∈ ws, x.data.size ≤ 140737488351232) (hl : ws.length ≤ 200) : bytesW ws ≤ 4611686018427387904 := by have := bytes_le h; omega

set_option maxHeartbeats 4000000 in
set_option maxRecDepth 100000 in
theorem FoldTells_walk {w : World} {A : Option Addr} {c : Nat} {ws : List Wr} (h : WrsAt w w.heap.size A ws) (hx : ws.length ≤ 9223372036854775807 ∧ (A = none → c = 0)) (hd : ∀ x ∈ ws, x.data.size ≤ 140737488351232) :
    Calls Try.prog 3 #[.slice A ws.length c] w fun e w' => e = .returned (.bool true) ∧ Below w.heap.size w w' := by
  have HV := Lib.hid h
  have hxl := hx.1
  by_cases h200 : ws.length ≤ 200
  · have hz : ¬ 200 < (ws.length : Int) := by omega
    have HBy := Lib.hid (bytes_fit hd h200)
    have hn : ws.length ≤ 1000 := by omega
    have hFl : (foldW ws).length ≤ 9223372036854775807 := by have := foldW_len ws; omega
    have HMl : Hid ((marksW ws).length ≤ 9223372036854775807) := Lib.hid (by unfold marksW; rw [List.length_map]; exact hFl)
    have HB0 := Lib.hid (Below.refl w.heap.size w)
    have HFl := Lib.hid hFl
    clear h hx hd hFl
    go_enter Try.func3, Try.ntmps3
    go_wp2_with fail
    refine (Fold_any HV.out hn).mono ?_
    rintro e w1 ⟨A1, c1, rfl, hA1, _, hb1⟩
    have H1 := Lib.hid hA1
    clear hA1
    have HB1 : Hid (Below w.heap.size w w1) := Lib.hid (HB0.out.trans (hb1.mono HB0.out.size))
    clear hb1
    go_wp2_with fail
    refine (RefFold_any (HV.out.next HB1.out) hn).mono ?_
    rintro e w2 ⟨A2, c2, rfl, hA2, _, hb2⟩
    have H2 := Lib.hid hA2
    have H12 := Lib.hid (H1.out.next hb2)
    clear hA2
    have HB2 : Hid (Below w.heap.size w w2) := Lib.hid (HB1.out.trans (hb2.mono HB1.out.size))
    clear hb2
    go_wp2_with fail
    refine (RefEqW_any H12.out H2.out HFl.out).mono ?_
    rw [eqW_self]
    rintro e w3 ⟨rfl, hb3⟩
    have H23 := Lib.hid (H2.out.next hb3)
    have HB3 : Hid (Below w.heap.size w w3) := Lib.hid (HB2.out.trans (hb3.mono HB2.out.size))
    clear hb3
    go_wp2_with fail
    refine (Folded_any (HV.out.next HB3.out) hn).mono ?_
    rintro e w4 ⟨rfl, hb4⟩
    have H24 := Lib.hid (H23.out.next hb4)
    have HB4 : Hid (Below w.heap.size w w4) := Lib.hid (HB3.out.trans (hb4.mono HB3.out.size))
    clear hb4
    go_wp2_with fail
    refine (RefEqW_any (HV.out.next HB4.out) H24.out hxl).mono ?_
    rintro e w5 ⟨rfl, hb5⟩
    have HB5 : Hid (Below w.heap.size w w5) := Lib.hid (HB4.out.trans (hb5.mono HB4.out.size))
    clear hb5
    generalize eqW ws (foldW ws) = q
    have hq : (q == q) = true := by simp
    go_wp2_with fail
    refine (Marks_any (HV.out.next HB5.out) hn).mono ?_
    rintro e w6 ⟨A6, c6, rfl, hA6, hb6⟩
    have H6 := Lib.hid hA6
    clear hA6
    have HB6 : Hid (Below w.heap.size w w6) := Lib.hid (HB5.out.trans (hb6.mono HB5.out.size))
    clear hb6
    go_wp2_with fail
    refine (RefMarks_any (HV.out.next HB6.out) hn).mono ?_
    rintro e w7 ⟨A7, c7, rfl, hA7, hb7⟩
    have H7 := Lib.hid hA7
    have H67 := Lib.hid (H6.out.next hb7)
    clear hA7
    have HB7 : Hid (Below w.heap.size w w7) := Lib.hid (HB6.out.trans (hb7.mono HB6.out.size))
    clear hb7
    go_wp2_with fail
    refine (SameMarks_any H67.out H7.out HMl.out).mono ?_
    rw [eqM_self]
    rintro e w8 ⟨rfl, hb8⟩
    have HB8 : Hid (Below w.heap.size w w8) := Lib.hid (HB7.out.trans (hb8.mono HB7.out.size))
    clear hb8
    go_wp2_with fail
    refine (Bytes_any (HV.out.next HB8.out) hxl HBy.out).mono ?_
    rintro e w9 ⟨rfl, hb9⟩
    have HB9 : Hid (Below w.heap.size w w9) := Lib.hid (HB8.out.trans (hb9.mono HB8.out.size))
    clear hb9
    go_wp2_with fail
    refine (RefBytes_any (HV.out.next HB9.out) hxl HBy.out).mono ?_
    rintro e w10 ⟨rfl, hb10⟩
    have HB10 : Hid (Below w.heap.size w w10) := Lib.hid (HB9.out.trans (hb10.mono HB9.out.size))
    clear hb10
    go_wp2_with fail
    refine (awake8_any _).mono ?_
    rintro e wz ⟨rfl, hbz⟩
    have HBz : Hid (Below w.heap.size w wz) := Lib.hid (HB10.out.trans (hbz.mono HB10.out.size))
    clear hbz
    go_wp2_with fail
    go_ret
    exact ⟨rfl, HBz.out⟩
  · have hz : 200 < (ws.length : Int) := by omega
    have HB0 := Lib.hid (Below.refl w.heap.size w)
    clear h hx hd
    go_enter Try.func3, Try.ntmps3
    go_wp2_with fail
    refine (awake8_any _).mono ?_
    rintro e wz ⟨rfl, hbz⟩
    have HBz : Hid (Below w.heap.size w wz) := Lib.hid (HB0.out.trans (hbz.mono HB0.out.size))
    clear hbz
    go_wp2_with fail
    go_ret
    exact ⟨rfl, HBz.out⟩

set_option maxHeartbeats 4000000 in
set_option maxRecDepth 100000 in
theorem FoldTwice_walk {w : World} {A : Option Addr} {c : Nat} {ws : List Wr} (h : WrsAt w w.heap.size A ws) (hx : ws.length ≤ 9223372036854775807 ∧ (A = none → c = 0)) (hd : ∀ x ∈ ws, x.data.size ≤ 140737488351232) :
    Calls Try.prog 7 #[.slice A ws.length c] w fun e w' => e = .returned (.bool true) ∧ Below w.heap.size w w' := by
  have HV := Lib.hid h
  have hxl := hx.1
  by_cases h200 : ws.length ≤ 200
  · have hz : ¬ 200 < (ws.length : Int) := by omega
    have HBy := Lib.hid (bytes_fit hd h200)
    have hn : ws.length ≤ 1000 := by omega
    have HTw : Hid (foldW (foldW ws) = foldW ws) := Lib.hid (foldW_twice ws)
    have hle : (foldW ws).length ≤ ws.length := foldW_len ws
    have hby : bytesW (foldW ws) ≤ bytesW ws := foldW_bytes ws
    obtain ⟨F, hF⟩ : ∃ F, foldW ws = F := ⟨_, rfl⟩
    have HF := Lib.hid hF
    rw [hF] at HTw hle hby
    have hlez : (F.length : Int) ≤ (ws.length : Int) := by omega
    have hFn : F.length ≤ 1000 := by omega
    have HFl : Hid (F.length ≤ 9223372036854775807) := Lib.hid (by omega)
    have HFb : Hid (bytesW F ≤ 4611686018427387904) := Lib.hid (Nat.le_trans hby HBy.out)
    have HB0 := Lib.hid (Below.refl w.heap.size w)
    obtain ⟨b1, hb1⟩ : ∃ b1, bytesW F = b1 := ⟨_, rfl⟩
    obtain ⟨b2, hb2⟩ : ∃ b2, bytesW ws = b2 := ⟨_, rfl⟩
    rw [hb1, hb2] at hby
    have hbz : (b1 : Int) ≤ (b2 : Int) := by omega
    have HB1' := Lib.hid hb1
    have HB2' := Lib.hid hb2
    clear h hx hd hF hb1 hb2 hle hby
    go_enter Try.func7, Try.ntmps7
    go_wp2_with fail
    refine (Fold_any HV.out hn).mono ?_
    rw [HF.out]
    rintro e w1 ⟨A1, c1, rfl, hA1, _, hb1⟩
    have H1 := Lib.hid hA1
    clear hA1
    have HB1 : Hid (Below w.heap.size w w1) := Lib.hid (HB0.out.trans (hb1.mono HB0.out.size))
    clear hb1
    go_wp2_with fail
    refine (Fold_any H1.out hFn).mono ?_
    rw [HTw.out]
    rintro e w2 ⟨A2, c2, rfl, hA2, _, hb2⟩
    have H2 := Lib.hid hA2
    have H12 := Lib.hid (H1.out.next hb2)
    clear hA2
    have HB2 : Hid (Below w.heap.size w w2) := Lib.hid (HB1.out.trans (hb2.mono HB1.out.size))
    clear hb2
    go_wp2_with fail
    refine (Folded_any H12.out hFn).mono ?_
    rw [HTw.out, eqW_self]
    rintro e w3 ⟨rfl, hb3⟩
    have H13 := Lib.hid (H12.out.next hb3)
    have H23 := Lib.hid (H2.out.next hb3)
    have HB3 : Hid (Below w.heap.size w w3) := Lib.hid (HB2.out.trans (hb3.mono HB2.out.size))
    clear hb3
    go_wp2_with fail
    refine (RefEqW_any H13.out H23.out HFl.out).mono ?_
    rw [eqW_self]
    rintro e w4 ⟨rfl, hb4⟩
    have H14 := Lib.hid (H13.out.next hb4)
    have HB4 : Hid (Below w.heap.size w w4) := Lib.hid (HB3.out.trans (hb4.mono HB3.out.size))
    clear hb4
    go_wp2_with fail
    refine (Bytes_any H14.out HFl.out HFb.out).mono ?_
    rw [HB1'.out]
    rintro e w5 ⟨rfl, hb5⟩
    have HB5 : Hid (Below w.heap.size w w5) := Lib.hid (HB4.out.trans (hb5.mono HB4.out.size))
    clear hb5
    go_wp2_with fail
    refine (Bytes_any (HV.out.next HB5.out) hxl HBy.out).mono ?_
    rw [HB2'.out]
    rintro e w6 ⟨rfl, hb6⟩
    have HB6 : Hid (Below w.heap.size w w6) := Lib.hid (HB5.out.trans (hb6.mono HB5.out.size))
    clear hb6
    go_wp2_with fail
    refine (awake8_any _).mono ?_
    rintro e wz ⟨rfl, hbz⟩
    have HBz : Hid (Below w.heap.size w wz) := Lib.hid (HB6.out.trans (hbz.mono HB6.out.size))
    clear hbz
    go_wp2_with fail
    go_ret
    exact ⟨rfl, HBz.out⟩
  · have hz : 200 < (ws.length : Int) := by omega
    have HB0 := Lib.hid (Below.refl w.heap.size w)
    clear h hx hd
    go_enter Try.func7, Try.ntmps7
    go_wp2_with fail
    refine (awake8_any _).mono ?_
    rintro e wz ⟨rfl, hbz⟩
    have HBz : Hid (Below w.heap.size w wz) := Lib.hid (HB0.out.trans (hbz.mono HB0.out.size))
    clear hbz
    go_wp2_with fail
    go_ret
    exact ⟨rfl, HBz.out⟩
end Go.Proofs.Ytlhklpkpnkjgbaa
