/- Snapshots: contracts of Right, Back and Note, of the document's Right; the fixed answer. -/
import Derived.Test.YthajgoigmkkbgaaSnapQ
import Derived.Test.YthajgoigmkkbgaaFoldDoesW
import Derived.Test.YthajgoigmkkbgaaVolRa
namespace Go.Proofs.Ythajgoigmkkbgaa
open Go.Shelf Go.RowKit Go.Lib Go.Sort

theorem keep_no {ks : List Wr} {vs : List Vl} (h : checkE vs ks ≠ 0) : keepB ks vs = false := by unfold keepB; rw [if_neg h]
theorem keep_yes {ks : List Wr} {vs : List Vl} (h : checkE vs ks = 0) : keepB ks vs = eqW ks (foldW ks) := by unfold keepB; rw [if_pos h]
theorem keep_check {ks : List Wr} {vs : List Vl} (h : keepB ks vs = true) : checkE vs ks = 0 := ((keepB_iff _ _).1 h).1

set_option maxHeartbeats 1600000 in
set_option maxRecDepth 100000 in
theorem SnapRight_any {w : World} {A A2 : Option Addr} {c c2 : Nat} {vs : List Vl} {ks : List Wr} (h : VolsAt w w.heap.size A vs) (hf : VolsFit vs) (h2 : WrsAt w w.heap.size A2 ks) (hn : ks.length ≤ 1000) :
    Calls Try.prog 53 #[.slice A2 ks.length c2, .slice A vs.length c] w fun e w' => e = .returned (.bool (keepB ks vs)) ∧ Below w.heap.size w w' := by
  have H1 := Lib.hid h
  have HF := Lib.hid hf
  have H2 := Lib.hid h2
  have hl : ks.length ≤ 9223372036854775807 := by omega
  have HB0 := Lib.hid (Below.refl w.heap.size w)
  clear h hf h2
  by_cases h0 : checkE vs ks = 0
  · rw [keep_yes h0]
    have H0 := Lib.hid h0
    obtain ⟨q, hq⟩ : ∃ q, eqW ks (foldW ks) = q := ⟨_, rfl⟩
    have HQ := Lib.hid hq
    rw [hq]
    clear h0 hq
    go_enter Try.func53, Try.ntmps53
    go_wp2_with fail
    refine (Check_any H1.out HF.out H2.out hl).mono ?_
    rw [H0.out]
    rintro e w1 ⟨rfl, hb1⟩
    have HB1 : Hid (Below w.heap.size w w1) := Lib.hid (HB0.out.trans (hb1.mono HB0.out.size))
    clear hb1
    go_wp2_with fail
    refine (Folded_any (H2.out.next HB1.out) (Nat.le_trans hn (by omega))).mono ?_
    rw [HQ.out]
    rintro e w2 ⟨rfl, hb2⟩
    have HB2 : Hid (Below w.heap.size w w2) := Lib.hid (HB1.out.trans (hb2.mono HB1.out.size))
    clear hb2
    go_wp2_with fail
    go_ret
    exact ⟨rfl, HB2.out⟩
  · rw [keep_no h0]
    obtain ⟨E, hE⟩ : ∃ E, checkE vs ks = E := ⟨_, rfl⟩
    rw [hE] at h0
    have h0' : (E == 0) = false := by rw [beq_eq_false_iff_ne]; exact h0
    have HE := Lib.hid hE
    clear hE h0
    go_enter Try.func53, Try.ntmps53
    go_wp2_with fail
    refine (Check_any H1.out HF.out H2.out hl).mono ?_
    rw [HE.out]
    rintro e w1 ⟨rfl, hb1⟩
    have HB1 : Hid (Below w.heap.size w w1) := Lib.hid (HB0.out.trans (hb1.mono HB0.out.size))
    clear hb1
    go_wp2_with fail
    go_ret
    exact ⟨rfl, HB1.out⟩

/-! ### Back -/

noncomputable def backE (ks : List Wr) (vs : List Vl) : Int := if keepB ks vs = true then 0 else 1
noncomputable def backV (ks : List Wr) (vs : List Vl) : List Vl := if keepB ks vs = true then applyV vs ks else []

set_option maxHeartbeats 1600000 in
set_option maxRecDepth 100000 in
theorem Back_any {w : World} {A A2 : Option Addr} {c c2 : Nat} {vs : List Vl} {ks : List Wr} (h : VolsAt w w.heap.size A vs) (hf : VolsFit vs) (h2 : WrsAt w w.heap.size A2 ks) (hn : ks.length ≤ 1000) :
    Calls Try.prog 28 #[.slice A2 ks.length c2, .slice A vs.length c] w (VolsEnd (backV ks vs) (backE ks vs) w) := by
  have H1 := Lib.hid h
  have HF := Lib.hid hf
  have H2 := Lib.hid h2
  have hl : ks.length ≤ 9223372036854775807 := by omega
  have HB0 := Lib.hid (Below.refl w.heap.size w)
  clear h hf h2
  cases hk : keepB ks vs with
  | true =>
    rw [show backV ks vs = applyV vs ks from by unfold backV; rw [if_pos hk], show backE ks vs = 0 from by unfold backE; rw [if_pos hk]]
    have HK := Lib.hid hk
    have H0 := Lib.hid (keep_check hk)
    obtain ⟨V, hV⟩ : ∃ V, applyV vs ks = V := ⟨_, rfl⟩
    have HV := Lib.hid hV
    rw [hV]
    clear hk hV
    go_enter Try.func28, Try.ntmps28
    go_wp2_with fail
    refine (SnapRight_any H1.out HF.out H2.out hn).mono ?_
    rw [HK.out]
    rintro e w1 ⟨rfl, hb1⟩
    have HB1 : Hid (Below w.heap.size w w1) := Lib.hid (HB0.out.trans (hb1.mono HB0.out.size))
    clear hb1
    go_wp2_with fail
    refine (Apply_any (H1.out.next HB1.out) HF.out (H2.out.next HB1.out) hl).mono ?_
    rw [H0.out, HV.out]
    rintro e w2 ⟨A3, c3, rfl, hA3, hb2⟩
    have HE : Hid (VolsEnd V 0 w (.returned (.tuple #[.slice A3 V.length c3, .int .i64 0])) w2) := Lib.hid ⟨A3, c3, rfl, hA3, HB1.out.trans (hb2.mono HB1.out.size)⟩
    clear hA3 hb2
    go_wp2_with fail
    go_ret2
    exact HE.out
  | false =>
    rw [show backV ks vs = [] from by unfold backV; rw [hk]; rfl, show backE ks vs = 1 from by unfold backE; rw [hk]; rfl]
    have HK := Lib.hid hk
    clear hk
    go_enter Try.func28, Try.ntmps28
    go_wp2_with fail
    refine (SnapRight_any H1.out HF.out H2.out hn).mono ?_
    rw [HK.out]
    rintro e w1 ⟨rfl, hb1⟩
    have HB1 : Hid (Below w.heap.size w w1) := Lib.hid (HB0.out.trans (hb1.mono HB0.out.size))
    clear hb1
    go_wp2_with fail
    go_ret2
    exact VolsEnd.none_ _ HB1.out

/-! ### Note -/

theorem WrsErr.mk_ {us : List Wr} {n : Int} {w w' : World} {A : Option Addr} {c : Nat} (h : WrsAt w' w'.heap.size A us) (hn : A = none → c = 0) (hb : Below w.heap.size w w') : WrsErr us n w (.returned (.tuple #[.slice A us.length c, .int .i64 n])) w' := ⟨A, c, rfl, h, hn, hb⟩

set_option maxHeartbeats 4000000 in
set_option maxRecDepth 100000 in
theorem Note_any {w : World} {A A2 A3 : Option Addr} {c c2 c3 : Nat} {vs : List Vl} {ks ws : List Wr} (h : VolsAt w w.heap.size A vs) (hf : VolsFit vs) (h2 : WrsAt w w.heap.size A2 ks) (hn : ks.length ≤ 400 ∧ (A2 = none → c2 = 0)) (h3 : WrsAt w w.heap.size A3 ws) (hm : ws.length ≤ 400) (most : Int) :
    Calls Try.prog 27 #[.slice A2 ks.length c2, .slice A vs.length c, .slice A3 ws.length c3, .int .i64 most] w (WrsErr (noteR ks ws vs most) (noteE ks ws vs most) w) := by
  have H1 := Lib.hid h
  have HF := Lib.hid hf
  have H2 := Lib.hid h2
  have H3 := Lib.hid h3
  have HN := Lib.hid hn
  have hk1 : ks.length ≤ 1000 := by omega
  have hm1 : ws.length ≤ 1000 := by omega
  have hl : ws.length ≤ 9223372036854775807 := by omega
  have HB0 := Lib.hid (Below.refl w.heap.size w)
  clear h hf h2 h3 hn
  cases hk : keepB ks vs with
  | false =>
    rw [(note_bad hk).1, (note_bad hk).2]
    have HK := Lib.hid hk
    clear hk
    go_enter Try.func27, Try.ntmps27
    go_wp2_with fail
    refine (SnapRight_any H1.out HF.out H2.out hk1).mono ?_
    rw [HK.out]
    rintro e w1 ⟨rfl, hb1⟩
    have HB1 : Hid (Below w.heap.size w w1) := Lib.hid (HB0.out.trans (hb1.mono HB0.out.size))
    clear hb1
    go_wp2_with fail
    go_ret2
    exact WrsErr.none_ _ HB1.out
  | true =>
    have HK := Lib.hid hk
    by_cases h0 : checkE vs ws = 0
    · have H0 := Lib.hid h0
      have HG : Hid (pickEr vs (marksW ws) = 0) := Lib.hid (fold_takes h0).1
      have HMl : Hid ((marksW ws).length ≤ 1000) := Lib.hid (by have := foldW_len ws; unfold marksW; rw [List.length_map]; omega)
      have HPl : Hid ((pickV vs (marksW ws)).length ≤ 400) := Lib.hid (by
        unfold pickV; rw [if_pos (fold_takes h0).1, pickL_length]; have := foldW_len ws; unfold marksW; rw [List.length_map]; omega)
      have HEnd : Hid (∀ (A : Option Addr) (c : Nat) (w' : World), WrsAt w' w'.heap.size A (noteN ks ws vs) → (A = none → c = 0) → Below w.heap.size w w' → ¬ most < ((noteN ks ws vs).length : Int) → WrsErr (noteR ks ws vs most) (noteE ks ws vs most) w (.returned (.tuple #[.slice A (noteN ks ws vs).length c, .int .i64 0])) w') := Lib.hid (fun A c w' h1 h2 h3 h4 => by
        rw [(note_fine hk h0 h4).1, (note_fine hk h0 h4).2]
        exact ⟨A, c, rfl, h1, h2, h3⟩)
      have HFull : Hid (∀ (w' : World), Below w.heap.size w w' → most < ((noteN ks ws vs).length : Int) → WrsErr (noteR ks ws vs most) (noteE ks ws vs most) w (.returned (.tuple #[.slice none 0 0, .int .i64 15])) w') := Lib.hid (fun w' h3 h4 => by
        rw [(note_full hk h0 h4).1, (note_full hk h0 h4).2]
        exact WrsErr.none_ _ h3)
      have HNN : Hid (noteN ks ws vs = foldW (pickV vs (marksW ws) ++ ks)) := Lib.hid rfl
      clear hk h0
      generalize noteR ks ws vs most = R at HEnd HFull ⊢
      generalize noteE ks ws vs most = E at HEnd HFull ⊢
      generalize noteN ks ws vs = L at HEnd HFull HNN
      obtain ⟨M, hM⟩ : ∃ M, marksW ws = M := ⟨_, rfl⟩
      have HM := Lib.hid hM
      rw [hM] at HMl HPl HG HNN
      obtain ⟨P, hP⟩ : ∃ P, pickV vs M = P := ⟨_, rfl⟩
      have HP := Lib.hid hP
      rw [hP] at HPl HNN
      clear hM hP
      go_enter Try.func27, Try.ntmps27
      go_wp2_with fail
      refine (SnapRight_any H1.out HF.out H2.out hk1).mono ?_
      rw [HK.out]
      rintro e w1 ⟨rfl, hb1⟩
      have HB1 : Hid (Below w.heap.size w w1) := Lib.hid (HB0.out.trans (hb1.mono HB0.out.size))
      clear hb1
      go_wp2_with fail
      refine (Check_any (H1.out.next HB1.out) HF.out (H3.out.next HB1.out) hl).mono ?_
      rw [H0.out]
      rintro e w2 ⟨rfl, hb2⟩
      have HB2 : Hid (Below w.heap.size w w2) := Lib.hid (HB1.out.trans (hb2.mono HB1.out.size))
      clear hb2
      go_wp2_with fail
      refine (Marks_any (H3.out.next HB2.out) (Nat.le_trans hm1 (by omega))).mono ?_
      rw [HM.out]
      rintro e w3 ⟨B3, d3, rfl, hB3, hb3⟩
      have K3 := Lib.hid hB3
      clear hB3
      have HB3 : Hid (Below w.heap.size w w3) := Lib.hid (HB2.out.trans (hb3.mono HB2.out.size))
      clear hb3
      go_wp2_with fail
      refine (Pick_any (H1.out.next HB3.out) HF.out K3.out (Nat.le_trans HMl.out (by omega))).mono ?_
      rw [HP.out, HG.out]
      rintro e w4 ⟨B4, d4, rfl, hB4, hn4, hb4⟩
      have K4 := Lib.hid hB4
      have N4 : Hid (P.length ≤ 400 ∧ (B4 = none → d4 = 0)) := Lib.hid ⟨HPl.out, hn4⟩
      clear hB4 hn4
      have HB4 : Hid (Below w.heap.size w w4) := Lib.hid (HB3.out.trans (hb4.mono HB3.out.size))
      clear hb4
      go_wp2_with fail
      refine (Merge_any K4.out (H2.out.next HB4.out) N4.out HN.out).mono ?_
      rw [← HNN.out]
      rintro e w5 ⟨B5, d5, rfl, hB5, hn5, hb5⟩
      have K5 := Lib.hid hB5
      have N5 := Lib.hid hn5
      clear hB5 hn5
      have HB5 : Hid (Below w.heap.size w w5) := Lib.hid (HB4.out.trans (hb5.mono HB4.out.size))
      clear hb5
      by_cases hlt : most < (L.length : Int)
      · have HQ := Lib.hid (HFull.out w5 HB5.out hlt)
        go_wp2_with fail
        go_ret2
        exact HQ.out
      · have HQ := Lib.hid (HEnd.out B5 d5 w5 K5.out N5.out HB5.out (by omega))
        go_wp2_with fail
        go_ret2
        exact HQ.out
    · rw [(note_no hk h0).1, (note_no hk h0).2]
      obtain ⟨E, hE⟩ : ∃ E, checkE vs ws = E := ⟨_, rfl⟩
      rw [hE] at h0 ⊢
      have h0' : (E != 0) = true := by rw [bne_iff_ne]; exact h0
      have HE := Lib.hid hE
      clear hE h0 hk
      go_enter Try.func27, Try.ntmps27
      go_wp2_with fail
      refine (SnapRight_any H1.out HF.out H2.out hk1).mono ?_
      rw [HK.out]
      rintro e w1 ⟨rfl, hb1⟩
      have HB1 : Hid (Below w.heap.size w w1) := Lib.hid (HB0.out.trans (hb1.mono HB0.out.size))
      clear hb1
      go_wp2_with fail
      refine (Check_any (H1.out.next HB1.out) HF.out (H3.out.next HB1.out) hl).mono ?_
      rw [HE.out]
      rintro e w2 ⟨rfl, hb2⟩
      have HB2 : Hid (Below w.heap.size w w2) := Lib.hid (HB1.out.trans (hb2.mono HB1.out.size))
      clear hb2
      go_wp2_with fail
      go_ret2
      exact WrsErr.none_ _ HB2.out
end Go.Proofs.Ythajgoigmkkbgaa
namespace Go.Proofs.Ythajgoigmkkbgaa
open Go.Shelf Go.RowKit Go.Lib Go.Sort

def wakeSV : List Vl := [(1, [⟨#[120]⟩, ⟨#[121]⟩])]
def wakeSW : List Wr := [⟨1, 0, ⟨#[122]⟩⟩]
theorem keep_nil {vs : List Vl} (h : rightB vs = true) : keepB [] vs = true := (keepB_iff _ _).2 ⟨by unfold checkE; rw [if_pos h]; rfl, trivial⟩
theorem wakeS_keep : keepB [] wakeSV = true := keep_nil (by decide)
theorem wakeS_check : checkE wakeSV wakeSW = 0 := by decide
theorem wakeS_list : noteN [] wakeSW wakeSV = [⟨1, 0, ⟨#[120]⟩⟩] := by rw [noteN_is wakeS_keep wakeS_check]; rfl
theorem wakeS_note : noteE [] wakeSW wakeSV 5 = 0 ∧ noteR [] wakeSW wakeSV 5 = [⟨1, 0, ⟨#[120]⟩⟩] := by
  have := note_fine (most := 5) wakeS_keep wakeS_check (by rw [wakeS_list]; decide)
  rw [wakeS_list] at this
  exact this

/-! ### Plain facts -/

theorem note_in {ks ws : List Wr} {vs : List Vl} (h : keepB ks vs = true) (h2 : checkE vs ws = 0) : keepB (noteN ks ws vs) vs = true := by
  obtain ⟨h1, _⟩ := (keepB_iff _ _).1 h
  obtain ⟨hr, hc1, _⟩ := right_apply h1
  obtain ⟨_, hc2, _⟩ := right_apply h2
  refine (keepB_iff _ _).2 ⟨?_, noteN_sorted _ _ _⟩
  rw [checkE_right hr]
  refine chk_of (fun x hx => ?_)
  have e := lastF_sorted (noteN_sorted ks ws vs) hx
  rw [noteN_tells h2] at e
  exact ⟨noteF_in hc1 hc2 e, noteF_short (rightB_good hr) hc1 hc2 e⟩
theorem note_same {ks ws : List Wr} {vs : List Vl} (h2 : checkE vs ws = 0) : noteN (noteN ks ws vs) ws vs = noteN ks ws vs :=
  sorted_ext (noteN_sorted _ _ _) (noteN_sorted _ _ _) (fun v b => by rw [noteN_tells h2, note_again (fun v b => noteN_tells h2 v b), noteN_tells h2])
theorem note_room {ks ws : List Wr} {vs : List Vl} (h : keepB ks vs = true) (h2 : checkE vs ws = 0) : (noteN ks ws vs).length ≤ (vs.map (fun v => v.2.length)).sum := by
  rw [noteN_is h h2]; exact noteL_len _ _ _
/-- A snapshot stays what it was. -/
theorem note_stays {ks ws : List Wr} {vs : List Vl} (h : keepB ks vs = true) (h2 : checkE vs ws = 0) :
    ks.length ≤ (noteN ks ws vs).length ∧ keepB (noteN ks ws vs) (applyV vs ws) = true ∧ applyV (applyV vs ws) (noteN ks ws vs) = applyV vs ks := by
  obtain ⟨h1, hs⟩ := (keepB_iff _ _).1 h
  obtain ⟨g1, g2⟩ := note_back h1 h2 (noteN_sorted ks ws vs) (fun v b => noteN_tells h2 v b)
  exact ⟨note_more hs (noteN_sorted _ _ _) (fun v b => noteN_tells h2 v b), (keepB_iff _ _).2 ⟨g1, noteN_sorted _ _ _⟩, g2⟩
theorem back_yes {ks : List Wr} {vs : List Vl} (h : keepB ks vs = true) : backV ks vs = applyV vs ks ∧ backE ks vs = 0 := by
  unfold backV backE; rw [if_pos h, if_pos h]; exact ⟨rfl, rfl⟩
theorem back_no {ks : List Wr} {vs : List Vl} (h : keepB ks vs = false) : backV ks vs = [] ∧ backE ks vs = 1 := by
  unfold backV backE; rw [h]; exact ⟨rfl, rfl⟩
theorem noteR_len {ks ws : List Wr} {vs : List Vl} {most : Int} : (noteR ks ws vs most).length ≤ ws.length + ks.length := by
  unfold noteR
  split
  · exact noteN_len
  · simp
end Go.Proofs.Ythajgoigmkkbgaa
