/- The walk of WiresSends. -/
import Derived.Test.YtfcpgkbbocadpaaWireK
import Derived.Test.YtfcpgkbbocadpaaWireO
namespace Go.Proofs.Ytfcpgkbbocadpaa
open Go.RowKit

set_option maxHeartbeats 4000000 in
set_option maxRecDepth 100000 in
theorem WiresSends_walk {w : World} {A : Option Addr} {c : Nat} (l : List WPk) (p : WPk) (h : WpAt w w.heap.size A l) (hx : l.length ≤ maxLen ∧ (A = none → c = 0) ∧ l.length ≤ c) (hp : p.s.length ≤ maxLen) :
    Calls Try.prog 3 #[.slice A l.length c, p.val] w fun e w' => e = .returned (.bool true) ∧ Below w.heap.size w w' := by
  unfold maxLen at hx hp
  have hb0 := below_one w (.cells #[.int .i64 p.to_, .string (str p.s)] 24)
  obtain ⟨V, hV⟩ : ∃ V, V = w.alloc (.cells #[.int .i64 p.to_, .string (str p.s)] 24) := ⟨_, rfl⟩
  have hpb := heap_new w (.cells #[.int .i64 p.to_, .string (str p.s)] 24 (0, 0))
  rw [← hV] at hb0 hpb
  have HB0 := Lib.hid hb0
  have HPb := Lib.hid hpb
  have HW := Lib.hid (h.next hb0)
  have HF := Lib.hid (few16_any (c := c) (h.next hb0) (by omega))
  have HV := Lib.hid hV
  have p0 : V.cell? ⟨w.heap.size, 0, none⟩ = some (.int .i64 p.to_) := Lib.cell_of_heap hpb 0
  have p1 : V.cell? ⟨w.heap.size, 1, none⟩ = some (.string (str p.s)) := Lib.cell_of_heap hpb 1
  obtain ⟨T, hT⟩ : ∃ T, str p.s = T := ⟨_, rfl⟩
  have hsz : T.size = p.s.length := by rw [← hT, str_size]
  have HTs := Lib.hid hsz
  have HX := Lib.hid hx
  unfold WPk.val
  clear h hb0 hpb hx hV
  by_cases hfew : fewW l = true
  case neg =>
    have HFe : Hid (fewW l = false) := Lib.hid (by cases h : fewW l with | true => exact absurd h hfew | false => rfl)
    rw [HFe.out] at HF
    clear hfew
    rw [hT] at p1 HV ⊢
    go_enter Try.func3, Try.ntmps3
    go_upto_region 1 with fail
    rw [← HV.out]
    go_wp2_with (first | (go_at_call 6; (with_reducible refine HF.out.mono ?_); rintro e w9 ⟨rfl, rfl⟩) | (go_at_call 7; (with_reducible refine (awake16_any _).mono ?_); rintro e w9 ⟨rfl, hb9⟩; have HB9 := Lib.hid hb9; clear hb9))
    go_ret
    exact ⟨rfl, below_next HB0.out HB9.out⟩
  rw [hfew] at HF
  obtain ⟨hf1, hf2⟩ := fewW_is hfew
  clear hfew
  by_cases hlong : 5000 < T.size
  · have hlong2 : (5000 : Int) < (T.size : Int) := by omega
    rw [hT] at p1 HV ⊢
    go_enter Try.func3, Try.ntmps3
    go_upto_region 1 with fail
    rw [← HV.out]
    go_wp2_with (first | (go_at_call 6; (with_reducible refine HF.out.mono ?_); rintro e w9 ⟨rfl, rfl⟩) | (go_at_call 7; (with_reducible refine (awake16_any _).mono ?_); rintro e w9 ⟨rfl, hb9⟩; have HB9 := Lib.hid hb9; clear hb9))
    go_ret
    exact ⟨rfl, below_next HB0.out HB9.out⟩
  have hlong2 : ¬ (5000 : Int) < (T.size : Int) := by omega
  have HSd := Lib.hid (WSend_any (c := c) p HW.out (by omega) HX.out.2.2 HX.out.2.1)
  rw [hT] at p1 HV HSd ⊢
  go_enter Try.func3, Try.ntmps3
  go_upto_region 1 with fail
  rw [← HV.out]
  go_upto_region 5 with (first | (go_at_call 6; (with_reducible refine HF.out.mono ?_); rintro e w9 ⟨rfl, rfl⟩) | (go_at_call 8; (with_reducible refine HSd.out.mono ?_); rintro e w2 ⟨A2, c2, rfl, hw2, _, hb2⟩; have HW2 := Lib.hid hw2; have HB2 := Lib.hid hb2; have HRf := Lib.hid (ref16_any (c := c) (HW.out.next hb2) (by omega)); clear hw2 hb2) | (go_at_call 10; (with_reducible refine HRf.out.mono ?_); rintro e w3 ⟨A3, c3, rfl, hw3, _, hn3, hb3⟩; have HW3 := Lib.hid hw3; have HN3 := Lib.hid hn3; have HB3 := Lib.hid hb3; have HRt := Lib.hid (DocRight16_any (c := c3) hw3 (by omega)); clear hw3 hn3 hb3) | (go_at_call 9; (with_reducible refine HRt.out.mono ?_); rintro e w4 ⟨rfl, rfl⟩))
  have HB7 := Lib.hid (below_next HB0.out (below_next HB2.out HB3.out))
  have HB8 := Lib.hid (below_next HB2.out HB3.out)
  have hlt0 := heap_lt16 HPb.out
  have q0 : w3.cell? ⟨w.heap.size, 0, none⟩ = some (.int .i64 p.to_) := by rw [HB8.out.cell (p := ⟨w.heap.size, 0, none⟩) hlt0]; exact p0
  have q1 : w3.cell? ⟨w.heap.size, 1, none⟩ = some (.string T) := by rw [HB8.out.cell (p := ⟨w.heap.size, 1, none⟩) hlt0]; exact p1
  have HW9 := Lib.hid (HW.out.next HB8.out)
  have HWR := Lib.hid (WRight_any (c := c) HW9.out (by omega) HX.out.2.2)
  clear p0 p1 hlt0
  obtain ⟨to_, s⟩ := p
  dsimp only at *
  cases hr : rightW l with
  | false =>
    have HE := Lib.hid (send_bad (p := ⟨to_, s⟩) (.inl hr))
    rw [hr] at HWR
    clear hr
    rw [HE.out.1, HE.out.2, List.length_nil]
    go_wp2_with (first | (go_at_call 11; (with_reducible refine HWR.out.mono ?_); rintro e w5 ⟨rfl, hb5⟩; have HB5 := Lib.hid hb5; clear hb5) | (go_at_call 7; (with_reducible refine (awake16_any _).mono ?_); rintro e w6 ⟨rfl, hb6⟩; have HB6 := Lib.hid hb6; clear hb6))
    go_ret
    exact ⟨rfl, below_next HB7.out (below_next HB5.out HB6.out)⟩
  | true =>
  rw [hr] at HWR
  have HR := Lib.hid hr
  clear hr
  by_cases t0 : to_ < 0
  · have HE := Lib.hid (send_bad (l := l) (p := ⟨to_, s⟩) (.inr (.inl t0)))
    rw [HE.out.1, HE.out.2, List.length_nil]
    go_wp2_with (first | (go_at_call 11; (with_reducible refine HWR.out.mono ?_); rintro e w5 ⟨rfl, hb5⟩; have HB5 := Lib.hid hb5; clear hb5) | (go_at_call 7; (with_reducible refine (awake16_any _).mono ?_); rintro e w6 ⟨rfl, hb6⟩; have HB6 := Lib.hid hb6; clear hb6))
    go_ret
    exact ⟨rfl, below_next HB7.out (below_next HB5.out HB6.out)⟩
  by_cases t1 : 1 < to_
  · have HE := Lib.hid (send_bad (l := l) (p := ⟨to_, s⟩) (.inr (.inr t1)))
    rw [HE.out.1, HE.out.2, List.length_nil]
    go_wp2_with (first | (go_at_call 11; (with_reducible refine HWR.out.mono ?_); rintro e w5 ⟨rfl, hb5⟩; have HB5 := Lib.hid hb5; clear hb5) | (go_at_call 7; (with_reducible refine (awake16_any _).mono ?_); rintro e w6 ⟨rfl, hb6⟩; have HB6 := Lib.hid hb6; clear hb6))
    go_ret
    exact ⟨rfl, below_next HB7.out (below_next HB5.out HB6.out)⟩
  have HNB : Hid (¬ (rightW l = false ∨ to_ < 0 ∨ 1 < to_)) := Lib.hid (fun e => by
    rcases e with e | e | e
    · rw [HR.out] at e; cases e
    · exact t0 e
    · exact t1 e)
  by_cases t2 : 4103 < T.size
  · have t2' : (4103 : Int) < (T.size : Int) := by omega
    have HE := Lib.hid (send_long (p := ⟨to_, s⟩) HNB.out (by dsimp only; omega))
    rw [HE.out.1, HE.out.2, List.length_nil]
    go_wp2_with (first | (go_at_call 11; (with_reducible refine HWR.out.mono ?_); rintro e w5 ⟨rfl, hb5⟩; have HB5 := Lib.hid hb5; clear hb5) | (go_at_call 7; (with_reducible refine (awake16_any _).mono ?_); rintro e w6 ⟨rfl, hb6⟩; have HB6 := Lib.hid hb6; clear hb6))
    go_ret
    exact ⟨rfl, below_next HB7.out (below_next HB5.out HB6.out)⟩
  have t2' : ¬ (4103 : Int) < (T.size : Int) := by omega
  by_cases t3 : 255 < l.length
  · have t3' : (255 : Int) < (l.length : Int) := by omega
    have HE := Lib.hid (send_full (p := ⟨to_, s⟩) HNB.out (by dsimp only; omega) t3)
    rw [HE.out.1, HE.out.2, List.length_nil]
    go_wp2_with (first | (go_at_call 11; (with_reducible refine HWR.out.mono ?_); rintro e w5 ⟨rfl, hb5⟩; have HB5 := Lib.hid hb5; clear hb5) | (go_at_call 7; (with_reducible refine (awake16_any _).mono ?_); rintro e w6 ⟨rfl, hb6⟩; have HB6 := Lib.hid hb6; clear hb6))
    go_ret
    exact ⟨rfl, below_next HB7.out (below_next HB5.out HB6.out)⟩
  have t3' : ¬ (255 : Int) < (l.length : Int) := by omega
  have HE := Lib.hid (send_ok (p := ⟨to_, s⟩) HNB.out (by dsimp only; omega) t3)
  obtain ⟨M, hM⟩ : ∃ M, l ++ [⟨to_, s⟩] = M := ⟨_, rfl⟩
  rw [hM] at HE
  have HM := Lib.hid hM
  have hMl : M.length ≤ 1000 := by rw [← hM, List.length_append]; simp; omega
  clear hM
  rw [HE.out.1, HE.out.2]
  go_upto_region 14 with fail
  have HQ := Lib.hid (fun W (hb : Below w3.heap.size w3 W) => (⟨by rw [hb.cell (p := ⟨w.heap.size, 0, none⟩) (World.block_lt_of_cell? _ _ q0)]; exact q0, by rw [hb.cell (p := ⟨w.heap.size, 1, none⟩) (World.block_lt_of_cell? _ _ q1)]; exact q1⟩ : W.cell? ⟨w.heap.size, 0, none⟩ = some (.int .i64 to_) ∧ W.cell? ⟨w.heap.size, 1, none⟩ = some (.string T)))
  have HRA := Lib.hid (fun W (hb : Below w3.heap.size w3 W) => ref16_any (c := c) (HW9.out.next hb) (by omega))
  have HPA : Hid (∀ W (b : Nat) A4 c4, WpAt W W.heap.size A4 l → W.heap[b]? = some (.cells #[.int .i64 to_, .string T] 35 (0, 0)) → Calls Try.prog 13 #[.slice A4 l.length c4, .int .i64 (l.length : Int), .slice (some ⟨b, 0, none⟩) 1 1] W (WpEnd M W)) := Lib.hid (fun W b A4 c4 h1 h2 => by
    have h3 : WpAt W W.heap.size (some ⟨b, 0, none⟩) [⟨to_, s⟩] := .inr ⟨b, 0, rfl, heap_lt16 h2, fun i hi => by
      obtain rfl : i = 0 := by simp at hi; omega
      exact ⟨Lib.cell_of_heap h2 0, by rw [← hT] at h2; exact Lib.cell_of_heap h2 1⟩⟩
    have := DocPut16_any (c := c4) (c2 := 1) l.length h1 h3 (fun e => by cases e) (Nat.le_refl _) (by omega) (by simp)
    rw [putW_end, HM.out] at this
    exact this)
  have HSA := Lib.hid (fun W A5 c5 (hb : Below w3.heap.size w3 W) (h5 : WpAt W W.heap.size A5 M) => same16_any (c1 := c2) (c2 := c5) ((HW2.out.next HB3.out).next hb) h5 (by rw [HE.out.2]; omega))
  have HWA := Lib.hid (fun W (hb : Below w3.heap.size w3 W) => WRight_any (c := c) (HW9.out.next hb) (by omega) HX.out.2.2)
  rw [HE.out.2] at HSA
  rw [HR.out] at HWA
  rw [decide_eq_true rfl] at HSA
  have HDr := Lib.hid ((Below.refl w3.heap.size w3).drew)
  clear HWR q0 q1 HF HSd HRf HRt HW HW2 HW3 HN3
  go_region_held3 (fun w' => w'.cell? ⟨w.heap.size, 0, none⟩ = some (.int .i64 to_) ∧ w'.cell? ⟨w.heap.size, 1, none⟩ = some (.string T)) (first | with_reducible exact HQ.out _ HDr.out | with_reducible exact HQ.out _ (below_one _ _).drew | with_reducible exact HQ.out _ HB10.out | with_reducible exact HQ.out _ (below_next HB10.out (below_one _ _)) | with_reducible exact HQ.out _ HB11.out | with_reducible exact HQ.out _ HB12.out | with_reducible exact HQ.out _ HB13.out | with_reducible exact HQ.out _ HB14.out) (first
    | (go_at_call 10; (with_reducible refine (HRA.out _ HDr.out).mono ?_); rintro e w10 ⟨A10, c10, rfl, hw10, _, _, hb10⟩; have HW10 := Lib.hid hw10; have HB10 := Lib.hid (below_next HDr.out hb10); clear hw10 hb10)
    | (go_at_call 10; (with_reducible refine (HRA.out _ (below_one _ _).drew).mono ?_); rintro e w10 ⟨A10, c10, rfl, hw10, _, _, hb10⟩; have HP10 := Lib.hid ((hb10.block w3.heap.size (heap_lt16 (heap_new w3 _))).trans (heap_new w3 _)); have HW10 := Lib.hid hw10; have HB10 := Lib.hid (below_next (below_one w3 _).drew hb10); clear hw10 hb10)
    | (go_at_call 13; (with_reducible refine (HPA.out _ _ _ _ (HW10.out.next (below_one _ _)) (heap_new _ _)).mono ?_); rintro e w11 ⟨A11, c11, rfl, hw11, _, _, hb11⟩; have HW11 := Lib.hid hw11; have HB11 := Lib.hid (below_next (below_next HB10.out (below_one _ _)) hb11); clear hw11 hb11)
    | (go_at_call 13; (with_reducible refine (HPA.out _ _ _ _ HW10.out HP10.out).mono ?_); rintro e w11 ⟨A11, c11, rfl, hw11, _, _, hb11⟩; have HW11 := Lib.hid hw11; have HB11 := Lib.hid (below_next HB10.out hb11); clear hw11 hb11)
    | (go_at_call 12; (with_reducible refine (HSA.out _ _ _ HB11.out HW11.out).mono ?_); rintro e w12 ⟨rfl, hb12⟩; have HB12 := Lib.hid (below_next HB11.out hb12); clear hb12)
    | (go_at_call 11; (with_reducible refine (HWA.out _ HB12.out).mono ?_); rintro e w13 ⟨rfl, hb13⟩; have HB13 := Lib.hid (below_next HB12.out hb13); clear hb13)
    | (go_at_call 7; (with_reducible refine (awake16_any _).mono ?_); rintro e w14 ⟨rfl, hb14⟩; have HB14 := Lib.hid (below_next HB13.out hb14); clear hb14))
  all_goals
    go_wp2_with fail
    go_ret
    exact ⟨rfl, below_next HB7.out HB14.out⟩
end Go.Proofs.Ytfcpgkbbocadpaa
