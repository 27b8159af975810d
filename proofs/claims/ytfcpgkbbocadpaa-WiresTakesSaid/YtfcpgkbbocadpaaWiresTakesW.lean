/- The walk of WiresTakes. -/
import Derived.Test.YtfcpgkbbocadpaaWireK
import Derived.Test.YtfcpgkbbocadpaaWireO
namespace Go.Proofs.Ytfcpgkbbocadpaa
open Go.RowKit

set_option maxHeartbeats 4000000 in
set_option maxRecDepth 100000 in
theorem WiresTakes_walk {w : World} {A : Option Addr} {c : Nat} (l : List WPk) (k at_ : Int) (b : UInt8) (h : WpAt w w.heap.size A l) (hx : l.length ≤ maxLen ∧ (A = none → c = 0) ∧ l.length ≤ c) :
    Calls Try.prog 4 #[.slice A l.length c, .int .i64 k, .int .i64 at_, .int .u8 (b.toNat : Int)] w fun e w' => e = .returned (.bool true) ∧ Below w.heap.size w w' := by
  unfold maxLen at hx
  have HW := Lib.hid h
  have HX := Lib.hid hx
  have HF := Lib.hid (few16_any (c := c) h (by omega))
  clear h hx
  by_cases hfew : fewW l = true
  case neg =>
    have HFe : Hid (fewW l = false) := Lib.hid (by cases h : fewW l with | true => exact absurd h hfew | false => rfl)
    rw [HFe.out] at HF
    clear hfew
    go_enter Try.func4, Try.ntmps4
    go_wp2_with (first | (go_at_call 6; (with_reducible refine HF.out.mono ?_); rintro e w9 ⟨rfl, rfl⟩) | (go_at_call 7; (with_reducible refine (awake16_any _).mono ?_); rintro e w14 ⟨rfl, hb14⟩; have HB14 := Lib.hid hb14; clear hb14))
    go_ret
    exact ⟨rfl, HB14.out⟩
  rw [hfew] at HF
  obtain ⟨hf1, hf2⟩ := fewW_is hfew
  clear hfew
  have HTk := Lib.hid (WTake_any (c := c) k HW.out (by omega) HX.out.2.2 HX.out.2.1)
  have HTw := Lib.hid (fun W (hb : Below w.heap.size w W) => WTwice_any (c := c) k (HW.out.next hb) (by omega) HX.out.2.2 HX.out.2.1)
  have HTn := Lib.hid (fun W (hb : Below w.heap.size w W) => WTurn_any (c := c) k at_ b (HW.out.next hb) (by omega) HX.out.2.2 HX.out.2.1)
  have HRa := Lib.hid (fun W (hb : Below w.heap.size w W) => ref16_any (c := c) (HW.out.next hb) (by omega))
  go_enter Try.func4, Try.ntmps4
  go_upto_region 7 with (first
    | (go_at_call 6; (with_reducible refine HF.out.mono ?_); rintro e w9 ⟨rfl, rfl⟩)
    | (go_at_call 14; (with_reducible refine HTk.out.mono ?_); rintro e w1 ⟨A1, c1, rfl, hw1, _, hb1⟩; have HW1 := Lib.hid hw1; have HB1 := Lib.hid hb1; clear hw1 hb1)
    | (go_at_call 15; (with_reducible refine (HTw.out _ (below_next HB1.out (below_one _ _))).mono ?_); rintro e w2 ⟨A2, c2, rfl, hw2, _, hb2⟩; have HW2 := Lib.hid hw2; have HB2 := Lib.hid hb2; clear hw2 hb2)
    | (go_at_call 16; (with_reducible refine (HTn.out _ (below_next (below_next HB1.out (below_one _ _)) HB2.out)).mono ?_); rintro e w3 ⟨A3, c3, rfl, hw3, _, hb3⟩; have HW3 := Lib.hid hw3; have HB3 := Lib.hid hb3; clear hw3 hb3)
    | (go_at_call 10; (with_reducible refine (HRa.out _ (below_next (below_next (below_next HB1.out (below_one _ _)) HB2.out) HB3.out)).mono ?_); rintro e w4 ⟨A4, c4, rfl, hw4, hc4, hn4, hb4⟩; have HW4 := Lib.hid hw4; have HC4 := Lib.hid hc4; have HN4 := Lib.hid hn4; have HB40 := Lib.hid hb4; clear hw4 hc4 hn4 hb4))
  have hV1 := heap_new w1 (.cells #[.int .i64 (takeWP l k).to_, .string (str (takeWP l k).s)] 24 (0, 0))
  have HB24 : Hid (Below (w1.alloc (.cells #[.int .i64 (takeWP l k).to_, .string (str (takeWP l k).s)] 24)).heap.size (w1.alloc (.cells #[.int .i64 (takeWP l k).to_, .string (str (takeWP l k).s)] 24)) w4) := Lib.hid (below_next (below_next HB2.out HB3.out) HB40.out)
  have HPv : Hid (w4.heap[w1.heap.size]? = some (.cells #[.int .i64 (takeWP l k).to_, .string (str (takeWP l k).s)] 24 (0, 0))) := Lib.hid ((HB24.out.block w1.heap.size (heap_lt16 hV1)).trans hV1)
  have HB4 := Lib.hid (below_next (below_next HB1.out (below_one _ _)) HB24.out)
  have HL0 := Lib.hid (HW.out.next HB4.out)
  have HL1 := Lib.hid (HW1.out.next (below_next (below_one _ _) HB24.out))
  have HL2 := Lib.hid (HW2.out.next (below_next HB3.out HB40.out))
  have HL3 := Lib.hid (HW3.out.next HB40.out)
  have HRt := Lib.hid (DocRight16_any (c := c4) HW4.out (by omega))
  clear hV1 HB24 HB1 HB2 HB3 HB40 HW1 HW2 HW3 HW HTk HTw HTn HRa HF
  cases hr : rightW l with
  | false =>
    have HE := Lib.hid (take_wrong hr k at_ b)
    rw [hr] at HRt
    clear hr
    by_cases k0 : k < 0
    · rw [HE.out.1.1, HE.out.1.2.1, HE.out.2.1.1, HE.out.2.1.2, HE.out.2.2.1, HE.out.2.2.2, List.length_nil]
      rw [HE.out.1.2.2] at HPv ⊢
      have p0 : w4.cell? ⟨w1.heap.size, 0, none⟩ = some (.int .i64 0) := Lib.cell_of_heap HPv.out 0
      have p1 : w4.cell? ⟨w1.heap.size, 1, none⟩ = some (.string ⟨#[]⟩) := Lib.cell_of_heap HPv.out 1
      have heq := fun w => eql_wpk 0 ⟨#[]⟩ w
      have hgd := guard_wpk
      go_wp2_with (first | (go_at_call 9; (with_reducible refine HRt.out.mono ?_); rintro e w9 ⟨rfl, rfl⟩) | (go_at_call 7; (with_reducible refine (awake16_any _).mono ?_); rintro e w14 ⟨rfl, hb14⟩; have HB14 := Lib.hid hb14; clear hb14))
      go_ret
      exact ⟨rfl, below_next HB4.out HB14.out⟩
    by_cases k1 : (l.length : Int) ≤ k
    · rw [HE.out.1.1, HE.out.1.2.1, HE.out.2.1.1, HE.out.2.1.2, HE.out.2.2.1, HE.out.2.2.2, List.length_nil]
      rw [HE.out.1.2.2] at HPv ⊢
      have p0 : w4.cell? ⟨w1.heap.size, 0, none⟩ = some (.int .i64 0) := Lib.cell_of_heap HPv.out 0
      have p1 : w4.cell? ⟨w1.heap.size, 1, none⟩ = some (.string ⟨#[]⟩) := Lib.cell_of_heap HPv.out 1
      have heq := fun w => eql_wpk 0 ⟨#[]⟩ w
      have hgd := guard_wpk
      go_wp2_with (first | (go_at_call 9; (with_reducible refine HRt.out.mono ?_); rintro e w9 ⟨rfl, rfl⟩) | (go_at_call 7; (with_reducible refine (awake16_any _).mono ?_); rintro e w14 ⟨rfl, hb14⟩; have HB14 := Lib.hid hb14; clear hb14))
      go_ret
      exact ⟨rfl, below_next HB4.out HB14.out⟩
    · rw [HE.out.1.1, HE.out.1.2.1, HE.out.2.1.1, HE.out.2.1.2, HE.out.2.2.1, HE.out.2.2.2, List.length_nil]
      rw [HE.out.1.2.2] at HPv ⊢
      have p0 : w4.cell? ⟨w1.heap.size, 0, none⟩ = some (.int .i64 0) := Lib.cell_of_heap HPv.out 0
      have p1 : w4.cell? ⟨w1.heap.size, 1, none⟩ = some (.string ⟨#[]⟩) := Lib.cell_of_heap HPv.out 1
      have heq := fun w => eql_wpk 0 ⟨#[]⟩ w
      have hgd := guard_wpk
      go_wp2_with (first | (go_at_call 9; (with_reducible refine HRt.out.mono ?_); rintro e w9 ⟨rfl, rfl⟩) | (go_at_call 7; (with_reducible refine (awake16_any _).mono ?_); rintro e w14 ⟨rfl, hb14⟩; have HB14 := Lib.hid hb14; clear hb14))
      go_ret
      exact ⟨rfl, below_next HB4.out HB14.out⟩
  | true =>
  rw [hr] at HRt
  have HR := Lib.hid hr
  clear hr
  by_cases k0 : k < 0
  · have HE := Lib.hid (take_none HR.out (.inl k0) at_ b)
    rw [HE.out.1.1, HE.out.1.2.1, HE.out.2.1.1, HE.out.2.1.2, HE.out.2.2.1, HE.out.2.2.2, List.length_nil]
    rw [HE.out.1.2.2] at HPv ⊢
    have p0 : w4.cell? ⟨w1.heap.size, 0, none⟩ = some (.int .i64 0) := Lib.cell_of_heap HPv.out 0
    have p1 : w4.cell? ⟨w1.heap.size, 1, none⟩ = some (.string ⟨#[]⟩) := Lib.cell_of_heap HPv.out 1
    have heq := fun w => eql_wpk 0 ⟨#[]⟩ w
    have hgd := guard_wpk
    go_wp2_with (first | (go_at_call 9; (with_reducible refine HRt.out.mono ?_); rintro e w9 ⟨rfl, rfl⟩) | (go_at_call 7; (with_reducible refine (awake16_any _).mono ?_); rintro e w14 ⟨rfl, hb14⟩; have HB14 := Lib.hid hb14; clear hb14))
    go_ret
    exact ⟨rfl, below_next HB4.out HB14.out⟩
  by_cases k1 : (l.length : Int) ≤ k
  · have HE := Lib.hid (take_none HR.out (.inr k1) at_ b)
    rw [HE.out.1.1, HE.out.1.2.1, HE.out.2.1.1, HE.out.2.1.2, HE.out.2.2.1, HE.out.2.2.2, List.length_nil]
    rw [HE.out.1.2.2] at HPv ⊢
    have p0 : w4.cell? ⟨w1.heap.size, 0, none⟩ = some (.int .i64 0) := Lib.cell_of_heap HPv.out 0
    have p1 : w4.cell? ⟨w1.heap.size, 1, none⟩ = some (.string ⟨#[]⟩) := Lib.cell_of_heap HPv.out 1
    have heq := fun w => eql_wpk 0 ⟨#[]⟩ w
    have hgd := guard_wpk
    go_wp2_with (first | (go_at_call 9; (with_reducible refine HRt.out.mono ?_); rintro e w9 ⟨rfl, rfl⟩) | (go_at_call 7; (with_reducible refine (awake16_any _).mono ?_); rintro e w14 ⟨rfl, hb14⟩; have HB14 := Lib.hid hb14; clear hb14))
    go_ret
    exact ⟨rfl, below_next HB4.out HB14.out⟩
  obtain ⟨kn, rfl⟩ := Int.eq_ofNat_of_zero_le (show 0 ≤ k by omega)
  have hkl : kn < l.length := by omega
  have HE := Lib.hid (take_ok HR.out hkl)
  rw [HE.out.1, HE.out.2.1, HE.out.2.2]
  rw [HE.out.2.2] at HPv
  rw [HE.out.2.1] at HL1
  obtain ⟨bb, off, rfl, hbl, hx0, hx1⟩ := HL0.out.at_ (Below.refl _ _) hkl
  have HTwF := Lib.hid (fun h2 => twice_full HR.out hkl h2)
  have HTwO := Lib.hid (fun h2 => twice_ok HR.out hkl h2)
  have HTnB := Lib.hid (fun at_ h2 b => turn_bad HR.out hkl (at_ := at_) h2 b)
  have HTnO := Lib.hid (fun a h2 b => turn_ok HR.out hkl (a := a) h2 b)
  have HPt := Lib.hid (fun (b o : Nat) (h : WpAt w4 w4.heap.size (some ⟨b, o, none⟩) l) => h.part kn 1)
  have HPt2 : Hid ((l.drop kn).take 1 = [l[kn]]) := Lib.hid (by rw [List.drop_eq_getElem_cons hkl]; rfl)
  have hsl := (rightW_at HR.out hkl).2.2
  obtain ⟨q, hq⟩ : ∃ q, l[kn] = q := ⟨_, rfl⟩
  rw [hq] at hsl HPv HTwO HTnO HTnB HPt2 hx0 hx1 ⊢
  clear hq
  obtain ⟨to_, s⟩ := q
  dsimp only at hx0 hx1 HPv hsl
  obtain ⟨T, hT⟩ : ∃ T, str s = T := ⟨_, rfl⟩
  have hsz : T.size = s.length := by rw [← hT, str_size]
  have HTs := Lib.hid hT
  dsimp only
  rw [hT] at HPv hx1 ⊢
  clear hT
  have hkl2 : (kn : Int) < (l.length : Int) := by omega
  have hk0 : (0 : Int) ≤ (kn : Int) := by omega
  have HQ := Lib.hid (fun W (hb : Below w4.heap.size w4 W) => (⟨by rw [hb.cell (p := ⟨bb, off + kn * 2, none⟩) hbl]; exact hx0, by rw [hb.cell (p := ⟨bb, off + kn * 2 + 1, none⟩) hbl]; exact hx1, by rw [hb.cell (p := ⟨w1.heap.size, 0, none⟩) (heap_lt16 HPv.out)]; exact Lib.cell_of_heap HPv.out 0, by rw [hb.cell (p := ⟨w1.heap.size, 1, none⟩) (heap_lt16 HPv.out)]; exact Lib.cell_of_heap HPv.out 1⟩ : W.cell? ⟨bb, off + kn * 2, none⟩ = some (.int .i64 to_) ∧ W.cell? ⟨bb, off + kn * 2 + 1, none⟩ = some (.string T) ∧ W.cell? ⟨w1.heap.size, 0, none⟩ = some (.int .i64 to_) ∧ W.cell? ⟨w1.heap.size, 1, none⟩ = some (.string T)))
  obtain ⟨L0, hL0⟩ : ∃ L0, putW l kn [] = L0 := ⟨_, rfl⟩
  rw [hL0] at HL1 ⊢
  have HPA : Hid (∀ W, Below w4.heap.size w4 W → Calls Try.prog 13 #[.slice A4 l.length c4, .int .i64 (kn : Int), .slice none 0 0] W (WpEnd L0 W)) := Lib.hid (fun W hb => by
    have := DocPut16_any (c := c4) (c2 := 0) kn (HW4.out.next hb) (WpAt.nil16 W W.heap.size none) (fun _ => rfl) (by omega) (by omega) (by simp)
    rw [hL0] at this
    exact this)
  have hL0l : L0.length ≤ 1000 := by rw [← hL0, putW_none, List.length_eraseIdx]; split <;> omega
  have HSA := Lib.hid (fun W A5 c5 (hb : Below w4.heap.size w4 W) (h5 : WpAt W W.heap.size A5 L0) => same16_any (c1 := c1) (c2 := c5) (HL1.out.next hb) h5 (by omega))
  rw [decide_eq_true rfl] at HSA
  have HDr := Lib.hid ((Below.refl w4.heap.size w4).drew)
  clear hL0 hx0 hx1
  go_upto_region 14 with (first | (go_at_call 9; (with_reducible refine HRt.out.mono ?_); rintro e w9 ⟨rfl, rfl⟩))
  have hne := fun w => neq_wpk to_ T w
  have hgd := guard_wpk
  go_region_held3 (fun w' => w'.cell? ⟨bb, off + kn * 2, none⟩ = some (.int .i64 to_) ∧ w'.cell? ⟨bb, off + kn * 2 + 1, none⟩ = some (.string T) ∧ w'.cell? ⟨w1.heap.size, 0, none⟩ = some (.int .i64 to_) ∧ w'.cell? ⟨w1.heap.size, 1, none⟩ = some (.string T)) (first | with_reducible exact HQ.out _ HDr.out | with_reducible exact HQ.out _ HB11.out | with_reducible exact HQ.out _ HB12.out) (first
    | (go_at_call 13; (with_reducible refine (HPA.out _ HDr.out).mono ?_); rintro e w11 ⟨A11, c11, rfl, hw11, _, _, hb11⟩; have HW11 := Lib.hid hw11; have HB11 := Lib.hid (below_next HDr.out hb11); clear hw11 hb11)
    | (go_at_call 12; (with_reducible refine (HSA.out _ _ _ HB11.out HW11.out).mono ?_); rintro e w12 ⟨rfl, hb12⟩; have HB12 := Lib.hid (below_next HB11.out hb12); clear hb12))
  clear HPA HSA HDr HL1 hne hgd hL0l
  obtain ⟨L2, hL2⟩ : ∃ L2, twiceL l kn = L2 := ⟨_, rfl⟩
  obtain ⟨E2, hE2⟩ : ∃ E2, twiceE l kn = E2 := ⟨_, rfl⟩
  rw [hL2, hE2] at HTwF HTwO
  rw [hL2] at HL2 ⊢
  rw [hE2]
  clear hL2 hE2
  go_upto_if 115 with fail
  go_cut [12] from 113 to 138 (fun _ wc => Hid (Below w4.heap.size w4 wc))
  case first =>
    by_cases h255 : 255 < l.length
    · have h255' : (255 : Int) < (l.length : Int) := by omega
      obtain ⟨e1, e2⟩ := HTwF.out h255
      subst e1 e2
      go_wp2_with fail
      go_meet
      case rel => exact HB12
    · have h255' : ¬ (255 : Int) < (l.length : Int) := by omega
      obtain ⟨e1, e2⟩ := HTwO.out h255
      subst e1
      have hM : l ++ [⟨to_, s⟩] = L2 := e2.symm
      clear e2
      have hMl : L2.length ≤ 1000 := by rw [← hM, List.length_append]; simp; omega
      obtain ⟨b4, o4, rfl⟩ : ∃ b o, A4 = some ⟨b, o, none⟩ := by
        rcases HW4.out with e | ⟨b, o, e, _⟩
        · rw [e] at hkl; simp at hkl
        · exact ⟨b, o, e⟩
      have hc4 := HC4.out
      have hs0 : (kn : Int) + 1 ≤ (c4 : Int) := by omega
      have hs1 : (kn : Int) ≤ (kn : Int) + 1 := by omega
      have hs2 : kn ≤ kn + 1 := by omega
      have hw1 : IntKind.i64.wrap ((kn : Int) + 1) = (kn : Int) + 1 := by rw [IntKind.wrap_i64]; omega
      have HPB : Hid (∀ W cc, Below w4.heap.size w4 W → Calls Try.prog 13 #[.slice (some ⟨b4, o4, none⟩) l.length c4, .int .i64 (l.length : Int), .slice (some ⟨b4, o4 + kn * 2, none⟩) 1 cc] W (WpEnd L2 W)) := Lib.hid (fun W cc hb => by
        have h3 := (HPt.out b4 o4 HW4.out).next hb
        rw [HPt2.out] at h3
        have := DocPut16_any (c := c4) (c2 := cc) l.length (HW4.out.next hb) h3 (fun e => by cases e) (Nat.le_refl _) (by omega) (by simp)
        rw [putW_end, hM] at this
        exact this)
      have HSB := Lib.hid (fun W A5 c5 (hb : Below w4.heap.size w4 W) (h5 : WpAt W W.heap.size A5 L2) => same16_any (c1 := c2) (c2 := c5) (HL2.out.next hb) h5 (by omega))
      rw [decide_eq_true rfl] at HSB
      clear hM
      go_wp2_with (first
        | (go_at_call 13; (with_reducible refine (HPB.out _ _ HB12.out).mono ?_); rintro e w21 ⟨A21, c21, rfl, hw21, _, _, hb21⟩; have HW21 := Lib.hid hw21; have HB21 := Lib.hid (below_next HB12.out hb21); clear hw21 hb21)
        | (go_at_call 12; (with_reducible refine (HSB.out _ _ _ HB21.out HW21.out).mono ?_); rintro e w22 ⟨rfl, hb22⟩; have HB22 := Lib.hid (below_next HB21.out hb22); clear hb22))
      go_meet
      case rel => exact HB22
  case rest =>
  have HBc := Lib.hid hcut.out
  clear hcut HB11 HB12 HW11 HTwF HTwO HL2 HPt HPt2 HRt HE
  have hx0 := (HQ.out _ HBc.out).1
  have hx1 := (HQ.out _ HBc.out).2.1
  by_cases a0 : at_ < 0
  · obtain ⟨e1, e2⟩ := HTnB.out at_ (.inl a0) b
    rw [e1, e2, List.length_nil]
    clear e1 e2
    go_wp2_with (go_at_call 7; (with_reducible refine (awake16_any _).mono ?_); rintro e w14 ⟨rfl, hb14⟩; have HB14 := Lib.hid hb14; clear hb14)
    go_ret
    exact ⟨rfl, below_next HB4.out (below_next HBc.out HB14.out)⟩
  by_cases a1 : (T.size : Int) ≤ at_
  · obtain ⟨e1, e2⟩ := HTnB.out at_ (.inr (by omega)) b
    rw [e1, e2, List.length_nil]
    clear e1 e2
    go_wp2_with (go_at_call 7; (with_reducible refine (awake16_any _).mono ?_); rintro e w14 ⟨rfl, hb14⟩; have HB14 := Lib.hid hb14; clear hb14)
    go_ret
    exact ⟨rfl, below_next HB4.out (below_next HBc.out HB14.out)⟩
  obtain ⟨an, rfl⟩ := Int.eq_ofNat_of_zero_le (show 0 ≤ at_ by omega)
  obtain ⟨e1, e2⟩ := HTnO.out an (by omega) b
  rw [e1, e2]
  rw [e2] at HL3
  clear e1 e2 HTnB HTnO
  have HTu : Hid (∀ W, Calls Try.prog 17 #[.string T, .int .i64 (an : Int), .int .u8 (b.toNat : Int)] W fun e w' => e = .returned (.string (str (turnedW s an b))) ∧ Below W.heap.size W w') := Lib.hid (fun W => by
    have := DocTurned16_any s an b W (by omega) (by omega)
    rw [HTs.out] at this
    exact this)
  obtain ⟨D, hD⟩ : ∃ D, str (turnedW s an b) = D := ⟨_, rfl⟩
  rw [hD] at HTu
  have HDd := Lib.hid hD
  clear hD
  have HDr := Lib.hid (below_next HBc.out ((Below.refl wc.heap.size wc).drew))
  have HQc := Lib.hid (fun W (hb : Below w4.heap.size w4 W) => (⟨(HQ.out W hb).1, (HQ.out W hb).2.1⟩ : W.cell? ⟨bb, off + kn * 2, none⟩ = some (.int .i64 to_) ∧ W.cell? ⟨bb, off + kn * 2 + 1, none⟩ = some (.string T)))
  go_upto_region 23 with fail
  go_region_held3 (fun w' => w'.cell? ⟨bb, off + kn * 2, none⟩ = some (.int .i64 to_) ∧ w'.cell? ⟨bb, off + kn * 2 + 1, none⟩ = some (.string T)) (first | with_reducible exact HQc.out _ HDr.out | with_reducible exact HQc.out _ HB31.out | with_reducible exact HQc.out _ (below_next HB31.out (below_one _ _))) (first
    | (go_at_call 17; (with_reducible refine (HTu.out _).mono ?_); rintro e w31 ⟨rfl, hb31⟩; have HB31 := Lib.hid (below_next HDr.out hb31); clear hb31))
  have hnew := heap_new w31 (.cells #[.int .i64 to_, .string D] 35 (0, 0))
  have HB32 := Lib.hid (below_next HB31.out (below_one w31 (.cells #[.int .i64 to_, .string D] 35)))
  obtain ⟨w32, hw32⟩ : ∃ W, w31.alloc (.cells #[.int .i64 to_, .string D] 35) = W := ⟨_, rfl⟩
  rw [hw32] at hnew HB32 ⊢
  obtain ⟨M, hM⟩ : ∃ M, putW l kn [turnP ⟨to_, s⟩ an b] = M := ⟨_, rfl⟩
  rw [hM] at HL3 ⊢
  have hMl : M.length ≤ 1000 := by rw [← hM, putW_one hkl, List.length_set]; omega
  have HPC : Hid (Calls Try.prog 13 #[.slice A4 l.length c4, .int .i64 (kn : Int), .slice (some ⟨w31.heap.size, 0, none⟩) 1 1] w32 (WpEnd M w32)) := Lib.hid (by
    have h3 : WpAt w32 w32.heap.size (some ⟨w31.heap.size, 0, none⟩) [turnP ⟨to_, s⟩ an b] := .inr ⟨w31.heap.size, 0, rfl, heap_lt16 hnew, fun i hi => by
      obtain rfl : i = 0 := by simp at hi; omega
      have hDd : str (turnP ⟨to_, s⟩ an b).s = D := HDd.out
      rw [← hDd] at hnew
      exact ⟨Lib.cell_of_heap hnew 0, Lib.cell_of_heap hnew 1⟩⟩
    have := DocPut16_any (c := c4) (c2 := 1) kn (HW4.out.next HB32.out) h3 (fun e => by cases e) (by omega) (by omega) (by simp)
    rw [hM] at this
    exact this)
  have HSC := Lib.hid (fun W A5 c5 (hb : Below w4.heap.size w4 W) (h5 : WpAt W W.heap.size A5 M) => same16_any (c1 := c3) (c2 := c5) (HL3.out.next hb) h5 (by omega))
  rw [decide_eq_true rfl] at HSC
  clear hM hnew hw32 hx0 hx1
  go_wp2_with (first
    | (go_at_call 13; (with_reducible refine HPC.out.mono ?_); rintro e w33 ⟨A33, c33, rfl, hw33, _, _, hb33⟩; have HW33 := Lib.hid hw33; have HB33 := Lib.hid (below_next HB32.out hb33); clear hw33 hb33)
    | (go_at_call 12; (with_reducible refine (HSC.out _ _ _ HB33.out HW33.out).mono ?_); rintro e w34 ⟨rfl, hb34⟩; have HB34 := Lib.hid (below_next HB33.out hb34); clear hb34)
    | (go_at_call 7; (with_reducible refine (awake16_any _).mono ?_); rintro e w14 ⟨rfl, hb14⟩; have HB14 := Lib.hid hb14; clear hb14))
  go_ret
  exact ⟨rfl, below_next HB4.out (below_next HB34.out HB14.out)⟩

theorem WiresTakes_walkI {w : World} {A : Option Addr} {c : Nat} (l : List WPk) (k at_ n : Int) (h : WpAt w w.heap.size A l) (hx : l.length ≤ maxLen ∧ (A = none → c = 0) ∧ l.length ≤ c) (hn : (Lit.int .u8 n).wf = true) :
    Calls Try.prog 4 #[.slice A l.length c, .int .i64 k, .int .i64 at_, .int .u8 n] w fun e w' => e = .returned (.bool true) ∧ Below w.heap.size w w' := by
  obtain ⟨b, rfl⟩ := byte_of hn
  exact WiresTakes_walk l k at_ b h hx
end Go.Proofs.Ytfcpgkbbocadpaa
