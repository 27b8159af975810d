/- The walk of WiresBack. -/
import Derived.Test.YtfcpgkbbocadpaaWireK
import Derived.Test.YtfcpgkbbocadpaaWireO
namespace Go.Proofs.Ytfcpgkbbocadpaa
open Go.RowKit

set_option maxHeartbeats 4000000 in
set_option maxRecDepth 100000 in
theorem WiresBack_walk {w : World} {A : Option Addr} {c : Nat} (l : List WPk) (p : WPk) (at_ : Int) (b : UInt8) (h : WpAt w w.heap.size A l) (hx : l.length ≤ maxLen ∧ (A = none → c = 0) ∧ l.length ≤ c) (hp : p.s.length ≤ maxLen) :
    Calls Try.prog 5 #[.slice A l.length c, p.val, .int .i64 at_, .int .u8 (b.toNat : Int)] w fun e w' => e = .returned (.bool true) ∧ Below w.heap.size w w' := by
  unfold maxLen at hx hp
  have hb0 := below_one w (.cells #[.int .i64 p.to_, .string (str p.s)] 24)
  obtain ⟨V, hV⟩ : ∃ V, V = w.alloc (.cells #[.int .i64 p.to_, .string (str p.s)] 24) := ⟨_, rfl⟩
  have hpb := heap_new w (.cells #[.int .i64 p.to_, .string (str p.s)] 24 (0, 0))
  rw [← hV] at hb0 hpb
  have HB0 := Lib.hid hb0
  have HPb := Lib.hid hpb
  have HW := Lib.hid (h.next hb0)
  have HF := Lib.hid (few16_any (c := c) (h.next hb0) (by omega))
  have HV := Lib.hid hV
  have p0 : V.cell? ⟨w.heap.size, 0, none⟩ = some (.int .i64 p.to_) := Lib.cell_of_heap hpb 0
  have p1 : V.cell? ⟨w.heap.size, 1, none⟩ = some (.string (str p.s)) := Lib.cell_of_heap hpb 1
  obtain ⟨T, hT⟩ : ∃ T, str p.s = T := ⟨_, rfl⟩
  have hsz : T.size = p.s.length := by rw [← hT, str_size]
  have HX := Lib.hid hx
  unfold WPk.val
  clear h hb0 hpb hx hV
  by_cases hfew : fewW l = true
  case neg =>
    have HFe : Hid (fewW l = false) := Lib.hid (by cases h : fewW l with | true => exact absurd h hfew | false => rfl)
    rw [HFe.out] at HF
    clear hfew
    rw [hT] at p1 HV ⊢
    go_enter Try.func5, Try.ntmps5
    go_upto_region 1 with fail
    rw [← HV.out]
    go_wp2_with (first | (go_at_call 6; (with_reducible refine HF.out.mono ?_); rintro e w9 ⟨rfl, rfl⟩) | (go_at_call 7; (with_reducible refine (awake16_any _).mono ?_); rintro e w14 ⟨rfl, hb14⟩; have HB14 := Lib.hid hb14; clear hb14))
    go_ret
    exact ⟨rfl, below_next HB0.out HB14.out⟩
  rw [hfew] at HF
  obtain ⟨hf1, hf2⟩ := fewW_is hfew
  clear hfew
  by_cases hlong : 5000 < T.size
  · have hlong2 : (5000 : Int) < (T.size : Int) := by omega
    rw [hT] at p1 HV ⊢
    go_enter Try.func5, Try.ntmps5
    go_upto_region 1 with fail
    rw [← HV.out]
    go_wp2_with (first | (go_at_call 6; (with_reducible refine HF.out.mono ?_); rintro e w9 ⟨rfl, rfl⟩) | (go_at_call 7; (with_reducible refine (awake16_any _).mono ?_); rintro e w14 ⟨rfl, hb14⟩; have HB14 := Lib.hid hb14; clear hb14))
    go_ret
    exact ⟨rfl, below_next HB0.out HB14.out⟩
  have hlong2 : ¬ (5000 : Int) < (T.size : Int) := by omega
  have HSd := Lib.hid (WSend_any (c := c) p HW.out (by omega) HX.out.2.2 HX.out.2.1)
  by_cases he : sendE l p = 0
  case neg =>
    have he2 : (sendE l p == 0) = false := beq_eq_false_iff_ne.2 he
    rw [send_not he] at HSd
    rw [hT] at HSd
    rw [hT] at p1 HV ⊢
    go_enter Try.func5, Try.ntmps5
    go_upto_region 1 with fail
    rw [← HV.out]
    go_wp2_with (first | (go_at_call 6; (with_reducible refine HF.out.mono ?_); rintro e w9 ⟨rfl, rfl⟩) | (go_at_call 8; (with_reducible refine HSd.out.mono ?_); rintro e w2 ⟨A2, c2, rfl, _, _, hb2⟩; rw [List.length_nil]; have HB2 := Lib.hid hb2; clear hb2) | (go_at_call 7; (with_reducible refine (awake16_any _).mono ?_); rintro e w14 ⟨rfl, hb14⟩; have HB14 := Lib.hid hb14; clear hb14))
    go_ret
    exact ⟨rfl, below_next HB0.out (below_next HB2.out HB14.out)⟩
  obtain ⟨z1, z2, z3⟩ := send_zero he
  have HK := Lib.hid (back_ok z1 z2 z3)
  have HE := Lib.hid (send_ok z1 z2 z3)
  have HKt := Lib.hid (fun an => back_ok (l := l) (p := turnP p an b) z1 (by unfold turnP; rw [turnedW_len]; exact z2) z3)
  have hll : l.length ≤ 255 := by omega
  rw [HE.out.1, HE.out.2] at HSd
  obtain ⟨M, hM⟩ : ∃ M, l ++ [p] = M := ⟨_, rfl⟩
  have hMl : M.length ≤ 1000 := by rw [← hM, List.length_append]; simp; omega
  rw [hM] at HSd
  have HK1 := Lib.hid (HK.out.turnB)
  have HK2 := Lib.hid (HK.out.turnO)
  have HK3 := Lib.hid (HK.out.take)
  rw [hM] at HK1 HK2 HK3
  have HM := Lib.hid hM
  rw [hT] at HSd
  have HDT := Lib.hid hT
  clear HK HE he z1 z2 z3 hM
  rw [hT] at p1 HV ⊢
  clear hT
  go_enter Try.func5, Try.ntmps5
  go_upto_region 1 with fail
  rw [← HV.out]
  go_upto_region 7 with (first | (go_at_call 6; (with_reducible refine HF.out.mono ?_); rintro e w9 ⟨rfl, rfl⟩) | (go_at_call 8; (with_reducible refine HSd.out.mono ?_); rintro e w2 ⟨A2, c2, rfl, hw2, hr2, hb2⟩; have HW2 := Lib.hid hw2; have HR2 := Lib.hid hr2; have HB2 := Lib.hid hb2; clear hw2 hr2 hb2))
  have HB02 := Lib.hid (below_next HB0.out HB2.out)
  have HTn := Lib.hid (WTurn_any (c := c2) (l.length : Int) at_ b HW2.out hMl HR2.out.1 HR2.out.2)
  obtain ⟨L3, hL3⟩ : ∃ L3, turnWL M l.length at_ b = L3 := ⟨_, rfl⟩
  obtain ⟨E3, hE3⟩ : ∃ E3, turnE M l.length at_ = E3 := ⟨_, rfl⟩
  rw [hL3, hE3] at HTn
  have HL3 := Lib.hid hL3
  have HE3 := Lib.hid hE3
  clear hL3 hE3
  go_upto_if 54 with (go_at_call 16; (with_reducible refine HTn.out.mono ?_); rintro e w3 ⟨A3, c3, rfl, hw3, hr3, hb3⟩; have HW3 := Lib.hid hw3; have HR3 := Lib.hid hr3; have HB3 := Lib.hid hb3; clear hw3 hr3 hb3)
  go_cut [12] from 45 to 80 (fun _ wc => Hid (Below w2.heap.size w2 wc))
  case first =>
    by_cases a0 : at_ < 0
    · obtain ⟨e1, e2⟩ := HK1.out at_ b (.inl a0)
      obtain rfl : E3 = 1 := HE3.out.symm.trans e1
      clear e1 e2
      go_wp2_with fail
      go_meet
      case rel => exact HB3
    by_cases a1 : (p.s.length : Int) ≤ at_
    · obtain ⟨e1, e2⟩ := HK1.out at_ b (.inr a1)
      obtain rfl : E3 = 1 := HE3.out.symm.trans e1
      clear e1 e2
      go_wp2_with fail
      go_meet
      case rel => exact HB3
    obtain ⟨an, rfl⟩ := Int.eq_ofNat_of_zero_le (show 0 ≤ at_ by omega)
    have han : an < p.s.length := by omega
    obtain ⟨e1, e2⟩ := HK2.out an b han
    obtain rfl : E3 = 0 := HE3.out.symm.trans e1
    have e3 : l ++ [turnP p an b] = L3 := (HL3.out.symm.trans e2).symm
    have e4 : turnE L3 l.length an = 0 ∧ turnWL L3 l.length an b = M := by
      have := (HKt.out an).turnO an b (by unfold turnP; rw [turnedW_len]; exact han)
      rw [e3] at this
      refine ⟨this.1, this.2.trans ?_⟩
      rw [← HM.out]
      unfold turnP
      dsimp only
      rw [turned_twice han]
    have HDb : Hid (decide (L3 = M) = ((b.toNat : Int) == 0)) := Lib.hid (by
      rw [← e3, ← HM.out]
      have h1 := turned_same han b
      by_cases hb : b = 0
      · rw [decide_eq_true (by unfold turnP; rw [h1.2 hb]), hb]; rfl
      · have h2 : ¬ (b.toNat : Int) = 0 := fun e => hb (by rw [← UInt8.toNat_inj]; show b.toNat = 0; omega)
        rw [beq_eq_false_iff_ne.2 h2]
        refine decide_eq_false (fun e => hb (h1.1 ?_))
        have e5 := List.append_cancel_left e
        simp only [List.cons.injEq, and_true] at e5
        unfold turnP at e5
        have := congrArg WPk.s e5
        exact this)
    have hMl3 : L3.length ≤ 100000 := by rw [← e3, List.length_append]; simp; omega
    have hMl2 : M.length ≤ 100000 := by omega
    have HTm := Lib.hid (WTurn_any (c := c3) (l.length : Int) (an : Int) b HW3.out (by rw [← e3, List.length_append]; simp; omega) HR3.out.1 HR3.out.2)
    rw [e4.1, e4.2] at HTm
    obtain ⟨bz, hbz⟩ : ∃ z, ((b.toNat : Int) == 0) = z := ⟨_, rfl⟩
    rw [hbz] at HDb
    clear e1 e2 e3 e4
    go_upto_region 10 with (go_at_call 16; (with_reducible refine HTm.out.mono ?_); rintro e w4 ⟨A4, c4, rfl, hw4, _, hb4⟩; have HW4 := Lib.hid hw4; have HB4 := Lib.hid hb4; clear hw4 hb4)
    have HRa : Hid (∀ W, Below w3.heap.size w3 W → Calls Try.prog 10 #[.slice A2 M.length c2] W (WpEnd M W)) := Lib.hid (fun W hb => ref16_any (c := c2) (HW2.out.next (below_next HB3.out hb)) hMl)
    have HSa := Lib.hid (fun W A5 c5 (hb : Below w4.heap.size w4 W) (h5 : WpAt W W.heap.size A5 M) => same16_any (c1 := c4) (c2 := c5) (HW4.out.next hb) h5 hMl2)
    have HSb := Lib.hid (fun W A5 c5 (hb : Below w3.heap.size w3 W) (h5 : WpAt W W.heap.size A5 M) => same16_any (c1 := c3) (c2 := c5) (HW3.out.next hb) h5 hMl3)
    rw [decide_eq_true rfl] at HSa
    rw [HDb.out] at HSb
    have HRf := Lib.hid (Below.refl w4.heap.size w4)
    go_wp2_with (first
      | (go_at_call 10; (with_reducible refine (HRa.out _ HB4.out).mono ?_); rintro e w5 ⟨A5, c5, rfl, hw5, _, _, hb5⟩; have HW5 := Lib.hid hw5; have HB5 := Lib.hid hb5; clear hw5 hb5)
      | (go_at_call 12; (with_reducible refine (HSa.out _ _ _ HB5.out HW5.out).mono ?_); rintro e w6 ⟨rfl, hb6⟩; have HB6 := Lib.hid (below_next HB4.out (below_next HB5.out hb6)); clear hb6 HB5 HW5)
      | (go_at_call 10; (with_reducible refine (HRa.out _ HB6.out).mono ?_); rintro e w7 ⟨A7, c7, rfl, hw7, _, _, hb7⟩; have HW7 := Lib.hid hw7; have HB7 := Lib.hid (below_next HB6.out hb7); clear hw7 hb7)
      | (go_at_call 12; (with_reducible refine (HSb.out _ _ _ HB7.out HW7.out).mono ?_); rintro e w8 ⟨rfl, hb8⟩; have HB8 := Lib.hid (below_next HB7.out hb8); clear hb8))
    go_meet
    case rel => exact Lib.hid (below_next HB3.out HB8.out)
  case rest =>
  have HBc := Lib.hid hcut.out
  clear hcut HW3 HR3 HB3 HTn HK1 HK2 HL3 HE3 HKt
  have HTk := Lib.hid (WTake_any (c := c2) (l.length : Int) (HW2.out.next HBc.out) hMl HR2.out.1 HR2.out.2)
  unfold WpTak at HTk
  rw [HK3.out.1, HK3.out.2.1, HK3.out.2.2, HDT.out] at HTk
  have HRa := Lib.hid (fun W (hb : Below w2.heap.size w2 W) => ref16_any (c := c) (HW.out.next (below_next HB2.out hb)) (by omega))
  have HPc := Lib.hid (fun W (hb : Below w2.heap.size w2 W) => (⟨by rw [(below_next HB2.out hb).cell (p := ⟨w.heap.size, 0, none⟩) (heap_lt16 HPb.out)]; exact p0, by rw [(below_next HB2.out hb).cell (p := ⟨w.heap.size, 1, none⟩) (heap_lt16 HPb.out)]; exact p1⟩ : W.cell? ⟨w.heap.size, 0, none⟩ = some (.int .i64 p.to_) ∧ W.cell? ⟨w.heap.size, 1, none⟩ = some (.string T)))
  clear p0 p1
  obtain ⟨to_, s⟩ := p
  dsimp only at *
  go_upto_region 13 with (go_at_call 14; (with_reducible refine HTk.out.mono ?_); rintro e w9 ⟨A9, c9, rfl, hw9, _, hb9⟩; have HW9 := Lib.hid hw9; have HB9 := Lib.hid hb9; clear hw9 hb9)
  have hnew := heap_new w9 (.cells #[.int .i64 to_, .string T] 24 (0, 0))
  have HBn := Lib.hid (below_next HBc.out (below_next HB9.out (below_one w9 (.cells #[.int .i64 to_, .string T] 24))))
  have HL9 := Lib.hid (HW9.out.next (below_one w9 (.cells #[.int .i64 to_, .string T] 24)))
  obtain ⟨W9, hw9⟩ : ∃ W, w9.alloc (.cells #[.int .i64 to_, .string T] 24) = W := ⟨_, rfl⟩
  rw [hw9] at hnew HBn HL9 ⊢
  obtain ⟨p0, p1⟩ := HPc.out _ HBn.out
  have q0 : W9.cell? ⟨w9.heap.size, 0, none⟩ = some (.int .i64 to_) := Lib.cell_of_heap hnew 0
  have q1 : W9.cell? ⟨w9.heap.size, 1, none⟩ = some (.string T) := Lib.cell_of_heap hnew 1
  have heq := fun w => eql_wpk to_ T w
  have hgd := guard_wpk
  have HSa := Lib.hid (fun W A5 c5 (hb : Below W9.heap.size W9 W) (h5 : WpAt W W.heap.size A5 l) => same16_any (c1 := c9) (c2 := c5) (HL9.out.next hb) h5 (by omega))
  rw [decide_eq_true rfl] at HSa
  clear hnew hw9
  go_wp2_with (first
    | (go_at_call 10; (with_reducible refine (HRa.out _ HBn.out).mono ?_); rintro e w10 ⟨A10, c10, rfl, hw10, _, _, hb10⟩; have HW10 := Lib.hid hw10; have HB10 := Lib.hid hb10; clear hw10 hb10)
    | (go_at_call 12; (with_reducible refine (HSa.out _ _ _ HB10.out HW10.out).mono ?_); rintro e w11 ⟨rfl, hb11⟩; have HB11 := Lib.hid (below_next HB10.out hb11); clear hb11)
    | (go_at_call 7; (with_reducible refine (awake16_any _).mono ?_); rintro e w14 ⟨rfl, hb14⟩; have HB14 := Lib.hid hb14; clear hb14))
  go_ret
  exact ⟨rfl, below_next HB02.out (below_next HBn.out (below_next HB11.out HB14.out))⟩

theorem WiresBack_walkI {w : World} {A : Option Addr} {c : Nat} (l : List WPk) (p : WPk) (at_ n : Int) (h : WpAt w w.heap.size A l) (hx : l.length ≤ maxLen ∧ (A = none → c = 0) ∧ l.length ≤ c) (hp : p.s.length ≤ maxLen) (hn : (Lit.int .u8 n).wf = true) :
    Calls Try.prog 5 #[.slice A l.length c, p.val, .int .i64 at_, .int .u8 n] w fun e w' => e = .returned (.bool true) ∧ Below w.heap.size w w' := by
  obtain ⟨b, rfl⟩ := byte_of hn
  exact WiresBack_walk l p at_ b h hx hp
end Go.Proofs.Ytfcpgkbbocadpaa
