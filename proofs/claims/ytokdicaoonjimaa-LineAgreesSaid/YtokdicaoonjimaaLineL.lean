/- Lineages: contract of the document's Grow. -/
import Derived.Test.YtokdicaoonjimaaLineK
namespace Go.Proofs.Ytokdicaoonjimaa
open Go.RowKit

theorem grow_no {l : List Br} {ep at_ : Int} (h : ¬ (ep ≤ 1099511627776 ∧ at_ ≤ 1099511627776 ∧ (lastB l).1 < ep ∧ (lastB l).2 ≤ at_)) : growE l ep at_ = 1 ∧ growL l ep at_ = [] := by
  have e : growE l ep at_ = 1 := by unfold growE; rw [decide_eq_false h, Bool.and_false, if_neg (by simp)]
  exact ⟨e, by unfold growL; rw [if_neg (by omega)]⟩
theorem grow_yes {l : List Br} {ep at_ : Int} (h1 : lineOk l = true) (h : ep ≤ 1099511627776 ∧ at_ ≤ 1099511627776 ∧ (lastB l).1 < ep ∧ (lastB l).2 ≤ at_) : (l.length ≤ 63 → growE l ep at_ = 0 ∧ growL l ep at_ = l ++ [(ep, at_)]) ∧ (¬ l.length ≤ 63 → growE l ep at_ = 6 ∧ growL l ep at_ = []) := by
  have e : growE l ep at_ = if l.length ≤ 63 then 0 else 6 := by unfold growE; rw [decide_eq_true h, h1, Bool.and_self, if_pos rfl]
  exact ⟨fun g => ⟨by rw [e, if_pos g], by unfold growL; rw [e, if_pos g, if_pos rfl]⟩, fun g => ⟨by rw [e, if_neg g], by unfold growL; rw [e, if_neg g, if_neg (by omega)]⟩⟩

set_option maxHeartbeats 8000000 in
set_option maxRecDepth 100000 in
theorem DGrow_any {w : World} {A : Option Addr} {c : Nat} {l : List Br} (ep at_ : Int) (h : BrsAt w w.heap.size A l) (hl : l.length ≤ 9223372036854775807) :
    Calls Try.prog 13 #[.slice A l.length c, .int .i64 ep, .int .i64 at_] w (BrsEnd (growL l ep at_) (.int .i64 (growE l ep at_)) w) := by
  have HR := Lib.hid (fun c => DRight_any (c := c) h hl)
  cases ok : lineOk l with
  | false =>
    rw [(grow_a ok).1, (grow_a ok).2]
    rw [ok] at HR
    clear h
    go_enter Try.func13, Try.ntmps13
    go_wp2_with fail
    refine (HR.out _).mono ?_
    rintro e w1 ⟨rfl, hb1⟩
    replace hb1 := Lib.hid hb1
    go_wp2_with fail
    go_ret2
    exact BrsEnd.none_ _ hb1.out
  | true =>
  rw [ok] at HR
  have hn64 := ((lineOk_iff l).1 ok).1
  obtain ⟨k, hk⟩ : ∃ k, l.length = k + 1 := ⟨l.length - 1, by have := lineOk_ne ok; cases l with
    | nil => exact absurd rfl this
    | cons x r => simp⟩
  have hkl : k < l.length := by omega
  have HNo := Lib.hid (@grow_no l ep at_)
  have HYes := Lib.hid (@grow_yes l ep at_ ok)
  rw [lastB_at hk] at HNo HYes
  have HL := Lib.hid (fun w1 (hb : Below w.heap.size w w1) => (h.next hb).lies)
  have HCl := Lib.hid (brCells_length l)
  have HB := Lib.hid (brCells_append l [(ep, at_)])
  obtain ⟨i0, hi0, hz0, hz1, hz2⟩ := info_parts Try.infoBr
  obtain ⟨b, off, hA, hlt, x1, x2⟩ := h.at_ (Below.refl _ _) hkl
  subst hA
  obtain ⟨v1, hv1⟩ : ∃ v, l[k].1 = v := ⟨_, rfl⟩
  obtain ⟨v2, hv2⟩ : ∃ v, l[k].2 = v := ⟨_, rfl⟩
  rw [hv1] at x1 HNo HYes
  rw [hv2] at x2 HNo HYes
  have y1 := fun w1 (hb : Below w.heap.size w w1) => (hb.cell (p := ⟨b, off + k * 2, none⟩) hlt).trans x1
  have y2 := fun w1 (hb : Below w.heap.size w w1) => (hb.cell (p := ⟨b, off + k * 2 + 1, none⟩) hlt).trans x2
  have Y1 := Lib.hid y1
  have Y2 := Lib.hid y2
  have HKl := Lib.hid hk
  have hkz : 0 < l.length := by omega
  clear hv1 hv2 h hkl x1 x2 y1 y2
  rw [hk] at HR hl hn64 HYes ⊢
  have hk0 : (0 : Int) ≤ (k : Int) := Int.natCast_nonneg _
  have hk8 : (k : Int) < 9223372036854775807 := by omega
  clear hk
  cases k1 : decide (1099511627776 < ep) with
  | true =>
    have HQ := Lib.hid (HNo.out (by have := of_decide_eq_true k1; omega))
    rw [HQ.out.1, HQ.out.2]
    clear HNo HYes
    go_enter Try.func13, Try.ntmps13
    go_wp2_with fail
    refine (HR.out _).mono ?_
    rintro e w1 ⟨rfl, hb1⟩
    have HB1 := Lib.hid hb1
    have c0 := Y1.out w1 hb1
    have c1 := Y2.out w1 hb1
    clear hb1
    go_wp2_with fail
    go_ret2
    exact BrsEnd.none_ _ HB1.out
  | false =>
  cases k2 : decide (1099511627776 < at_) with
  | true =>
    have HQ := Lib.hid (HNo.out (by have := of_decide_eq_true k2; omega))
    rw [HQ.out.1, HQ.out.2]
    clear HNo HYes
    go_enter Try.func13, Try.ntmps13
    go_wp2_with fail
    refine (HR.out _).mono ?_
    rintro e w1 ⟨rfl, hb1⟩
    have HB1 := Lib.hid hb1
    have c0 := Y1.out w1 hb1
    have c1 := Y2.out w1 hb1
    clear hb1
    go_wp2_with fail
    go_ret2
    exact BrsEnd.none_ _ HB1.out
  | false =>
  cases k3 : decide (ep ≤ v1) with
  | true =>
    have HQ := Lib.hid (HNo.out (by have := of_decide_eq_true k3; omega))
    rw [HQ.out.1, HQ.out.2]
    clear HNo HYes
    go_enter Try.func13, Try.ntmps13
    go_wp2_with fail
    refine (HR.out _).mono ?_
    rintro e w1 ⟨rfl, hb1⟩
    have HB1 := Lib.hid hb1
    have c0 := Y1.out w1 hb1
    have c1 := Y2.out w1 hb1
    clear hb1
    go_wp2_with fail
    go_ret2
    exact BrsEnd.none_ _ HB1.out
  | false =>
  cases k4 : decide (at_ < v2) with
  | true =>
    have HQ := Lib.hid (HNo.out (by have := of_decide_eq_true k4; omega))
    rw [HQ.out.1, HQ.out.2]
    clear HNo HYes
    go_enter Try.func13, Try.ntmps13
    go_wp2_with fail
    refine (HR.out _).mono ?_
    rintro e w1 ⟨rfl, hb1⟩
    have HB1 := Lib.hid hb1
    have c0 := Y1.out w1 hb1
    have c1 := Y2.out w1 hb1
    clear hb1
    go_wp2_with fail
    go_ret2
    exact BrsEnd.none_ _ HB1.out
  | false =>
  have HY := Lib.hid (HYes.out ⟨by have := of_decide_eq_false k1; omega, by have := of_decide_eq_false k2; omega, by have := of_decide_eq_false k3; omega, by have := of_decide_eq_false k4; omega⟩)
  clear HNo HYes
  by_cases h63 : k + 1 ≤ 63
  · have hg : decide ((63 : Int) < (k : Int) + 1) = false := by rw [decide_eq_false_iff_not]; omega
    rw [(HY.out.1 h63).1, (HY.out.1 h63).2]
    clear HY
    go_enter Try.func13, Try.ntmps13
    go_wp2_with fail
    refine (HR.out _).mono ?_
    rintro e w1 ⟨rfl, hb1⟩
    have HB1 := Lib.hid hb1
    have c0 := Y1.out w1 hb1
    have c1 := Y2.out w1 hb1
    have HC : Hid (∀ j u, (brCells l)[j]? = some u → w1.cell? ((⟨b, off, none⟩ : Addr).add j) = some u) := Lib.hid (fun j u hj => by
      rcases HL.out w1 hb1 with h | ⟨b2, off2, hA, hb, hc⟩
      · rw [h] at hj; simp at hj
      · cases hA
        obtain ⟨hj1, hj2⟩ := List.getElem?_eq_some_iff.1 hj
        rw [WideShapes.add_plain, hc j hj1, hj2])
    have HCl2 : Hid ((brCells l).length = (k + 1) * 2) := Lib.hid (by rw [HCl.out, HKl.out])
    clear hb1
    go_wp2_with (at_builtin; refine wpList_append_own _ rfl (.tmp 45) (.tmp 46) 22 rfl w1.heap.size 31 i0 (.agg #[.int .i64 0, .int .i64 0]) 2 16 Try.underlying22 hi0 hz0 hz1 hz2 rfl (by decide) (.slice none 0 0) 0 [] rfl (World.ownsRow_nil _ _ _ _) ⟨b, off, none⟩ (k + 1) c (brCells l) rfl HCl2.out HC.out (brCells_one l) ?c4 ?c5 ?c6 ?_)
    case c4 => unfold maxLen; omega
    case c5 => omega
    case c6 => simp
    intro u2 w2 hown hg2 _
    have HB2 : Hid (Below w1.heap.size w1 w2) := Lib.hid ((Below.refl _ _).grown hg2 (Nat.le_refl _) (fun k hk => by simp [Value.ownBlock] at hk))
    have HO := Lib.hid (hown.alloc (.cells #[.int .i64 ep, .int .i64 at_] 31))
    have hnew : ∀ j u, ([.int .i64 ep, .int .i64 at_] : List Value)[j]? = some u → (w2.alloc (.cells #[.int .i64 ep, .int .i64 at_] 31)).cell? ((⟨w2.heap.size, 0, none⟩ : Addr).add j) = some u := World.news_of_block (cs := #[.int .i64 ep, .int .i64 at_]) (t := 31) (fr := (0, 0)) (heap_new w2 _)
    have HNew := Lib.hid hnew
    have HB3 := Lib.hid (HB2.out.alloc HB2.out.size (.cells #[.int .i64 ep, .int .i64 at_] 31))
    clear hnew hown hg2
    go_wp2_with (at_builtin; refine wpList_append_lies _ rfl (.tmp 47) (.tmp 51) 22 rfl w1.heap.size 31 i0 (.agg #[.int .i64 0, .int .i64 0]) 2 16 Try.underlying22 hi0 hz0 hz1 hz2 rfl (by decide) u2 (k + 1) (brCells l) rfl HO.out ⟨w2.heap.size, 0, none⟩ 1 1 [.int .i64 ep, .int .i64 at_] rfl rfl HNew.out (by simp [Value.oneCell']) (by omega) ?d1 ?d2 HB3.out.size _ rfl ?_)
    case d1 => unfold maxLen; omega
    case d2 => omega
    intro g cap w7 hown hg7 _ _
    have HB7 : Below w1.heap.size w1 w7 := HB3.out.grown hg7 HB3.out.size (fun k hk => (HO.out.lt k hk).1)
    have HQ := Lib.hid (grow_end HB1.out HB7 (by rw [HKl.out]; exact hown) HB.out)
    rw [HKl.out] at HQ
    clear hown hg7
    go_wp2_with fail
    go_ret2
    exact HQ.out
  · have hg : decide ((63 : Int) < (k : Int) + 1) = true := by rw [decide_eq_true_iff]; omega
    rw [(HY.out.2 h63).1, (HY.out.2 h63).2]
    clear HY
    go_enter Try.func13, Try.ntmps13
    go_wp2_with fail
    refine (HR.out _).mono ?_
    rintro e w1 ⟨rfl, hb1⟩
    have HB1 := Lib.hid hb1
    have c0 := Y1.out w1 hb1
    have c1 := Y2.out w1 hb1
    clear hb1
    go_wp2_with fail
    go_ret2
    exact BrsEnd.none_ _ HB1.out
end Go.Proofs.Ytokdicaoonjimaa
