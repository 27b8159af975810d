/- Lineages: contracts of the document's Placed, Epoch and Parts. -/
import Derived.Test.YtokdicaoonjimaaLineI
namespace Go.Proofs.Ytokdicaoonjimaa
open Go.RowKit

theorem placedB_of2 {l : List Br} (h : lineOk l = true) (q : Int) {b1 b2 : Bool} (h1 : decide (q ≤ 1099511627776) = b1) (h2 : decide ((lastB l).2 ≤ q) = b2) : placedB l q = (b1 && b2) := by
  rw [placedB_of h q h2 h1, Bool.and_comm]

theorem parts_past {l m : List Br} {k : Nat} (hk : k < l.length) (hm : m.length ≤ k) : partsB (l.drop k) (m.drop k) = l[k].2 := by
  rw [List.drop_eq_nil_of_le hm, drop_at hk, partsB_end]

set_option maxHeartbeats 4000000 in
set_option maxRecDepth 100000 in
theorem DPlaced_any {w : World} {A : Option Addr} {c : Nat} {l : List Br} {q : Int} (h : BrsAt w w.heap.size A l) (hl : l.length ≤ 9223372036854775807) :
    Calls Try.prog 19 #[.agg #[.slice A l.length c, .int .i64 q]] w fun r w' => r = .returned (.bool (placedB l q)) ∧ Below w.heap.size w w' := by
  have HX := Lib.hid (PosBox.of (heap_new w (.cells #[.slice A l.length c, .int .i64 q] 36 (0, 0))))
  have HBV := Lib.hid (below_one w (.cells #[.slice A l.length c, .int .i64 q] 36 (0, 0)))
  have HR := Lib.hid (fun (p : LatW (w.alloc (.cells #[.slice A l.length c, .int .i64 q] 36 (0, 0)))) c => DRight_any (c := c) (h.lat HBV.out p) hl)
  cases hok : lineOk l with
  | false =>
    rw [placedB_no hok]
    rw [hok] at HR
    go_enter Try.func19, Try.ntmps19
    go_wp2_with fail
    generalize w.alloc (.cells #[.slice A l.length c, .int .i64 q] 36) = V at *
    have c0 := HX.out.c0
    have c1 := HX.out.c1
    generalize w.heap.size = H at c0 c1 ⊢
    refine wp_region_later (by kernel_rfl) (by kernel_rfl) ?_
    repeat (first | go_big_quiet_skip | quiet_step (first | (go_at_call 14; exact Calls.later_of (HR.out _ _))) | (go_big_quiet_want; go_big_quiet_op; go_big_quiet_on))
    refine wpQuiet_nil ?_
    intro w9 hw9
    obtain ⟨p9, hw9'⟩ := hw9
    subst hw9'
    go_wp2_with fail
    go_ret
    exact ⟨rfl, HBV.out.trans (p9.bel.mono HBV.out.size)⟩
  | true =>
    rw [hok] at HR
    have HP := Lib.hid (fun b1 b2 => @placedB_of2 l hok q b1 b2)
    obtain ⟨k, hk⟩ : ∃ k, l.length = k + 1 := ⟨l.length - 1, by have := lineOk_ne hok; cases l with
      | nil => exact absurd rfl this
      | cons x r => simp⟩
    have hkl : k < l.length := by omega
    rw [lastB_at hk] at HP
    obtain ⟨b, off, hA, hlt, x1, x2⟩ := h.at_ (Below.refl _ _) hkl
    subst hA
    obtain ⟨v, hv⟩ : ∃ v, l[k].2 = v := ⟨_, rfl⟩
    rw [hv] at x2 HP
    have HLt := Lib.hid hlt
    have HX2 := Lib.hid x2
    clear hv h x1 hlt x2 hkl
    rw [hk] at HX HBV HR hl ⊢
    have y2 := fun z => LatW.far HBV.out z HX2.out HLt.out
    have hk0 : (0 : Int) ≤ (k : Int) := Int.natCast_nonneg _
    have hk8 : (k : Int) < 9223372036854775807 := by omega
    have hwr : IntKind.i64.wrap (k : Int) = (k : Int) := by rw [IntKind.wrap_i64]; omega
    clear hk
    cases h1 : decide (q ≤ 1099511627776) with
    | false =>
    rw [HP.out _ _ h1 rfl, Bool.false_and]
    clear HP
    go_enter Try.func19, Try.ntmps19
    go_wp2_with fail
    generalize w.alloc (.cells #[.slice (some ⟨b, off, none⟩) (k + 1) c, .int .i64 q] 36) = V at *
    have c0 := HX.out.c0
    have c1 := HX.out.c1
    generalize w.heap.size = H at c0 c1 ⊢
    refine wp_region_later (by kernel_rfl) (by kernel_rfl) ?_
    repeat (first | go_big_quiet_skip | quiet_step (first | (go_at_call 14; exact Calls.later_of (HR.out _ _))) | (go_big_quiet_want; go_big_quiet_op; go_big_quiet_on))
    refine wpQuiet_nil ?_
    intro w9 hw9
    obtain ⟨p9, hw9'⟩ := hw9
    subst hw9'
    go_wp2_with fail
    go_ret
    exact ⟨rfl, HBV.out.trans (p9.bel.mono HBV.out.size)⟩
    | true =>
    rw [HP.out _ _ h1 rfl, Bool.true_and]
    clear HP
    go_enter Try.func19, Try.ntmps19
    go_wp2_with fail
    generalize w.alloc (.cells #[.slice (some ⟨b, off, none⟩) (k + 1) c, .int .i64 q] 36) = V at *
    have c0 := HX.out.c0
    have c1 := HX.out.c1
    generalize w.heap.size = H at c0 c1 ⊢
    refine wp_region_later (by kernel_rfl) (by kernel_rfl) ?_
    repeat (first | go_big_quiet_skip | quiet_step (first | (go_at_call 14; exact Calls.later_of (HR.out _ _))) | (go_big_quiet_want; go_big_quiet_op; go_big_quiet_on))
    refine wpQuiet_nil ?_
    intro w9 hw9
    obtain ⟨p9, hw9'⟩ := hw9
    subst hw9'
    go_wp2_with fail
    go_ret
    exact ⟨rfl, HBV.out.trans (p9.bel.mono HBV.out.size)⟩

set_option maxHeartbeats 4000000 in
set_option maxRecDepth 100000 in
theorem DEpoch_any {w : World} {A : Option Addr} {c : Nat} {l : List Br} (s : Int) (h : BrsAt w w.heap.size A l) (hl : l.length ≤ 9223372036854775807) :
    Calls Try.prog 21 #[.slice A l.length c, .int .i64 s] w fun r w' => r = .returned (.int .i64 (epochB l s)) ∧ Below w.heap.size w w' := by
  obtain ⟨ep, hep⟩ : ∃ ep, epochB l s = ep := ⟨_, rfl⟩
  have HE : Hid (ep = epochFrom 0 s (l.drop 0)) := Lib.hid (by rw [← hep]; rfl)
  obtain ⟨n, hn⟩ : ∃ n, l.length = n := ⟨_, rfl⟩
  have HN := Lib.hid hn
  have H := Lib.hid h
  rw [hep]
  rw [hn] at hl ⊢
  clear h hn hep
  go_enter Try.func21, Try.ntmps21
  go_wp2_with fail
  go_loopg [5, 6] n (fun kx eo i wr => ∃ (k : Nat) (e : Int), k ≤ n ∧ n - k ≤ kx ∧ i = .int .i64 k ∧ eo = .int .i64 e ∧ Hid (ep = epochFrom e s (l.drop k)) ∧ Hid (Below w.heap.size w wr))
  case atStart => exact ⟨0, 0, Nat.zero_le _, by omega, rfl, rfl, HE, Lib.hid (Below.refl _ _)⟩
  case round =>
    obtain ⟨k, e, hk, hkx, rfl, rfl, HF, HB⟩ := hrel
    by_cases hlt2 : k < n
    · have hd1 : decide ((k : Int) < (n : Int)) = true := by rw [decide_eq_true_iff]; omega
      have hk1 : k < l.length := by rw [HN.out]; exact hlt2
      obtain ⟨b1, o1, hA1, _, y1, y2⟩ := H.out.at_ HB.out hk1
      cases hA1
      have HD : Hid (ep = if l[k].2 < s then epochFrom l[k].1 s (l.drop (k + 1)) else e) := Lib.hid (by rw [HF.out, drop_at hk1]; rfl)
      obtain ⟨v1, hv1⟩ : ∃ v, l[k].1 = v := ⟨_, rfl⟩
      obtain ⟨v2, hv2⟩ : ∃ v, l[k].2 = v := ⟨_, rfl⟩
      rw [hv1] at y1 HD
      rw [hv2] at y2 HD
      clear hv1 hv2 hk1 HF
      have hk0 : (0 : Int) ≤ (k : Int) := Int.natCast_nonneg _
      have hk8 : (k : Int) < (n : Int) := by omega
      cases hr : decide (v2 < s) with
      | false =>
        have HD2 : Hid (ep = e) := Lib.hid (by rw [HD.out, if_neg (of_decide_eq_false hr)])
        clear HD
        go_wp2_with fail
        go_ret
        exact ⟨by rw [HD2.out]; rfl, HB.out⟩
      | true =>
        have HD2 : Hid (ep = epochFrom v1 s (l.drop (k + 1))) := Lib.hid (by rw [HD.out, if_pos (of_decide_eq_true hr)])
        clear HD
        go_wp2_with fail
        go_roundg (n - (k + 1))
        case measure => omega
        case rel => exact ⟨k + 1, v1, by omega, Nat.le_refl _, by go_num, rfl, HD2, HB⟩
    · have hd1 : decide ((k : Int) < (n : Int)) = false := by rw [decide_eq_false_iff_not]; omega
      have HE2 : Hid (ep = e) := Lib.hid (by rw [HF.out, List.drop_eq_nil_of_le (by rw [HN.out]; omega)]; rfl)
      go_wp2_with fail
      go_ret
      exact ⟨by rw [HE2.out]; rfl, HB.out⟩

set_option maxHeartbeats 4000000 in
set_option maxRecDepth 100000 in
theorem DParts_any {w : World} {A1 A2 : Option Addr} {c1 c2 : Nat} {l m : List Br} (h1 : BrsAt w w.heap.size A1 l) (h2 : BrsAt w w.heap.size A2 m) (hl1 : l.length ≤ 9223372036854775807) :
    Calls Try.prog 30 #[.slice A1 l.length c1, .slice A2 m.length c2] w fun e w' => e = .returned (.int .i64 (partsB l m)) ∧ Below w.heap.size w w' := by
  have H1 := Lib.hid h1
  have H2 := Lib.hid h2
  obtain ⟨n1, hn1⟩ : ∃ n, l.length = n := ⟨_, rfl⟩
  obtain ⟨n2, hn2⟩ : ∃ n, m.length = n := ⟨_, rfl⟩
  have HN1 := Lib.hid hn1
  have HN2 := Lib.hid hn2
  rw [hn1, hn2]
  rw [hn1] at hl1
  have mixed : Try.prog.follows .mixedOrders = true := by kernel_rfl
  obtain ⟨D, hD⟩ : ∃ D, partsB l m = D := ⟨_, rfl⟩
  have HD0 : Hid (D = partsB (l.drop 0) (m.drop 0)) := Lib.hid (by rw [← hD]; rfl)
  rw [hD]
  clear h1 h2 hn1 hn2 hD
  go_enter Try.func30, Try.ntmps30
  go_wp2
  go_loopg [5] n1 (fun kx i wr => ∃ k : Nat, k ≤ n1 ∧ n1 - k ≤ kx ∧ i = .int .i64 k ∧ Hid (D = partsB (l.drop k) (m.drop k)) ∧ Hid (Below w.heap.size w wr))
  case atStart => exact ⟨0, Nat.zero_le _, by omega, rfl, HD0, Lib.hid (Below.refl _ _)⟩
  case round =>
    obtain ⟨k, hk, hkx, rfl, HK, HB⟩ := hrel
    by_cases hlt : k < n1
    · have hk1 : k < l.length := by rw [HN1.out]; exact hlt
      obtain ⟨b1, o1, hA1, _, x1, x2⟩ := H1.out.at_ HB.out hk1
      subst hA1
      have hk0 : (0 : Int) ≤ (k : Int) := Int.natCast_nonneg _
      have hk8 : (k : Int) < (n1 : Int) := by omega
      have w1 : ∀ z, (wr.drewN z).cell? ⟨b1, o1 + k * 2 + 1, none⟩ = some (.int .i64 l[k].2) := fun z => x2
      obtain ⟨u, hu⟩ : ∃ u, l[k] = u := ⟨_, rfl⟩
      by_cases hltb : k < n2
      · have hd2 : decide ((n2 : Int) ≤ (k : Int)) = false := by rw [decide_eq_false_iff_not]; omega
        have hk2 : k < m.length := by rw [HN2.out]; exact hltb
        obtain ⟨b2, o2, hA2, _, y1, y2⟩ := H2.out.at_ HB.out hk2
        subst hA2
        have HNo : Hid (l[k] ≠ m[k] → D = l[k].2) := Lib.hid (fun h => by rw [HK.out, drop_at hk1, drop_at hk2, partsB_ne h])
        have HYes : Hid (l[k] = m[k] → D = partsB (l.drop (k + 1)) (m.drop (k + 1))) := Lib.hid (fun h => by rw [HK.out, drop_at hk1, drop_at hk2, partsB_same h])
        obtain ⟨v, hv⟩ : ∃ v, m[k] = v := ⟨_, rfl⟩
        rw [hu] at x1 x2 w1 HNo HYes
        rw [hv] at y1 y2 HNo HYes
        clear hu hv hk1 hk2 HK
        obtain ⟨i1, j1⟩ := u
        obtain ⟨i2, j2⟩ := v
        simp only at x1 x2 y1 y2 w1
        have hk9 : (k : Int) < (n2 : Int) := by omega
        have hne := neq_br (i1, j1) (i2, j2)
        have hgd := guard_br
        simp only at hne
        by_cases he : ((i1, j1) : Br) = (i2, j2)
        · have HE := Lib.hid (HYes.out he)
          rw [he, sameB_self, Bool.not_true] at hne
          have e1 : i1 = i2 := congrArg Prod.fst he
          have e2 : j1 = j2 := congrArg Prod.snd he
          subst e1
          subst e2
          clear he HYes HNo
          go_wp2_with fail
          go_quiet (fail)
          go_wp2_with fail
          go_roundg (n1 - (k + 1))
          case measure => omega
          case rel => exact ⟨k + 1, by omega, Nat.le_refl _, by go_num, HE, Lib.hid (HB.out.trans ⟨rfl, rfl, rfl, Nat.le_refl _, fun _ _ => rfl⟩)⟩
        · have HE := Lib.hid (HNo.out he)
          rw [sameB_ne he, Bool.not_false] at hne
          clear he HYes HNo
          go_wp2_with fail
          go_quiet (fail)
          go_wp2_with fail
          go_ret
          exact ⟨by rw [HE.out]; rfl, HB.out.trans ⟨rfl, rfl, rfl, Nat.le_refl _, fun _ _ => rfl⟩⟩
      · have hd2 : decide ((n2 : Int) ≤ (k : Int)) = true := by rw [decide_eq_true_iff]; omega
        have HE : Hid (D = l[k].2) := Lib.hid (by rw [HK.out]; exact parts_past hk1 (by rw [HN2.out]; omega))
        rw [hu] at x1 x2 w1 HE
        clear hu hk1 HK
        obtain ⟨i1, j1⟩ := u
        simp only at x1 x2 w1 HE
        go_wp2_with fail
        go_quiet (fail)
        go_wp2_with fail
        go_ret
        exact ⟨by rw [HE.out]; rfl, HB.out.trans ⟨rfl, rfl, rfl, Nat.le_refl _, fun _ _ => rfl⟩⟩
    · have hltz : ¬ (k : Int) < (n1 : Int) := by omega
      have HE : Hid (D = -1) := Lib.hid (by rw [HK.out, List.drop_eq_nil_of_le (by rw [HN1.out]; omega), partsB_nil])
      go_wp2_with fail
      go_ret
      exact ⟨by rw [HE.out]; rfl, HB.out⟩
end Go.Proofs.Ytokdicaoonjimaa
