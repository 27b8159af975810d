/- Snapshots: contracts of Read, of the document's Read and Note. -/
import Derived.Test.YtaenlcokgplgkaaSnapR
namespace Go.Proofs.Ytaenlcokgplgkaa
open Go.Shelf Go.RowKit Go.Lib Go.Sort

theorem noteL_take {ks ws : List Wr} {vs : List Vl} {k : Nat} (hk : k < vs.length) : noteL ks ws (vs.take (k + 1)) = noteL ks ws (vs.take k) ++ noteV ks ws vs[k] := by
  unfold noteL; rw [List.take_succ_eq_append_getElem hk, List.flatMap_append]; simp
def noteT (ks ws : List Wr) (id : Int) (bs : List ByteArray) (t : Nat) : List Wr := (List.range t).filterMap (noteB ks ws id bs)
theorem noteT_zero (ks ws : List Wr) (id : Int) (bs : List ByteArray) : noteT ks ws id bs 0 = [] := rfl
theorem noteT_some {ks ws : List Wr} {id : Int} {bs : List ByteArray} {t : Nat} {x : Wr} (h : noteB ks ws id bs t = some x) : noteT ks ws id bs (t + 1) = noteT ks ws id bs t ++ [x] := by
  unfold noteT; rw [List.range_succ, List.filterMap_append]; simp [h]
theorem noteT_none {ks ws : List Wr} {id : Int} {bs : List ByteArray} {t : Nat} (h : noteB ks ws id bs t = none) : noteT ks ws id bs (t + 1) = noteT ks ws id bs t := by
  unfold noteT; rw [List.range_succ, List.filterMap_append]; simp [h]

set_option maxHeartbeats 8000000 in
set_option maxRecDepth 100000 in
theorem RefNote_any {w : World} {A A2 A3 : Option Addr} {c c2 c3 : Nat} {vs : List Vl} {ks ws : List Wr} (h : VolsAt w w.heap.size A vs) (hf : VolsFit vs) (h2 : WrsAt w w.heap.size A2 ks) (hn : ks.length ≤ 200) (h3 : WrsAt w w.heap.size A3 ws) (hm : ws.length ≤ 200) (most : Int) :
    Calls Try.prog 11 #[.slice A2 ks.length c2, .slice A vs.length c, .slice A3 ws.length c3, .int .i64 most] w (WrsErr (noteR ks ws vs most) (noteE ks ws vs most) w) := by
  have H1 := Lib.hid h
  have HF := Lib.hid hf
  have H2 := Lib.hid h2
  have H3 := Lib.hid h3
  have hk1 : ks.length ≤ 1000 := by omega
  have hl : ws.length ≤ 9223372036854775807 := by omega
  have HB0 := Lib.hid (Below.refl w.heap.size w)
  clear h hf h2 h3
  cases hk : keepB ks vs with
  | false =>
    rw [(note_bad hk).1, (note_bad hk).2]
    have HK := Lib.hid hk
    clear hk
    go_enter Try.func11, Try.ntmps11
    go_wp2_with fail
    refine (RefKeep_any H1.out HF.out H2.out hk1).mono ?_
    rw [HK.out]
    rintro e w1 ⟨rfl, hb1⟩
    have HB1 : Hid (Below w.heap.size w w1) := Lib.hid (HB0.out.trans (hb1.mono HB0.out.size))
    clear hb1
    go_wp2_with fail
    go_ret2
    exact WrsErr.none_ _ HB1.out
  | true =>
    have HK := Lib.hid hk
    by_cases h0 : checkE vs ws = 0
    · have H0 := Lib.hid h0
      have hr := (right_apply h0).1
      obtain ⟨hs4, hs32⟩ := right_small hr
      have HS32 := Lib.hid hs32
      have HNL : Hid (noteN ks ws vs = noteL ks ws vs) := Lib.hid (noteN_is hk h0)
      have HEnd : Hid (∀ (A : Option Addr) (c : Nat) (w' : World), WrsAt w' w'.heap.size A (noteL ks ws vs) → (A = none → c = 0) → Below w.heap.size w w' → ¬ most < ((noteL ks ws vs).length : Int) → WrsErr (noteR ks ws vs most) (noteE ks ws vs most) w (.returned (.tuple #[.slice A (noteL ks ws vs).length c, .int .i64 0])) w') := Lib.hid (fun A c w' h1 h2 h3 h4 => by
        rw [← HNL.out] at h1 h4 ⊢
        rw [(note_fine hk h0 h4).1, (note_fine hk h0 h4).2]
        exact ⟨A, c, rfl, h1, h2, h3⟩)
      have HFull : Hid (∀ (w' : World), Below w.heap.size w w' → most < ((noteL ks ws vs).length : Int) → WrsErr (noteR ks ws vs most) (noteE ks ws vs most) w (.returned (.tuple #[.slice none 0 0, .int .i64 15])) w') := Lib.hid (fun w' h3 h4 => by
        rw [← HNL.out] at h4
        rw [(note_full hk h0 h4).1, (note_full hk h0 h4).2]
        exact WrsErr.none_ _ h3)
      have HLk : Hid (∀ w1 c2 id b, Below w.heap.size w w1 → Calls Try.prog 29 #[.slice A2 ks.length c2, .int .i64 id, .int .i64 b] w1 fun e w' => e = .returned (.tuple #[.string ((lastF ks id b).getD ByteArray.empty), .bool (lastF ks id b).isSome]) ∧ w1 = w') := Lib.hid (fun w1 c2 id b hb => RefLast_any (H2.out.next hb) hn id b)
      have HLw : Hid (∀ w1 c2 id b, Below w.heap.size w w1 → Calls Try.prog 29 #[.slice A3 ws.length c2, .int .i64 id, .int .i64 b] w1 fun e w' => e = .returned (.tuple #[.string ((lastF ws id b).getD ByteArray.empty), .bool (lastF ws id b).isSome]) ∧ w1 = w') := Lib.hid (fun w1 c2 id b hb => RefLast_any (H3.out.next hb) hm id b)
      clear hk h0 hr hs32 HNL
      generalize noteR ks ws vs most = R at HEnd HFull ⊢
      generalize noteE ks ws vs most = E at HEnd HFull ⊢
      obtain ⟨i0, hi0, hz0, hz1, hz2⟩ := info_parts Try.infoWr
      obtain ⟨n, hn'⟩ : ∃ n, vs.length = n := ⟨_, rfl⟩
      have HN := Lib.hid hn'
      rw [hn'] at hs4 ⊢
      have HKa : Hid (∀ c c2, Calls Try.prog 14 #[.slice A2 ks.length c2, .slice A n c] w fun e w' => e = .returned (.bool true) ∧ Below w.heap.size w w') := Lib.hid (fun c c2 => by
        have := RefKeep_any (c := c) (c2 := c2) H1.out HF.out H2.out hk1
        rw [HK.out, hn'] at this
        exact this)
      have HCa : Hid (∀ w1 c c3, Below w.heap.size w w1 → Calls Try.prog 28 #[.slice A n c, .slice A3 ws.length c3] w1 fun e w' => e = .returned (.int .i64 0) ∧ Below w1.heap.size w1 w') := Lib.hid (fun w1 c c3 hb => by
        have := RefCheck_any (c := c) (c2 := c3) (H1.out.next hb) HF.out (H3.out.next hb) hl
        rw [H0.out, hn'] at this
        exact this)
      clear hn'
      go_enter Try.func11, Try.ntmps11
      go_wp2_with fail
      refine (HKa.out _ _).mono ?_
      rintro e w1 ⟨rfl, hb1⟩
      have HB1 : Hid (Below w.heap.size w w1) := Lib.hid (HB0.out.trans (hb1.mono HB0.out.size))
      clear hb1
      go_wp2_with fail
      refine (HCa.out _ _ _ HB1.out).mono ?_
      rintro e w2 ⟨rfl, hb2⟩
      have HB2 : Hid (Below w.heap.size w w2) := Lib.hid (HB1.out.trans (hb2.mono HB1.out.size))
      clear hb2 HB1 HKa HCa
      go_wp2_with fail
      go_loopg [11, 12] n (fun kx s11 s12 wr => ∃ k m : Nat, s12 = .int .i64 k ∧ k ≤ n ∧ n - k ≤ kx ∧ m ≤ 32 * k ∧ Hid ((noteL ks ws (vs.take k)).length = m) ∧ Hid (wr.ownsRow w.heap.size 55 3 s11 m (wrCells (noteL ks ws (vs.take k)))) ∧ Hid (Below w.heap.size w wr))
      case atStart => exact ⟨0, 0, rfl, Nat.zero_le _, by omega, by omega, Lib.hid rfl, Lib.hid (World.ownsRow_nil _ _ _ _), HB2⟩
      case round =>
        obtain ⟨k, m, rfl, hk, hkx, hmk, HM, HO, HB⟩ := hrel
        obtain ⟨A4, c4, h4, hxx⟩ := own_lies HO.out
        clear hxx
        subst h4
        obtain ⟨W0, hW0⟩ : ∃ W0, W0 = wr := ⟨_, rfl⟩
        subst hW0
        by_cases hlt : k < n
        · have hltz : (k : Int) < (n : Int) := by omega
          have hkl : k < vs.length := by rw [HN.out]; exact hlt
          have hb32 := HS32.out _ (List.getElem_mem hkl)
          have HT : Hid (noteL ks ws (vs.take (k + 1)) = noteL ks ws (vs.take k) ++ noteT ks ws vs[k].1 vs[k].2 vs[k].2.length) := Lib.hid (noteL_take hkl)
          have HAt : Hid (∀ w', Below w.heap.size w w' → ∃ b off a c, A = some ⟨b, off, none⟩ ∧ b < w.heap.size ∧ w'.cell? ⟨b, off + k * 2, none⟩ = some (.int .i64 vs[k].1) ∧ w'.cell? ⟨b, off + k * 2 + 1, none⟩ = some (.slice a vs[k].2.length c) ∧ Lies w' w.heap.size a (vs[k].2.map Value.string)) := Lib.hid (fun w' hb => H1.out.at_ hb hkl)
          obtain ⟨v, hv⟩ : ∃ v, vs[k] = v := ⟨_, rfl⟩
          rw [hv] at HT HAt hb32
          clear hv hkl
          obtain ⟨id, bs⟩ := v
          simp only at HT HAt hb32
          obtain ⟨q, hq⟩ : ∃ q, bs.length = q := ⟨_, rfl⟩
          have HQ := Lib.hid hq
          rw [hq] at HAt hb32 HT
          clear hq
          generalize noteL ks ws (vs.take k) = L0 at HT HM HO
          go_wp2_with fail
          go_loopg [11, 13] q (fun kx s11 s13 wr => ∃ t m : Nat, s13 = .int .i64 t ∧ t ≤ q ∧ q - t ≤ kx ∧ m ≤ 32 * k + t ∧ Hid ((L0 ++ noteT ks ws id bs t).length = m) ∧ Hid (wr.ownsRow w.heap.size 55 3 s11 m (wrCells (L0 ++ noteT ks ws id bs t))) ∧ Hid (Below w.heap.size w wr))
          case atStart => exact ⟨0, m, rfl, Nat.zero_le _, by omega, by omega, Lib.hid (by rw [noteT_zero, List.append_nil]; exact HM.out), Lib.hid (by rw [noteT_zero, List.append_nil]; exact HO.out), HB⟩
          case round =>
            obtain ⟨t, m2, rfl, ht, hkx2, hm2, HM2, HO2, HBi⟩ := hrel
            obtain ⟨A5, c5, h5, hxx⟩ := own_lies HO2.out
            clear hxx
            subst h5
            have hwi : w.heap.size ≤ wr.heap.size := HBi.out.size
            obtain ⟨b, off, a, c', hA, hbl, x1, x2, hly⟩ := HAt.out wr HBi.out
            have hbw : b < wr.heap.size := by omega
            by_cases htq : t < q
            · have htz : (t : Int) < (q : Int) := by omega
              have htl : t < bs.length := by rw [HQ.out]; exact htq
              obtain ⟨b2, off2, hA2, _, y3⟩ := hly.text (Below.refl _ _) htl
              have hBd : Hid (bs.getD t ByteArray.empty = bs[t]) := Lib.hid (by rw [List.getD_eq_getElem?_getD, List.getElem?_eq_getElem htl]; rfl)
              have HNB : Hid (noteB ks ws id bs t = match lastF ks id (t : Int) with | some d => some ⟨id, t, d⟩ | none => if (lastF ws id (t : Int)).isSome = true then some ⟨id, t, bs[t]⟩ else none) := Lib.hid (by unfold noteB; rw [hBd.out]; cases lastF ks id (t : Int) <;> rfl)
              obtain ⟨s0, hs0⟩ : ∃ s0, bs[t] = s0 := ⟨_, rfl⟩
              rw [hs0] at y3 HNB
              clear hs0 htl hly hBd
              have HLk2 : Hid (∀ c2, Calls Try.prog 29 #[.slice A2 ks.length c2, .int .i64 id, .int .i64 t] wr fun e w' => e = .returned (.tuple #[.string ((lastF ks id t).getD ByteArray.empty), .bool (lastF ks id t).isSome]) ∧ wr = w') := Lib.hid (fun c2 => HLk.out wr c2 id t HBi.out)
              have HLw2 : Hid (∀ c2, Calls Try.prog 29 #[.slice A3 ws.length c2, .int .i64 id, .int .i64 t] wr fun e w' => e = .returned (.tuple #[.string ((lastF ws id t).getD ByteArray.empty), .bool (lastF ws id t).isSome]) ∧ wr = w') := Lib.hid (fun c2 => HLw.out wr c2 id t HBi.out)
              subst hA
              subst hA2
              obtain ⟨lf, hlf⟩ : ∃ lf, lastF ks id (t : Int) = lf := ⟨_, rfl⟩
              obtain ⟨lg, hlg⟩ : ∃ lg, lastF ws id (t : Int) = lg := ⟨_, rfl⟩
              rw [hlf] at HLk2 HNB
              rw [hlg] at HLw2 HNB
              clear hlf hlg
              cases lf with
              | some d =>
                have HT2 : Hid (noteT ks ws id bs (t + 1) = noteT ks ws id bs t ++ [⟨id, t, d⟩]) := Lib.hid (noteT_some HNB.out)
                simp only [Option.getD_some, Option.isSome_some] at HLk2
                obtain ⟨q2, hq2⟩ : ∃ q2, lg.isSome = q2 := ⟨_, rfl⟩
                rw [hq2] at HLw2
                obtain ⟨s2, hs2⟩ : ∃ s2, lg.getD ByteArray.empty = s2 := ⟨_, rfl⟩
                rw [hs2] at HLw2
                clear hq2 hs2 HNB
                go_wp2_with fail
                refine (HLk2.out _).mono ?_
                rintro e w' ⟨rfl, rfl⟩
                go_wp2_with fail
                refine (HLw2.out _).mono ?_
                rintro e w' ⟨rfl, rfl⟩
                go_wp2_with (at_builtin; refine wpList_append_own _ rfl (.tmp 80) (.tmp 89) 22 rfl w.heap.size 55 i0 (.agg #[.int .i64 0, .int .i64 0, .string ByteArray.empty]) 3 32 Try.underlying22 hi0 hz0 hz1 hz2 rfl (by decide) (.slice A5 m2 c5) m2 (wrCells (L0 ++ noteT ks ws id bs t)) rfl (HO2.out.alloc _) ⟨wr.heap.size, 0, none⟩ 1 1 [.int .i64 id, .int .i64 t, .string d] rfl rfl (cell_three_new _ _ _ _ _) (by intro u hu; simp at hu; rcases hu with rfl | rfl | rfl <;> rfl) ?c4 ?c5 ?c6 ?_)
                case c4 => unfold maxLen; omega
                case c5 => omega
                case c6 => simp; omega
                intro v6 w6 hown hg _
                have HO6 : Hid (w6.ownsRow w.heap.size 55 3 v6 (m2 + 1) (wrCells (L0 ++ noteT ks ws id bs (t + 1)))) := Lib.hid (by rw [HT2.out, ← List.append_assoc, wrCells_append]; exact hown)
                have HM6 : Hid ((L0 ++ noteT ks ws id bs (t + 1)).length = m2 + 1) := Lib.hid (by rw [HT2.out, ← List.append_assoc, List.length_append, HM2.out]; rfl)
                have HB6 : Hid (Below w.heap.size w w6) := Lib.hid ((HBi.out.alloc hwi _).grown hg (by simp; omega) (fun q hq => (HO2.out.lt q hq).1))
                clear hown hg x1 x2 y3
                go_wp2_with fail
                go_roundg (q - (t + 1))
                case measure => omega
                case rel => exact ⟨t + 1, m2 + 1, by go_num, by omega, Nat.le_refl _, by omega, HM6, HO6, HB6⟩
              | none =>
                simp only [Option.getD_none, Option.isSome_none] at HLk2
                cases lg with
                | some d =>
                  have HT2 : Hid (noteT ks ws id bs (t + 1) = noteT ks ws id bs t ++ [⟨id, t, s0⟩]) := Lib.hid (noteT_some HNB.out)
                  simp only [Option.getD_some, Option.isSome_some] at HLw2
                  clear HNB
                  go_wp2_with fail
                  refine (HLk2.out _).mono ?_
                  rintro e w' ⟨rfl, rfl⟩
                  go_wp2_with fail
                  refine (HLw2.out _).mono ?_
                  rintro e w' ⟨rfl, rfl⟩
                  go_wp2_with (at_builtin; refine wpList_append_own _ rfl (.tmp 80) (.tmp 89) 22 rfl w.heap.size 55 i0 (.agg #[.int .i64 0, .int .i64 0, .string ByteArray.empty]) 3 32 Try.underlying22 hi0 hz0 hz1 hz2 rfl (by decide) (.slice A5 m2 c5) m2 (wrCells (L0 ++ noteT ks ws id bs t)) rfl (HO2.out.alloc _) ⟨wr.heap.size, 0, none⟩ 1 1 [.int .i64 id, .int .i64 t, .string s0] rfl rfl (cell_three_new _ _ _ _ _) (by intro u hu; simp at hu; rcases hu with rfl | rfl | rfl <;> rfl) ?c4 ?c5 ?c6 ?_)
                  case c4 => unfold maxLen; omega
                  case c5 => omega
                  case c6 => simp; omega
                  intro v6 w6 hown hg _
                  have HO6 : Hid (w6.ownsRow w.heap.size 55 3 v6 (m2 + 1) (wrCells (L0 ++ noteT ks ws id bs (t + 1)))) := Lib.hid (by rw [HT2.out, ← List.append_assoc, wrCells_append]; exact hown)
                  have HM6 : Hid ((L0 ++ noteT ks ws id bs (t + 1)).length = m2 + 1) := Lib.hid (by rw [HT2.out, ← List.append_assoc, List.length_append, HM2.out]; rfl)
                  have HB6 : Hid (Below w.heap.size w w6) := Lib.hid ((HBi.out.alloc hwi _).grown hg (by simp; omega) (fun q hq => (HO2.out.lt q hq).1))
                  clear hown hg x1 x2 y3
                  go_wp2_with fail
                  go_roundg (q - (t + 1))
                  case measure => omega
                  case rel => exact ⟨t + 1, m2 + 1, by go_num, by omega, Nat.le_refl _, by omega, HM6, HO6, HB6⟩
                | none =>
                  have HT2 : Hid (noteT ks ws id bs (t + 1) = noteT ks ws id bs t) := Lib.hid (noteT_none HNB.out)
                  simp only [Option.getD_none, Option.isSome_none] at HLw2
                  clear HNB
                  go_wp2_with fail
                  refine (HLk2.out _).mono ?_
                  rintro e w' ⟨rfl, rfl⟩
                  go_wp2_with fail
                  refine (HLw2.out _).mono ?_
                  rintro e w' ⟨rfl, rfl⟩
                  go_wp2_with fail
                  go_roundg (q - (t + 1))
                  case measure => omega
                  case rel => exact ⟨t + 1, m2, by go_num, by omega, Nat.le_refl _, by omega, Lib.hid (by rw [HT2.out]; exact HM2.out), Lib.hid (by rw [HT2.out]; exact HO2.out), HBi⟩
            · have htz : ¬ (t : Int) < (q : Int) := by omega
              have etq : t = q := by omega
              have HM3 : Hid ((noteL ks ws (vs.take (k + 1))).length = m2) := Lib.hid (by rw [HT.out, ← etq]; exact HM2.out)
              have HO3 : Hid (wr.ownsRow w.heap.size 55 3 (.slice A5 m2 c5) m2 (wrCells (noteL ks ws (vs.take (k + 1))))) := Lib.hid (by rw [HT.out, ← etq]; exact HO2.out)
              clear etq hly
              subst hA
              go_wp2_with fail
              go_roundg (n - (k + 1))
              case measure => omega
              case rel => exact ⟨k + 1, m2, by go_num, by omega, Nat.le_refl _, by omega, HM3, HO3, HBi⟩
        · have hltz : ¬ (k : Int) < (n : Int) := by omega
          have e1 : vs.take k = vs := List.take_of_length_le (by rw [HN.out]; omega)
          have HO9 : Hid (W0.ownsRow w.heap.size 55 3 (.slice A4 m c4) m (wrCells (noteL ks ws vs))) := Lib.hid (by have := HO.out; rwa [e1] at this)
          have HM9 : Hid ((noteL ks ws vs).length = m) := Lib.hid (by have := HM.out; rwa [e1] at this)
          have HL9 : Hid (WrsAt W0 W0.heap.size A4 (noteL ks ws vs) ∧ (A4 = none → c4 = 0)) := Lib.hid (by
            have hO := HO9.out
            rw [← HM9.out] at hO
            obtain ⟨A8, c8, e8, g1, g2, _⟩ := own_end hO (Below.refl W0.heap.size W0)
            simp only [Ending.returned.injEq, Value.slice.injEq] at e8
            obtain ⟨rfl, _, rfl⟩ := e8
            exact ⟨g1, g2⟩)
          clear e1
          by_cases hmo : most < (m : Int)
          · have HQ := Lib.hid (HFull.out W0 HB.out (by rw [HM9.out]; omega))
            go_wp2_with fail
            go_ret2
            exact HQ.out
          · have HQ := Lib.hid (HEnd.out A4 c4 W0 HL9.out.1 HL9.out.2 HB.out (by rw [HM9.out]; omega))
            rw [HM9.out] at HQ
            go_wp2_with fail
            go_ret2
            exact HQ.out
    · rw [(note_no hk h0).1, (note_no hk h0).2]
      obtain ⟨E, hE⟩ : ∃ E, checkE vs ws = E := ⟨_, rfl⟩
      rw [hE] at h0 ⊢
      have h0' : (E != 0) = true := by rw [bne_iff_ne]; exact h0
      have HE := Lib.hid hE
      clear hE h0 hk
      go_enter Try.func11, Try.ntmps11
      go_wp2_with fail
      refine (RefKeep_any H1.out HF.out H2.out hk1).mono ?_
      rw [HK.out]
      rintro e w1 ⟨rfl, hb1⟩
      have HB1 : Hid (Below w.heap.size w w1) := Lib.hid (HB0.out.trans (hb1.mono HB0.out.size))
      clear hb1
      go_wp2_with fail
      refine (RefCheck_any (H1.out.next HB1.out) HF.out (H3.out.next HB1.out) hl).mono ?_
      rw [HE.out]
      rintro e w2 ⟨rfl, hb2⟩
      have HB2 : Hid (Below w.heap.size w w2) := Lib.hid (HB1.out.trans (hb2.mono HB1.out.size))
      clear hb2
      go_wp2_with fail
      go_ret2
      exact WrsErr.none_ _ HB2.out

/-! ### Read -/

theorem read_bad {ks : List Wr} {vs : List Vl} (h : keepB ks vs = false) (vol block : Int) : readE ks vs vol block = 1 ∧ readS ks vs vol block = ByteArray.empty := by
  unfold readE readS; rw [h]; exact ⟨rfl, rfl⟩
theorem read_hit {ks : List Wr} {vs : List Vl} (h : keepB ks vs = true) {vol block : Int} {d : ByteArray} (hd : lastF ks vol block = some d) : readE ks vs vol block = 0 ∧ readS ks vs vol block = d := by
  unfold readE readS; rw [if_pos h, if_pos h, hd]; exact ⟨kept_in h hd, rfl⟩
theorem read_miss {ks : List Wr} {vs : List Vl} (h : keepB ks vs = true) {vol block : Int} (hd : lastF ks vol block = none) : readE ks vs vol block = gotE vs vol block ∧ readS ks vs vol block = gotS vs vol block := by
  unfold readE readS; rw [if_pos h, if_pos h, hd]; exact ⟨rfl, rfl⟩
theorem keep_right {ks : List Wr} {vs : List Vl} (h : keepB ks vs = true) : rightB vs = true := (right_apply (keep_check h)).1
theorem gotS_no {vs : List Vl} (h : rightB vs = true) {vol block : Int} (he : gotE vs vol block ≠ 0) : gotS vs vol block = ByteArray.empty := by
  have hg := rightB_good h
  rw [gotS_loc hg, if_neg (by rw [← gotE_loc hg]; exact he)]
theorem read_no {ks : List Wr} {vs : List Vl} (h : keepB ks vs = true) {vol block : Int} (he : gotE vs vol block ≠ 0) : readE ks vs vol block = gotE vs vol block ∧ readS ks vs vol block = ByteArray.empty := by
  cases hd : lastF ks vol block with
  | some d => exact absurd (kept_in h hd) he
  | none =>
    obtain ⟨h1, h2⟩ := read_miss h hd
    exact ⟨h1, by rw [h2]; exact gotS_no (keep_right h) he⟩

set_option maxHeartbeats 4000000 in
set_option maxRecDepth 100000 in
theorem Read_any {w : World} {A A2 : Option Addr} {c c2 : Nat} {vs : List Vl} {ks : List Wr} (h : VolsAt w w.heap.size A vs) (hf : VolsFit vs) (h2 : WrsAt w w.heap.size A2 ks) (hn : ks.length ≤ 1000) (vol block : Int) :
    Calls Try.prog 15 #[.slice A2 ks.length c2, .slice A vs.length c, .int .i64 vol, .int .i64 block] w fun e w' => e = .returned (.tuple #[.string (readS ks vs vol block), .int .i64 (readE ks vs vol block)]) ∧ Below w.heap.size w w' := by
  have H1 := Lib.hid h
  have HF := Lib.hid hf
  have H2 := Lib.hid h2
  have hk1 : ks.length ≤ 1000 := by omega
  have HB0 := Lib.hid (Below.refl w.heap.size w)
  clear h hf h2
  cases hk : keepB ks vs with
  | false =>
    rw [(read_bad hk _ _).1, (read_bad hk _ _).2]
    have HK := Lib.hid hk
    clear hk
    go_enter Try.func15, Try.ntmps15
    go_wp2_with fail
    refine (SnapRight_any H1.out HF.out H2.out hk1).mono ?_
    rw [HK.out]
    rintro e w1 ⟨rfl, hb1⟩
    have HB1 : Hid (Below w.heap.size w w1) := Lib.hid (HB0.out.trans (hb1.mono HB0.out.size))
    clear hb1
    go_wp2_with fail
    go_ret2
    exact ⟨rfl, HB1.out⟩
  | true =>
    have HK := Lib.hid hk
    have HSo := Lib.hid ((keepB_iff _ _).1 hk).2
    have HR := Lib.hid (keep_right hk)
    clear hk
    have HG : Hid (∀ w1 c, Below w.heap.size w w1 → Calls Try.prog 24 #[.slice A vs.length c, .int .i64 vol, .int .i64 block] w1 fun e w' => e = .returned (.tuple #[.string (gotS vs vol block), .int .i64 (gotE vs vol block)]) ∧ Below w1.heap.size w1 w') := Lib.hid (fun w1 c hb => by
      have := Get_any (c := c) (H1.out.next hb) HF.out vol block
      rw [show gtS vs vol block = gotS vs vol block from by unfold gtS; rw [if_pos HR.out], show gtE vs vol block = gotE vs vol block from by unfold gtE; rw [if_pos HR.out]] at this
      exact this)
    have HRt : Hid (∀ c c2, Calls Try.prog 13 #[.slice A2 ks.length c2, .slice A vs.length c] w fun e w' => e = .returned (.bool true) ∧ Below w.heap.size w w') := Lib.hid (fun c c2 => by
      have := SnapRight_any (c := c) (c2 := c2) H1.out HF.out H2.out hk1
      rw [HK.out] at this
      exact this)
    obtain ⟨n, hn'⟩ : ∃ n, ks.length = n := ⟨_, rfl⟩
    have HN := Lib.hid hn'
    rw [hn'] at hn HRt ⊢
    clear hn' hk1
    go_enter Try.func15, Try.ntmps15
    go_wp2_with fail
    refine (HRt.out _ _).mono ?_
    rintro e w1 ⟨rfl, hb1⟩
    have HB1 : Hid (Below w.heap.size w w1) := Lib.hid (HB0.out.trans (hb1.mono HB0.out.size))
    clear hb1
    go_wp2_with fail
    go_loopg [18] n (fun kx s18 wr => ∃ k : Nat, s18 = .int .i64 k ∧ k ≤ n ∧ n - k ≤ kx ∧ Hid (lastF ks vol block = firstF (ks.drop k) vol block) ∧ Hid (Below w.heap.size w wr))
    case atStart => exact ⟨0, rfl, Nat.zero_le _, by omega, Lib.hid (firstF_sorted HSo.out vol block).symm, HB1⟩
    case round =>
      obtain ⟨k, rfl, hk, hkx, HL, HB⟩ := hrel
      by_cases hlt : k < n
      · have hltz : (k : Int) < (n : Int) := by omega
        have hkl : k < ks.length := by rw [HN.out]; exact hlt
        have hwz : w.heap.size ≤ wr.heap.size := HB.out.size
        obtain ⟨b, off, hA, hbl, x1, x2, x3⟩ := H2.out.at_ HB.out hkl
        have hbw : b < wr.heap.size := by omega
        have HD := Lib.hid (firstF_drop hkl vol block)
        subst hA
        obtain ⟨x, hx⟩ : ∃ x, ks[k] = x := ⟨_, rfl⟩
        rw [hx] at x1 x2 x3 HD
        clear hx hkl
        obtain ⟨vol', block', data⟩ := x
        simp only at x1 x2 x3 HD
        have HB2 := Lib.hid (HB.out.alloc hwz (.cells #[.int .i64 vol', .int .i64 block', .string data] 55))
        by_cases hvv : vol' = vol
        · have hv' : (vol' == vol) = true := by simp [hvv]
          by_cases hbb : block' = block
          · have hb' : (block' == block) = true := by simp [hbb]
            have HE := Lib.hid (read_hit HK.out (HL.out.trans (HD.out.trans (by rw [if_pos ⟨hvv, hbb⟩]))))
            clear hvv hbb HL HD
            go_wp2_with fail
            go_ret2
            exact ⟨by rw [HE.out.1, HE.out.2]; rfl, HB2.out⟩
          · have hb' : (block' == block) = false := by simp [hbb]
            have HL2 : Hid (lastF ks vol block = firstF (ks.drop (k + 1)) vol block) := Lib.hid (HL.out.trans (HD.out.trans (by rw [if_neg (fun e => hbb e.2)])))
            clear hvv hbb HL HD
            go_wp2_with fail
            go_roundg (n - (k + 1))
            case measure => omega
            case rel => exact ⟨k + 1, by go_num, by omega, Nat.le_refl _, HL2, HB2⟩
        · have hv' : (vol' == vol) = false := by simp [hvv]
          have HL2 : Hid (lastF ks vol block = firstF (ks.drop (k + 1)) vol block) := Lib.hid (HL.out.trans (HD.out.trans (by rw [if_neg (fun e => hvv e.1)])))
          clear hvv HL HD
          go_wp2_with fail
          go_roundg (n - (k + 1))
          case measure => omega
          case rel => exact ⟨k + 1, by go_num, by omega, Nat.le_refl _, HL2, HB2⟩
      · have hltz : ¬ (k : Int) < (n : Int) := by omega
        have HE : Hid (readE ks vs vol block = gotE vs vol block ∧ readS ks vs vol block = gotS vs vol block) := Lib.hid (read_miss HK.out (by rw [HL.out, List.drop_of_length_le (by rw [HN.out]; omega)]; rfl))
        obtain ⟨E, hE⟩ : ∃ E, gotE vs vol block = E := ⟨_, rfl⟩
        obtain ⟨S, hS⟩ : ∃ S, gotS vs vol block = S := ⟨_, rfl⟩
        rw [hE, hS] at HG HE
        clear HL hE hS
        go_wp2_with fail
        refine (HG.out _ _ HB.out).mono ?_
        rintro e w2 ⟨rfl, hb2⟩
        have HB2 : Hid (Below w.heap.size w w2) := Lib.hid (HB.out.trans (hb2.mono HB.out.size))
        clear hb2
        go_wp2_with fail
        go_ret2
        exact ⟨by rw [HE.out.1, HE.out.2]; rfl, HB2.out⟩

set_option maxHeartbeats 4000000 in
set_option maxRecDepth 100000 in
theorem RefRead_any {w : World} {A A2 : Option Addr} {c c2 : Nat} {vs : List Vl} {ks : List Wr} (h : VolsAt w w.heap.size A vs) (hf : VolsFit vs) (h2 : WrsAt w w.heap.size A2 ks) (hn : ks.length ≤ 200) (vol block : Int) :
    Calls Try.prog 16 #[.slice A2 ks.length c2, .slice A vs.length c, .int .i64 vol, .int .i64 block] w fun e w' => e = .returned (.tuple #[.string (readS ks vs vol block), .int .i64 (readE ks vs vol block)]) ∧ Below w.heap.size w w' := by
  have H1 := Lib.hid h
  have HF := Lib.hid hf
  have H2 := Lib.hid h2
  have hvl := hf.1
  have hk1 : ks.length ≤ 1000 := by omega
  have HB0 := Lib.hid (Below.refl w.heap.size w)
  clear h hf h2
  cases hk : keepB ks vs with
  | false =>
    rw [(read_bad hk _ _).1, (read_bad hk _ _).2]
    have HK := Lib.hid hk
    clear hk
    go_enter Try.func16, Try.ntmps16
    go_wp2_with fail
    refine (RefKeep_any H1.out HF.out H2.out hk1).mono ?_
    rw [HK.out]
    rintro e w1 ⟨rfl, hb1⟩
    have HB1 : Hid (Below w.heap.size w w1) := Lib.hid (HB0.out.trans (hb1.mono HB0.out.size))
    clear hb1
    go_wp2_with fail
    go_ret2
    exact ⟨rfl, HB1.out⟩
  | true =>
    have HK := Lib.hid hk
    by_cases h0 : gotE vs vol block = 0
    · cases hd : lastF ks vol block with
      | some d =>
        rw [(read_hit hk hd).1, (read_hit hk hd).2]
        have H0 := Lib.hid h0
        have HD := Lib.hid hd
        clear hd h0 hk
        go_enter Try.func16, Try.ntmps16
        go_wp2_with fail
        refine (RefKeep_any H1.out HF.out H2.out hk1).mono ?_
        rw [HK.out]
        rintro e w1 ⟨rfl, hb1⟩
        have HB1 : Hid (Below w.heap.size w w1) := Lib.hid (HB0.out.trans (hb1.mono HB0.out.size))
        clear hb1
        go_wp2_with fail
        refine (RefGet_any (H1.out.next HB1.out) hvl vol block).mono ?_
        rw [H0.out]
        rintro e w2 ⟨rfl, rfl⟩
        generalize gotS vs vol block = S
        go_wp2_with fail
        refine (RefLast_any (H2.out.next HB1.out) hn vol block).mono ?_
        rw [HD.out]
        rintro e w2 ⟨rfl, rfl⟩
        simp only [Option.getD_some, Option.isSome_some]
        go_wp2_with fail
        go_ret2
        exact ⟨rfl, HB1.out⟩
      | none =>
        rw [(read_miss hk hd).1, (read_miss hk hd).2, h0]
        have H0 := Lib.hid h0
        have HD := Lib.hid hd
        obtain ⟨S, hS⟩ : ∃ S, gotS vs vol block = S := ⟨_, rfl⟩
        have HS := Lib.hid hS
        rw [hS]
        clear hd h0 hk hS
        go_enter Try.func16, Try.ntmps16
        go_wp2_with fail
        refine (RefKeep_any H1.out HF.out H2.out hk1).mono ?_
        rw [HK.out]
        rintro e w1 ⟨rfl, hb1⟩
        have HB1 : Hid (Below w.heap.size w w1) := Lib.hid (HB0.out.trans (hb1.mono HB0.out.size))
        clear hb1
        go_wp2_with fail
        refine (RefGet_any (H1.out.next HB1.out) hvl vol block).mono ?_
        rw [H0.out, HS.out]
        rintro e w2 ⟨rfl, rfl⟩
        go_wp2_with fail
        refine (RefLast_any (H2.out.next HB1.out) hn vol block).mono ?_
        rw [HD.out]
        rintro e w2 ⟨rfl, rfl⟩
        simp only [Option.getD_none, Option.isSome_none]
        go_wp2_with fail
        go_ret2
        exact ⟨rfl, HB1.out⟩
    · rw [(read_no hk h0).1, (read_no hk h0).2]
      obtain ⟨E, hE⟩ : ∃ E, gotE vs vol block = E := ⟨_, rfl⟩
      rw [hE] at h0 ⊢
      have h0' : (E != 0) = true := by rw [bne_iff_ne]; exact h0
      have HE := Lib.hid hE
      clear hE h0 hk
      go_enter Try.func16, Try.ntmps16
      go_wp2_with fail
      refine (RefKeep_any H1.out HF.out H2.out hk1).mono ?_
      rw [HK.out]
      rintro e w1 ⟨rfl, hb1⟩
      have HB1 : Hid (Below w.heap.size w w1) := Lib.hid (HB0.out.trans (hb1.mono HB0.out.size))
      clear hb1
      go_wp2_with fail
      refine (RefGet_any (H1.out.next HB1.out) hvl vol block).mono ?_
      rw [HE.out]
      rintro e w2 ⟨rfl, rfl⟩
      generalize gotS vs vol block = S
      go_wp2_with fail
      go_ret2
      exact ⟨rfl, HB1.out⟩
end Go.Proofs.Ytaenlcokgplgkaa
