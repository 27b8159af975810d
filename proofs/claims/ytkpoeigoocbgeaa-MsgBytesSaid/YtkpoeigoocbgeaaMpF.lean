/- Contract of the function TakeWrites of the package msg. -/
import Derived.Test.YtkpoeigoocbgeaaMpE
namespace Go.Proofs.Ytkpoeigoocbgeaa
open Go.RowKit

/-- What TakeWrites answers; its row is new. -/
def TWsF (s : List UInt8) (w : World) (e : Ending) (w' : World) : Prop :=
  (∃ ws rest A c, wsAt s = some (ws, rest) ∧ writable ws = true ∧ e = .returned (.tuple #[.slice A ws.length c, .string (str rest), .int .i64 0]) ∧ WrsAt w' w'.heap.size A ws ∧ (∀ b off, A = some ⟨b, off, none⟩ → w.heap.size < b) ∧ Below w.heap.size w w') ∨
  ((∀ ws rest, wsAt s = some (ws, rest) → writable ws = false) ∧ e = .returned (.tuple #[.slice none 0 0, .string ⟨#[]⟩, .int .i64 3]) ∧ Below w.heap.size w w')

set_option maxHeartbeats 4000000 in
set_option maxRecDepth 100000 in
theorem takeWritesF_any (s : List UInt8) (w : World) (hs : s.length ≤ 9223372036854775807) :
    Calls Try.prog 19 #[.string (str s)] w (TWsF s w) := by
  obtain ⟨H, hH⟩ : ∃ H, w.heap.size = H := ⟨_, rfl⟩
  have hr0 : RdAt (w.alloc (.cells #[.string (str s), .bool false] 80)) H (s, false) := by rw [← hH]; exact heap_new w _
  have hb0 := below_one w (.cells #[.string (str s), .bool false] 80)
  have hz0 : (w.alloc (.cells #[.string (str s), .bool false] 80)).heap.size = H + 1 := by rw [← hH]; simp
  have HN1 := Lib.hid (number_any17 hr0 hs 2)
  have HNm := Lib.hid (fun (W : World) (t : Rd) (h : RdAt W H t) (hl : t.1.length ≤ 9223372036854775807) => number_any17 h hl 1)
  have HTm := Lib.hid (fun (W : World) (t : Rd) (h : RdAt W H t) (hl : t.1.length ≤ 9223372036854775807) => text_any17 h hl)
  have HLe : Hid (∀ j, (itN wrStep j (rNum 2 (s, false))).1.length ≤ 9223372036854775807) := Lib.hid (fun j => Nat.le_trans (Nat.le_trans (itN_le wrStep_le j _) (rNum_le _ _)) hs)
  have HLe2 : Hid (∀ j, (rNum 1 (itN wrStep j (rNum 2 (s, false)))).1.length ≤ 9223372036854775807) := Lib.hid (fun j => Nat.le_trans (rNum_le _ _) (HLe.out j))
  have HLe3 : Hid (∀ j, (rNum 1 (rNum 1 (itN wrStep j (rNum 2 (s, false))))).1.length ≤ 9223372036854775807) := Lib.hid (fun j => Nat.le_trans (rNum_le _ _) (HLe2.out j))
  have HIs := Lib.hid (fun j => itN_succ wrStep j (rNum 2 (s, false)))
  have HEs := Lib.hid (fun j => elN_succ wrEl wrStep j (rNum 2 (s, false)))
  have HEl := Lib.hid (fun j => elN_length wrEl wrStep j (rNum 2 (s, false)))
  have hnn : numN s 2 = (twN s : Int) := by have := numN_bound s 2; unfold twN; omega
  rw [show ((s, false) : Rd).1 = s from rfl, hnn] at HN1
  have hn256 := twN_lt s
  have HSo := Lib.hid (@tw_some s)
  have HOf := Lib.hid (fun ws rest (h : wsAt s = some (ws, rest)) => tw_of h)
  have HLo := Lib.hid (@tw_long s)
  unfold twS twL at HSo HOf
  have HY : Hid (∀ ws rest, wsAt s = some (ws, rest) → writable ws = true → ∀ A c w', WrsAt w' w'.heap.size A ws → (∀ b off, A = some ⟨b, off, none⟩ → w.heap.size < b) → Below w.heap.size w w' → TWsF s w (.returned (.tuple #[.slice A ws.length c, .string (str rest), .int .i64 0])) w') := Lib.hid (fun ws rest h hw A c w' h1 h2 h3 => .inl ⟨ws, rest, A, c, h, hw, rfl, h1, h2, h3⟩)
  have HX : Hid ((∀ ws rest, wsAt s = some (ws, rest) → writable ws = false) → ∀ w', Below w.heap.size w w' → TWsF s w (.returned (.tuple #[.slice none 0 0, .string ⟨#[]⟩, .int .i64 3])) w') := Lib.hid (fun h w' h1 => .inr ⟨h, rfl, h1⟩)
  obtain ⟨n, hn⟩ : ∃ n, twN s = n := ⟨_, rfl⟩
  rw [hn] at HN1 hn256 HSo HOf HLo
  obtain ⟨st, hst⟩ : ∃ st, rNum 2 (s, false) = st := ⟨_, rfl⟩
  rw [hst] at HN1 HLe HLe2 HLe3 HIs HEs HEl HSo HOf
  obtain ⟨T, hT⟩ : ∃ T, str s = T := ⟨_, rfl⟩
  rw [hT] at HN1 hb0 hz0 ⊢
  have HB0 := Lib.hid hb0
  have HZ0 := Lib.hid hz0
  have HH := Lib.hid hH
  obtain ⟨i0, hi0, hz0', hz1, hz2⟩ := info_parts Try.infoWr17
  clear hr0 hb0 hz0 hnn hn hst hT hs hH
  go_enter Try.func19, Try.ntmps19
  go_upto_region 3 with (first
    | (rw [HH.out]; go_at_call 37; (with_reducible refine HN1.out.mono ?_); rintro e w2 ⟨rfl, hr2, hb2, hc2⟩; have HR2 := Lib.hid hr2; have HB2 := Lib.hid hb2; have HC2 := Lib.hid hc2; clear hr2 hb2 hc2))
  have hB2 : Below w.heap.size w w2 := HB0.out.trans (HC2.out.mono (Nat.le_of_eq HH.out))
  have HBw2 := Lib.hid hB2
  have hz2' : H + 1 ≤ w2.heap.size := by have := HB2.out.size; have := HZ0.out; omega
  clear hB2 HB2 HC2
  by_cases h128 : 128 < n
  · have h128' : (128 : Int) < (n : Int) := by omega
    have HE := Lib.hid (HX.out (HLo.out h128))
    go_wp2_with fail
    go_ret3
    exact HE.out _ HBw2.out
  have h128' : ¬ (128 : Int) < (n : Int) := by omega
  go_wp2_with fail
  go_loopw [7, 14] (fun v i wr => ∃ (j : Nat) (A' : Option Addr) (c' : Nat), j ≤ n ∧ i = .int .i64 j ∧ v = .slice A' j c' ∧ Hid (RdAt wr H (itN wrStep j st)) ∧ H + 1 ≤ wr.heap.size ∧ Hid (wr.ownsRow (H + 1) 65 3 (.slice A' j c') j (wrCells (elN wrEl wrStep j st))) ∧ Hid (Below w.heap.size w wr)) (fun _ i _ => n - (intOf i).toNat)
  case atStart => exact ⟨0, none, 0, by omega, rfl, rfl, HR2, hz2', Lib.hid (World.ownsRow_nil _ _ _ _), HBw2⟩
  case round =>
    clear HR2 HBw2 hz2'
    obtain ⟨j, A', c', hj, rfl, rfl, HR, hzr, HO, HB⟩ := hrel
    by_cases hjn : j < n
    · have hjn2 : (j : Int) < (n : Int) := by omega
      have HA1 := Lib.hid (HNm.out wr _ HR.out (HLe.out j))
      have HA2 := Lib.hid (fun W (h : RdAt W H (rNum 1 (itN wrStep j st))) => HNm.out W _ h (HLe2.out j))
      have HA3 := Lib.hid (fun W (h : RdAt W H (rNum 1 (rNum 1 (itN wrStep j st)))) => HTm.out W _ h (HLe3.out j))
      have HI := Lib.hid (show rTxt (rNum 1 (rNum 1 (itN wrStep j st))) = itN wrStep (j + 1) st from (HIs.out j).symm)
      rw [HI.out] at HA3
      have HCs : Hid (wrCells (elN wrEl wrStep (j + 1) st) = wrCells (elN wrEl wrStep j st) ++ [.int .i64 (numN (itN wrStep j st).1 1), .int .i64 (numN (rNum 1 (itN wrStep j st)).1 1), .string (str (takeA (rNum 1 (rNum 1 (itN wrStep j st))).1))]) := Lib.hid (by rw [HEs.out, wrCells_append]; rfl)
      obtain ⟨n1, hn1⟩ : ∃ x, numN (itN wrStep j st).1 1 = x := ⟨_, rfl⟩
      obtain ⟨n2, hn2⟩ : ∃ x, numN (rNum 1 (itN wrStep j st)).1 1 = x := ⟨_, rfl⟩
      obtain ⟨d3, hd3⟩ : ∃ x, str (takeA (rNum 1 (rNum 1 (itN wrStep j st))).1) = x := ⟨_, rfl⟩
      rw [hn1] at HA1 HCs
      rw [hn2] at HA2 HCs
      rw [hd3] at HA3 HCs
      clear hn1 hn2 hd3 HI
      go_wp2_with (first
        | (go_at_call 37; (with_reducible refine HA1.out.mono ?_); rintro e w3 ⟨rfl, hr3, hb3, hc3⟩; have HR3 := Lib.hid hr3; have HO3 := Lib.hid (own_kept17 HO.out (Nat.lt_succ_self H) hb3); have HB3 := Lib.hid (HB.out.trans (hc3.mono (Nat.le_of_eq HH.out))); have hz3 : H + 1 ≤ w3.heap.size := Nat.le_trans hzr hb3.size; clear hr3 hb3 hc3)
        | (go_at_call 37; (with_reducible refine (HA2.out _ HR3.out).mono ?_); rintro e w4 ⟨rfl, hr3, hb3, hc3⟩; have HR4 := Lib.hid hr3; have HO4 := Lib.hid (own_kept17 HO3.out (Nat.lt_succ_self H) hb3); have HB4 := Lib.hid (HB3.out.trans (hc3.mono (Nat.le_of_eq HH.out))); have hz4 : H + 1 ≤ w4.heap.size := Nat.le_trans hz3 hb3.size; clear hr3 hb3 hc3)
        | (go_at_call 43; (with_reducible refine (HA3.out _ HR4.out).mono ?_); rintro e w5 ⟨rfl, hr3, hb3, hc3⟩; have HR5 := Lib.hid hr3; have HO5 := Lib.hid (own_kept17 HO4.out (Nat.lt_succ_self H) hb3); have HB5 := Lib.hid (HB4.out.trans (hc3.mono (Nat.le_of_eq HH.out))); have hz5 : H + 1 ≤ w5.heap.size := Nat.le_trans hz4 hb3.size; clear hr3 hb3 hc3; have HNew := Lib.hid (cell_three17 w5 (.int .i64 n1) (.int .i64 n2) (.string d3) 65); have HB6 := Lib.hid (HB5.out.alloc HB5.out.size (.cells #[.int .i64 n1, .int .i64 n2, .string d3] 65)); have HO6 := Lib.hid (HO5.out.alloc (.cells #[.int .i64 n1, .int .i64 n2, .string d3] 65)); have HR6 := Lib.hid (HR5.out.below (below_one w5 (.cells #[.int .i64 n1, .int .i64 n2, .string d3] 65))); have HSz6 := Lib.hid (show (w5.alloc (.cells #[.int .i64 n1, .int .i64 n2, .string d3] 65)).heap.size = w5.heap.size + 1 by simp))
        | (at_builtin; refine wpList_append_lies _ rfl (.tmp 16) (.tmp 21) 35 rfl (H + 1) 65 i0 (.agg #[.int .i64 0, .int .i64 0, .string ⟨#[]⟩]) 3 32 Try.underlying35 hi0 hz0' hz1 hz2 rfl (by decide) (.slice A' j c') j (wrCells (elN wrEl wrStep j st)) rfl HO6.out ⟨w5.heap.size, 0, none⟩ 1 1 [.int .i64 n1, .int .i64 n2, .string d3] rfl rfl HNew.out (by simp [Value.oneCell']) (by omega) ?d1 ?d2 (by rw [HSz6.out]; omega) _ rfl ?_))
      case d1 => unfold maxLen; omega
      case d2 => omega
      intro g cap w7 hown hg7 hgb hgs
      have hrow : ∀ q, (Value.slice A' j c').ownBlock = some q → H + 1 ≤ q := fun q hq => (HO6.out.lt q hq).1
      have HB7 := Lib.hid (HB6.out.grown hg7 (by rw [HSz6.out]; have := HB5.out.size; omega) (fun q hq => by have := hrow q hq; have := HH.out; omega))
      have hr7 : RdAt w7 H (itN wrStep (j + 1) st) := by
        unfold RdAt
        rw [hg7.block H (by rw [HSz6.out]; omega) (fun e => by have := hrow H e.symm; omega)]
        exact HR6.out
      have HR7 := Lib.hid hr7
      rw [← HCs.out] at hown
      have HO7 := Lib.hid hown
      have hz7 : H + 1 ≤ w7.heap.size := Nat.le_trans (by rw [HSz6.out]; omega) hg7.size
      clear hown hg7 hr7 hrow hgb hgs HNew HB6 HO6 HR6 HB5 HB4 HB3 HO5 HO4 HO3 HR5 HR4 HR3
      go_wp2_with fail
      go_roundw
      case rel => exact ⟨j + 1, some ⟨g, 0, none⟩, cap, by omega, by go_num, rfl, HR7, hz7, HO7, HB7⟩
      case measure => simp [intOf]; omega
    · obtain rfl : j = n := by omega
      have hjn2 : ¬ (j : Int) < (j : Int) := by omega
      have c0 := HR.out.c0
      have c1 := HR.out.c1
      cases hbad : (itN wrStep j st).2 with
      | true =>
        have HE := Lib.hid (HX.out (fun ws rest e => by
          have := (HOf.out _ _ e).1
          rw [hbad] at this
          cases this))
        rw [hbad] at c1
        clear HSo HOf hbad
        go_wp2_with fail
        go_ret3
        exact HE.out _ HB.out
      | false =>
        rw [hbad] at c1
        obtain ⟨A9, c9, he9, _, hl9⟩ := own_lies HO.out
        have hfr := own_fresh17 HO.out
        simp only [Value.slice.injEq] at he9
        obtain ⟨rfl, _, rfl⟩ := he9
        have hba := WrsAt.of_lies hl9
        have HBa := Lib.hid hba
        have hln := areWrites_any (c := c') hba (by rw [HEl.out]; omega)
        rw [HEl.out] at hln
        have HLn := Lib.hid hln
        have HFr := Lib.hid hfr
        have HSm := Lib.hid (HSo.out hbad)
        have HLen := Lib.hid (HEl.out j)
        clear hl9 hba hln hbad hfr HSo HOf
        cases hok : writable (elN wrEl wrStep j st) with
        | true =>
          have HLk := Lib.hid hok
          rw [hok] at HLn
          clear hok HR HO
          go_upto_region 12 with (go_at_call 39; (with_reducible refine HLn.out.mono ?_); rintro e w9 ⟨rfl, hb9⟩; have HB9 := Lib.hid hb9; clear hb9)
          have d0 : w9.cell? ⟨H, 0, none⟩ = some (.string (str (itN wrStep j st).1)) := (HB9.out.cell (p := ⟨H, 0, none⟩) (by show H < _; omega)).trans c0
          obtain ⟨R, hR⟩ : ∃ R, str (itN wrStep j st).1 = R := ⟨_, rfl⟩
          rw [hR] at d0
          clear c0 c1
          go_quiet (fail)
          go_wp2
          refine bodyPost_ret (v := .tuple #[.slice A' j c', .string R, .int .i64 0]) (by simp [results, Try.results19, go_sem]) rfl ?_
          have key := fun k => HY.out _ _ HSm.out HLk.out A' c' (w9.drewN k) ((HBa.out.next HB9.out).next (below_drewN (Below.refl _ _) k)) (fun b off hA => by have := HFr.out b off hA; have := HH.out; omega) (below_drewN (below_next HB.out HB9.out) k)
          rw [HLen.out, hR] at key
          exact key _
        | false =>
          have HE := Lib.hid (HX.out (fun ws rest e => by
            have := HSm.out
            rw [e] at this
            simp only [Option.some.injEq, Prod.mk.injEq] at this
            rw [this.1]; exact hok))
          rw [hok] at HLn
          clear hok
          go_wp2_with (go_at_call 39; (with_reducible refine HLn.out.mono ?_); rintro e w9 ⟨rfl, hb9⟩; have HB9 := Lib.hid hb9; clear hb9)
          go_ret3
          exact HE.out _ (below_next HB.out HB9.out)
end Go.Proofs.Ytkpoeigoocbgeaa
