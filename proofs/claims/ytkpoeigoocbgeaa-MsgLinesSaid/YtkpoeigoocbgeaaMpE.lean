/- Contract of the function TakeLine of the package msg. -/
import Derived.Test.YtkpoeigoocbgeaaMpD
namespace Go.Proofs.Ytkpoeigoocbgeaa
open Go.RowKit

theorem own_fresh17 {w : World} {base size n m c : Nat} {e : TypeId} {A : Option Addr} {xs : List Value} (h : w.ownsRow base e size (.slice A m c) n xs) : ∀ b off, A = some ⟨b, off, none⟩ → base ≤ b := by
  rcases h with ⟨_, h2 | ⟨g, cap, cur, h2, hg, _, _⟩⟩
  · intro b off hA
    subst hA
    simp at h2
  · intro b off hA
    subst hA
    simp only [Value.slice.injEq, Option.some.injEq, Addr.mk.injEq] at h2
    omega
/-- What TakeLine answers; its row is new. -/
def TLnF (s : List UInt8) (w : World) (e : Ending) (w' : World) : Prop :=
  (lnOk s = true ∧ ∃ A c, e = .returned (.tuple #[.slice A (lnL s).length c, .string (str (lnR s)), .int .i64 0]) ∧ BrsAt w' w'.heap.size A (lnL s) ∧ (∀ b off, A = some ⟨b, off, none⟩ → w.heap.size < b) ∧ Below w.heap.size w w') ∨
  (lnOk s = false ∧ e = .returned (.tuple #[.slice none 0 0, .string ⟨#[]⟩, .int .i64 3]) ∧ Below w.heap.size w w')

set_option maxHeartbeats 4000000 in
set_option maxRecDepth 100000 in
theorem takeLineF_any (s : List UInt8) (w : World) (hs : s.length ≤ 9223372036854775807) :
    Calls Try.prog 13 #[.string (str s)] w (TLnF s w) := by
  obtain ⟨H, hH⟩ : ∃ H, w.heap.size = H := ⟨_, rfl⟩
  have hr0 : RdAt (w.alloc (.cells #[.string (str s), .bool false] 80)) H (s, false) := by rw [← hH]; exact heap_new w _
  have hb0 := below_one w (.cells #[.string (str s), .bool false] 80)
  have hz0 : (w.alloc (.cells #[.string (str s), .bool false] 80)).heap.size = H + 1 := by rw [← hH]; simp
  have HN1 := Lib.hid (number_any17 hr0 hs 1)
  have HNm := Lib.hid (fun (W : World) (t : Rd) (h : RdAt W H t) (hl : t.1.length ≤ 9223372036854775807) => number_any17 h hl 8)
  have HLe : Hid (∀ j, (itN brStep j (rNum 1 (s, false))).1.length ≤ 9223372036854775807) := Lib.hid (fun j => Nat.le_trans (Nat.le_trans (itN_le brStep_le j _) (rNum_le _ _)) hs)
  have HLe2 : Hid (∀ j, (rNum 8 (itN brStep j (rNum 1 (s, false)))).1.length ≤ 9223372036854775807) := Lib.hid (fun j => Nat.le_trans (rNum_le _ _) (HLe.out j))
  have HIs := Lib.hid (fun j => itN_succ brStep j (rNum 1 (s, false)))
  have HEs := Lib.hid (fun j => elN_succ brEl brStep j (rNum 1 (s, false)))
  have HEl := Lib.hid (fun j => elN_length brEl brStep j (rNum 1 (s, false)))
  have hnn : numN s 1 = (tlN s : Int) := by have := numN_bound s 1; unfold tlN; omega
  rw [show ((s, false) : Rd).1 = s from rfl, hnn] at HN1
  have hn256 := tlN_lt s
  have HOk := Lib.hid (tl_ok s)
  have HIs2 := Lib.hid (@tl_is s)
  unfold tlS tlL at HOk HIs2
  have HY : Hid (lnOk s = true → ∀ A c w', BrsAt w' w'.heap.size A (lnL s) → (∀ b off, A = some ⟨b, off, none⟩ → w.heap.size < b) → Below w.heap.size w w' → TLnF s w (.returned (.tuple #[.slice A (lnL s).length c, .string (str (lnR s)), .int .i64 0])) w') := Lib.hid (fun h A c w' h1 h2 h3 => .inl ⟨h, A, c, rfl, h1, h2, h3⟩)
  have HX : Hid (lnOk s = false → ∀ w', Below w.heap.size w w' → TLnF s w (.returned (.tuple #[.slice none 0 0, .string ⟨#[]⟩, .int .i64 3])) w') := Lib.hid (fun h w' h1 => .inr ⟨h, rfl, h1⟩)
  obtain ⟨n, hn⟩ : ∃ n, tlN s = n := ⟨_, rfl⟩
  rw [hn] at HN1 hn256 HOk HIs2
  obtain ⟨st, hst⟩ : ∃ st, rNum 1 (s, false) = st := ⟨_, rfl⟩
  rw [hst] at HN1 HLe HLe2 HIs HEs HEl HOk HIs2
  obtain ⟨T, hT⟩ : ∃ T, str s = T := ⟨_, rfl⟩
  rw [hT] at HN1 hb0 hz0 ⊢
  have HB0 := Lib.hid hb0
  have HZ0 := Lib.hid hz0
  have HH := Lib.hid hH
  obtain ⟨i0, hi0, hz0', hz1, hz2⟩ := info_parts Try.infoBr17
  clear hr0 hb0 hz0 hnn hn hst hT hs hH
  go_enter Try.func13, Try.ntmps13
  go_upto_region 4 with (first
    | (rw [HH.out]; go_at_call 37; (with_reducible refine HN1.out.mono ?_); rintro e w2 ⟨rfl, hr2, hb2, hc2⟩; have HR2 := Lib.hid hr2; have HB2 := Lib.hid hb2; have HC2 := Lib.hid hc2; clear hr2 hb2 hc2))
  have hB2 : Below w.heap.size w w2 := HB0.out.trans (HC2.out.mono (Nat.le_of_eq HH.out))
  have HBw2 := Lib.hid hB2
  have hz2' : H + 1 ≤ w2.heap.size := by have := HB2.out.size; have := HZ0.out; omega
  clear hB2 HB2 HC2
  go_loopw [6, 10] (fun v i wr => ∃ (j : Nat) (A' : Option Addr) (c' : Nat), j ≤ n ∧ i = .int .i64 j ∧ v = .slice A' j c' ∧ Hid (RdAt wr H (itN brStep j st)) ∧ H + 1 ≤ wr.heap.size ∧ Hid (wr.ownsRow (H + 1) 76 2 (.slice A' j c') j (brCells (elN brEl brStep j st))) ∧ Hid (Below w.heap.size w wr)) (fun _ i _ => n - (intOf i).toNat)
  case atStart => exact ⟨0, none, 0, by omega, rfl, rfl, HR2, hz2', Lib.hid (World.ownsRow_nil _ _ _ _), HBw2⟩
  case round =>
    clear HR2 HBw2 hz2'
    obtain ⟨j, A', c', hj, rfl, rfl, HR, hzr, HO, HB⟩ := hrel
    by_cases hjn : j < n
    · have hjn2 : (j : Int) < (n : Int) := by omega
      have HA1 := Lib.hid (HNm.out wr _ HR.out (HLe.out j))
      have HA2 := Lib.hid (fun W (h : RdAt W H (rNum 8 (itN brStep j st))) => HNm.out W _ h (HLe2.out j))
      have HI := Lib.hid (show rNum 8 (rNum 8 (itN brStep j st)) = itN brStep (j + 1) st from (HIs.out j).symm)
      rw [HI.out] at HA2
      have HCs : Hid (brCells (elN brEl brStep (j + 1) st) = brCells (elN brEl brStep j st) ++ [.int .i64 (numN (itN brStep j st).1 8), .int .i64 (numN (rNum 8 (itN brStep j st)).1 8)]) := Lib.hid (by rw [HEs.out, brCells_append]; rfl)
      obtain ⟨n1, hn1⟩ : ∃ x, numN (itN brStep j st).1 8 = x := ⟨_, rfl⟩
      obtain ⟨n2, hn2⟩ : ∃ x, numN (rNum 8 (itN brStep j st)).1 8 = x := ⟨_, rfl⟩
      rw [hn1] at HA1 HCs
      rw [hn2] at HA2 HCs
      clear hn1 hn2 HI
      go_wp2_with (first
        | (go_at_call 37; (with_reducible refine HA1.out.mono ?_); rintro e w3 ⟨rfl, hr3, hb3, hc3⟩; have HR3 := Lib.hid hr3; have HO3 := Lib.hid (own_kept17 HO.out (Nat.lt_succ_self H) hb3); have HB3 := Lib.hid (HB.out.trans (hc3.mono (Nat.le_of_eq HH.out))); have hz3 : H + 1 ≤ w3.heap.size := Nat.le_trans hzr hb3.size; clear hr3 hb3 hc3)
        | (go_at_call 37; (with_reducible refine (HA2.out _ HR3.out).mono ?_); rintro e w4 ⟨rfl, hr3, hb3, hc3⟩; have HR4 := Lib.hid hr3; have HO4 := Lib.hid (own_kept17 HO3.out (Nat.lt_succ_self H) hb3); have HB4 := Lib.hid (HB3.out.trans (hc3.mono (Nat.le_of_eq HH.out))); have hz4 : H + 1 ≤ w4.heap.size := Nat.le_trans hz3 hb3.size; clear hr3 hb3 hc3; have HNew := Lib.hid (cell_two17 w4 (.int .i64 n1) (.int .i64 n2) 76); have HB5 := Lib.hid (HB4.out.alloc HB4.out.size (.cells #[.int .i64 n1, .int .i64 n2] 76)); have HO5 := Lib.hid (HO4.out.alloc (.cells #[.int .i64 n1, .int .i64 n2] 76)); have HR5 := Lib.hid (HR4.out.below (below_one w4 (.cells #[.int .i64 n1, .int .i64 n2] 76))); have HSz5 := Lib.hid (show (w4.alloc (.cells #[.int .i64 n1, .int .i64 n2] 76)).heap.size = w4.heap.size + 1 by simp))
        | (at_builtin; refine wpList_append_lies _ rfl (.tmp 12) (.tmp 16) 22 rfl (H + 1) 76 i0 (.agg #[.int .i64 0, .int .i64 0]) 2 16 Try.underlying22 hi0 hz0' hz1 hz2 rfl (by decide) (.slice A' j c') j (brCells (elN brEl brStep j st)) rfl HO5.out ⟨w4.heap.size, 0, none⟩ 1 1 [.int .i64 n1, .int .i64 n2] rfl rfl HNew.out (by simp [Value.oneCell']) (by omega) ?d1 ?d2 (by rw [HSz5.out]; omega) _ rfl ?_))
      case d1 => unfold maxLen; omega
      case d2 => omega
      intro g cap w7 hown hg7 hgb hgs
      have hrow : ∀ q, (Value.slice A' j c').ownBlock = some q → H + 1 ≤ q := fun q hq => (HO5.out.lt q hq).1
      have HB7 := Lib.hid (HB5.out.grown hg7 (by rw [HSz5.out]; have := HB4.out.size; omega) (fun q hq => by have := hrow q hq; have := HH.out; omega))
      have hr7 : RdAt w7 H (itN brStep (j + 1) st) := by
        unfold RdAt
        rw [hg7.block H (by rw [HSz5.out]; omega) (fun e => by have := hrow H e.symm; omega)]
        exact HR5.out
      have HR7 := Lib.hid hr7
      rw [← HCs.out] at hown
      have HO7 := Lib.hid hown
      have hz7 : H + 1 ≤ w7.heap.size := Nat.le_trans (by rw [HSz5.out]; omega) hg7.size
      clear hown hg7 hr7 hrow hgb hgs HNew HB5 HO5 HR5 HB4 HB3 HO4 HO3 HR4 HR3
      go_wp2_with fail
      go_roundw
      case rel => exact ⟨j + 1, some ⟨g, 0, none⟩, cap, by omega, by go_num, rfl, HR7, hz7, HO7, HB7⟩
      case measure => simp [intOf]; omega
    · obtain rfl : j = n := by omega
      have hjn2 : ¬ (j : Int) < (j : Int) := by omega
      have c0 := HR.out.c0
      have c1 := HR.out.c1
      cases hbad : (itN brStep j st).2 with
      | true =>
        have HE := Lib.hid (HX.out (by
          rw [Bool.eq_false_iff]
          intro e
          have := (HOk.out.2 e).1
          rw [hbad] at this
          cases this))
        rw [hbad] at c1
        clear HOk HIs2 hbad
        go_wp2_with fail
        go_ret3
        exact HE.out _ HB.out
      | false =>
        rw [hbad] at c1
        obtain ⟨A9, c9, he9, _, hl9⟩ := own_lies HO.out
        have hfr := own_fresh17 HO.out
        simp only [Value.slice.injEq] at he9
        obtain ⟨rfl, _, rfl⟩ := he9
        have hba := BrsAt.of_lies hl9
        have HBa := Lib.hid hba
        have hln := isLine_any (c := c') hba (by rw [HEl.out]; omega)
        rw [HEl.out] at hln
        have HLn := Lib.hid hln
        have HFr := Lib.hid hfr
        have hOk2 : lined (elN brEl brStep j st) = true ↔ lnOk s = true := by rw [← HOk.out, hbad]; simp
        have HOk2 := Lib.hid hOk2
        clear hl9 hba hln hbad hOk2 hfr HOk
        cases hok : lined (elN brEl brStep j st) with
        | true =>
          have hlk := HOk2.out.1 hok
          have HLk := Lib.hid hlk
          obtain ⟨g1, g2⟩ := HIs2.out hlk
          rw [hok] at HLn
          rw [g2] at c0
          rw [g1] at HBa
          have hlen : (lnL s).length = j := by rw [← g1, HEl.out]
          have HLen := Lib.hid hlen
          clear hok hlk g1 g2 hlen HR HO
          go_upto_region 9 with (go_at_call 30; (with_reducible refine HLn.out.mono ?_); rintro e w9 ⟨rfl, hb9⟩; have HB9 := Lib.hid hb9; clear hb9)
          have d0 : w9.cell? ⟨H, 0, none⟩ = some (.string (str (lnR s))) := (HB9.out.cell (p := ⟨H, 0, none⟩) (by show H < _; omega)).trans c0
          obtain ⟨R, hR⟩ : ∃ R, str (lnR s) = R := ⟨_, rfl⟩
          rw [hR] at d0
          clear c0 c1
          go_quiet (fail)
          go_wp2
          refine bodyPost_ret (v := .tuple #[.slice A' j c', .string R, .int .i64 0]) (by simp [results, Try.results13, go_sem]) rfl ?_
          have key := fun k => HY.out HLk.out A' c' (w9.drewN k) ((HBa.out.next HB9.out).next (below_drewN (Below.refl _ _) k)) (fun b off hA => by have := HFr.out b off hA; have := HH.out; omega) (below_drewN (below_next HB.out HB9.out) k)
          rw [HLen.out, hR] at key
          exact key _
        | false =>
          have HE := Lib.hid (HX.out (by rw [Bool.eq_false_iff]; intro e; rw [HOk2.out.2 e] at hok; cases hok))
          rw [hok] at HLn
          clear hok
          go_wp2_with (go_at_call 30; (with_reducible refine HLn.out.mono ?_); rintro e w9 ⟨rfl, hb9⟩; have HB9 := Lib.hid hb9; clear hb9)
          go_ret3
          exact HE.out _ (below_next HB.out HB9.out)
end Go.Proofs.Ytkpoeigoocbgeaa
