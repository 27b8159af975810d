/- Bitmaps: contracts of Count and of both List. -/
import Derived.Test.YtpefhocjnkbklaaDirE
namespace Go.Proofs.Ytpefhocjnkbklaa
open Go.RowKit

/-- What a call that hands back marks leaves: a row of its own, or nil. -/
def MksRow (ms : List Mk) (w : World) (e : Ending) (w' : World) : Prop :=
  ∃ A c, e = .returned (.slice A ms.length c) ∧ Lies w' w'.heap.size A (mkCells ms) ∧ ((A = none → c = 0) ∧ w'.ownsRow w.heap.size 34 2 (.slice A ms.length c) ms.length (mkCells ms)) ∧ Below w.heap.size w w'
theorem own_rowM {w0 w : World} {base : Nat} {v : Value} {ms : List Mk} (h : w.ownsRow base 34 2 v ms.length (mkCells ms)) (hle : w0.heap.size ≤ base) (hb : Below w0.heap.size w0 w) : MksRow ms w0 (.returned v) w := by
  have h' := own_base h hle
  obtain ⟨A, c, rfl, _, hl⟩ := own_lies h
  refine ⟨A, c, rfl, hl, ⟨fun hA => ?_, h'⟩, hb⟩
  rcases h.2 with ⟨hv, _⟩ | ⟨g, cap, cur, hv, _⟩
  · simp only [Value.slice.injEq] at hv; exact hv.2.2
  · simp only [Value.slice.injEq] at hv; rw [hA] at hv; cases hv.1
theorem MksRow.none_ {w w' : World} (hb : Below w.heap.size w w') : MksRow [] w (.returned (.slice none 0 0)) w' := ⟨none, 0, rfl, .inl rfl, ⟨fun _ => rfl, World.ownsRow_nil _ _ _ _⟩, hb⟩
theorem Try.infoMk : (Try.prog.info? 34).map (fun i => (i.zero, i.size, i.bytes)) = some (some (.agg #[.int .i64 0, .int .i64 0]), 2, 16) := by kernel_rfl
theorem Try.infoBt : (Try.prog.info? 66).map (fun i => (i.zero, i.size, i.bytes)) = some (some (.agg #[.int .i64 0, .int .u64 0]), 2, 16) := by kernel_rfl

theorem countM_not {m : List Bt} (h : bitsOk m = false) : countM m = 0 := by unfold countM marksM; rw [h]; rfl
theorem countM_is {m : List Bt} (h : bitsOk m = true) : countM m = (listM m).length := by unfold countM marksM; rw [if_pos h]
theorem marksM_not {m : List Bt} (h : bitsOk m = false) : marksM m = [] := by unfold marksM; rw [h]; rfl
theorem marksM_is {m : List Bt} (h : bitsOk m = true) : marksM m = listM m := by unfold marksM; rw [if_pos h]
theorem countM_le (m : List Bt) : countM m ≤ 8160 := by
  cases h : bitsOk m with
  | false => rw [countM_not h]; omega
  | true =>
    rw [countM_is h]
    have := listM_len_le m
    have := bitsOk_length h
    omega
theorem count_step {m : List Bt} {k : Nat} (hk : k < m.length) : (listM (m.take (k + 1))).length = (listM (m.take k)).length + popN m[k].mask.toNat := by
  rw [listM_take hk, List.length_append]; simp [marksOf, popN]
theorem popN_le (x : Nat) : popN x ≤ 32 := bitsAt_len_le x 0 32

set_option maxHeartbeats 1600000 in
theorem Count_any {w : World} {A : Option Addr} {c : Nat} {m : List Bt} (h : BtsAt w w.heap.size A m) (hf : BtsFit m) :
    Calls Try.prog 31 #[.slice A m.length c] w fun e w' => e = .returned (.int .i64 (countM m)) ∧ Below w.heap.size w w' := by
  have HV := Lib.hid h
  have HL := Lib.hid hf.1
  have HF := Lib.hid hf
  clear h hf
  cases hr : bitsOk m with
  | false =>
    rw [countM_not hr]
    have HR := Lib.hid hr
    clear hr
    go_enter Try.func31, Try.ntmps31
    go_wp2_with (go_at_call 12; refine (DirRight_any HV.out HL.out).mono ?_; rw [HR.out]; rintro e w1 ⟨rfl, hb⟩; replace hb := Lib.hid hb)
    go_ret
    exact ⟨rfl, hb.out⟩
  | true =>
    rw [countM_is hr]
    have hl := bitsOk_length hr
    have HAll := Lib.hid (bitsFrom_le hr)
    obtain ⟨n, hn⟩ : ∃ n, m.length = n := ⟨_, rfl⟩
    have HN := Lib.hid hn
    have HRt : Hid (Calls Try.prog 12 #[.slice A n c] w fun e w' => e = .returned (.bool true) ∧ Below w.heap.size w w') := Lib.hid (by
      rw [← hn]; refine (DirRight_any HV.out HL.out).mono ?_; rw [hr]; exact fun _ _ h => h)
    rw [hn] at hl ⊢
    clear hr hn
    go_enter Try.func31, Try.ntmps31
    go_wp2_with (go_at_call 12; refine HRt.out.mono ?_; rintro e w1 ⟨rfl, hb⟩; replace hb := Lib.hid hb)
    go_loopw [3, 11] (fun s i wr => ∃ k t : Nat, k ≤ n ∧ i = .int .i64 k ∧ s = .int .i64 t ∧ t ≤ k * 32 ∧ Hid (t = (listM (m.take k)).length) ∧ Hid (Below w.heap.size w wr)) (fun _ i _ => n - (intOf i).toNat)
    case atStart => exact ⟨0, 0, Nat.zero_le _, rfl, rfl, Nat.le_refl _, Lib.hid rfl, hb⟩
    case round =>
      obtain ⟨k, t, hk, rfl, rfl, ht, HT, HB⟩ := hrel
      clear hb
      by_cases hlt : k < n
      · have hkl : k < m.length := by rw [HN.out]; exact hlt
        obtain ⟨b, off, hA, hbl, c1, c2⟩ := HV.out.at_ HB.out hkl
        have hbw : b < wr.heap.size := Nat.lt_of_lt_of_le hbl HB.out.size
        have hwz : w.heap.size ≤ wr.heap.size := HB.out.size
        subst hA
        have HS := Lib.hid (count_step hkl)
        have HM := Lib.hid (HAll.out _ (List.getElem_mem hkl))
        have HM0 := Lib.hid (HF.out.2 _ (List.getElem_mem hkl))
        obtain ⟨x, hx⟩ : ∃ x, m[k] = x := ⟨_, rfl⟩
        rw [hx] at c1 c2 HS HM HM0
        clear hx hkl
        obtain ⟨i1, u1⟩ := x
        simp only at c1 c2 HS HM HM0
        have HSz := Lib.hid (HB.out.alloc hwz (.cells #[.int .i64 i1, .int .u64 u1] 66))
        obtain ⟨p, hp⟩ : ∃ p, popN u1.toNat = p := ⟨_, rfl⟩
        have hpl : p ≤ 32 := by rw [← hp]; exact popN_le _
        have HC : Hid (∀ w, Calls Try.prog 43 #[.int .u64 u1] w fun e w' => e = .returned (.int .i64 p) ∧ w' = w) := Lib.hid fun w => by rw [← hp]; exact ones_any u1 w HM0.out.1 HM.out.2.2.2
        rw [hp] at HS
        clear hp
        obtain ⟨r, hr⟩ : ∃ r : Nat, t + p = r := ⟨_, rfl⟩
        have hw : IntKind.i64.wrap ((t : Int) + (p : Int)) = (r : Int) := by rw [IntKind.wrap_i64]; omega
        have HR2 : Hid (r = (listM (m.take (k + 1))).length) := Lib.hid (by rw [HS.out, ← HT.out, hr])
        have hr2 : r ≤ (k + 1) * 32 := by omega
        clear hr
        go_wp2_with (go_at_call 43; refine (HC.out _).mono ?_; rintro e w3 ⟨rfl, rfl⟩)
        go_roundw
        case rel => exact ⟨k + 1, r, by omega, by go_num, by first | rfl | rw [hw], hr2, HR2, HSz⟩
        case measure => simp [intOf]; omega
      · have HE : Hid (t = (listM m).length) := Lib.hid (by rw [HT.out, List.take_of_length_le (by rw [HN.out]; omega)])
        go_wp2_with fail
        go_ret
        exact ⟨by rw [← HE.out]; rfl, HB.out⟩

theorem marksOf_cons (v : Int) (q : Nat) (l : List Nat) : marksOf v (q :: l) = [(v, (q : Int))] ++ marksOf v l := rfl
theorem listM_drop {m : List Bt} {k : Nat} (hk : k < m.length) : listM (m.drop k) = marksOf m[k].vol (bitsAt m[k].mask.toNat 0 32) ++ listM (m.drop (k + 1)) := by
  rw [List.drop_eq_getElem_cons hk, listM]

set_option maxHeartbeats 4000000 in
set_option maxRecDepth 100000 in
theorem DirList_any {w : World} {A : Option Addr} {c : Nat} {m : List Bt} (h : BtsAt w w.heap.size A m) (hf : BtsFit m) :
    Calls Try.prog 30 #[.slice A m.length c] w (MksRow (marksM m) w) := by
  have HV := Lib.hid h
  have HL := Lib.hid hf.1
  have HF := Lib.hid hf
  obtain ⟨i0, hi0, hz0, hz1, hz2⟩ := info_parts Try.infoMk
  clear h hf
  cases hr : bitsOk m with
  | false =>
    rw [marksM_not hr]
    have HR := Lib.hid hr
    clear hr
    go_enter Try.func30, Try.ntmps30
    go_wp2_with (go_at_call 12; refine (DirRight_any HV.out HL.out).mono ?_; rw [HR.out]; rintro e w1 ⟨rfl, hb⟩; replace hb := Lib.hid hb)
    go_ret
    exact .none_ hb.out
  | true =>
    rw [marksM_is hr]
    have hl := bitsOk_length hr
    have HAll := Lib.hid (bitsFrom_le hr)
    have hLL : (listM m).length ≤ 8160 := by rw [← countM_is hr]; exact countM_le m
    obtain ⟨L, hLe⟩ : ∃ L, listM m = L := ⟨_, rfl⟩
    have HLe := Lib.hid hLe
    rw [hLe] at hLL ⊢
    have HLL := Lib.hid hLL
    obtain ⟨n, hn⟩ : ∃ n, m.length = n := ⟨_, rfl⟩
    have HN := Lib.hid hn
    have HRt : Hid (Calls Try.prog 12 #[.slice A n c] w fun e w' => e = .returned (.bool true) ∧ Below w.heap.size w w') := Lib.hid (by
      rw [← hn]; refine (DirRight_any HV.out HL.out).mono ?_; rw [hr]; exact fun _ _ h => h)
    rw [hn] at hl
    clear hr hLe hLL
    go_enter Try.func30, Try.ntmps30
    rw [hn]
    clear hn
    go_wp2_with (go_at_call 12; refine HRt.out.mono ?_; rintro e w1 ⟨rfl, hb⟩; replace hb := Lib.hid hb)
    go_loopg [3, 12] n (fun kx s3 s12 wr => ∃ (k : Nat) (ms : List Mk) (j : Nat), s12 = .int .i64 k ∧ k ≤ n ∧ n - k ≤ kx ∧ ms.length = j ∧ Hid (ms ++ listM (m.drop k) = L) ∧ Hid (wr.ownsRow w1.heap.size 34 2 s3 j (mkCells ms)) ∧ Hid (Below w1.heap.size w1 wr))
    case atStart => exact ⟨0, [], 0, rfl, Nat.zero_le _, by omega, rfl, Lib.hid HLe.out, Lib.hid (World.ownsRow_nil _ _ _ _), Lib.hid (Below.refl _ _)⟩
    case round =>
      obtain ⟨k, ms, j, rfl, hk, hkx, hj, HM, HO, HB⟩ := hrel
      obtain ⟨A4, c4, h4, hxx⟩ := own_lies HO.out
      clear hxx
      subst h4
      by_cases hlt : k < n
      · have hltz : (k : Int) < (n : Int) := by omega
        have hkl : k < m.length := by rw [HN.out]; exact hlt
        have HBW : Hid (Below w.heap.size w wr) := Lib.hid (below_next hb.out HB.out)
        obtain ⟨b, off, hA, hbl, c1, c2⟩ := HV.out.at_ HBW.out hkl
        have hbw : b < wr.heap.size := Nat.lt_of_lt_of_le hbl HBW.out.size
        have hwz : w1.heap.size ≤ wr.heap.size := HB.out.size
        subst hA
        have HD := Lib.hid (listM_drop hkl)
        have HMk := Lib.hid (HAll.out _ (List.getElem_mem hkl))
        have HMf := Lib.hid (HF.out.2 _ (List.getElem_mem hkl))
        obtain ⟨x, hx⟩ : ∃ x, m[k] = x := ⟨_, rfl⟩
        rw [hx] at c1 c2 HD HMk HMf
        clear hx hkl
        obtain ⟨i1, u1⟩ := x
        simp only at c1 c2 HD HMk HMf
        obtain ⟨T, hT⟩ : ∃ T, ms ++ marksOf i1 (bitsAt u1.toNat 0 32) = T := ⟨_, rfl⟩
        have HT := Lib.hid hT
        have HTL : Hid (T ++ listM (m.drop (k + 1)) = L) := Lib.hid (by rw [← hT, List.append_assoc, ← HD.out, HM.out])
        clear hT
        have HB2 := Lib.hid (HB.out.alloc hwz (.cells #[.int .i64 i1, .int .u64 u1] 66))
        have HO2 := Lib.hid (HO.out.alloc (.cells #[.int .i64 i1, .int .u64 u1] 66))
        have HBl : Hid ((wr.alloc (.cells #[.int .i64 i1, .int .u64 u1] 66)).heap[wr.heap.size]? = some (.cells #[.int .i64 i1, .int .u64 u1] 66 (0, 0))) := Lib.hid (heap_alloc_new _ _)
        have HGap : Hid (∀ g, (Value.slice A4 j c4).ownBlock = some g → g ≠ wr.heap.size) := Lib.hid fun g hg e => by have := (HO.out.lt g hg).2; omega
        have hsz : (wr.alloc (.cells #[.int .i64 i1, .int .u64 u1] 66)).heap.size = wr.heap.size + 1 := by simp
        clear HO HB HM HBW hbl HD
        go_wp2_with fail
        clear c1 c2 hbw
        generalize wr.alloc (.cells #[.int .i64 i1, .int .u64 u1] 66) = W1 at *
        generalize wr.heap.size = H at *
        go_loopg [3, 16] 32 (fun kx s3 s16 ws => ∃ (q : Nat) (ns : List Mk) (j : Nat), s16 = .int .i64 q ∧ q ≤ 32 ∧ 32 - q ≤ kx ∧ ns.length = j ∧ Hid (ns ++ marksOf i1 (bitsAt u1.toNat q (32 - q)) = T) ∧ Hid (ws.ownsRow w1.heap.size 34 2 s3 j (mkCells ns)) ∧ Hid (Below w1.heap.size w1 ws) ∧ Hid (ws.heap[H]? = some (.cells #[.int .i64 i1, .int .u64 u1] 66 (0, 0))) ∧ Hid (∀ g, s3.ownBlock = some g → g ≠ H))
        case atStart => exact ⟨0, ms, j, rfl, Nat.zero_le _, by omega, hj, HT, HO2, HB2, HBl, HGap⟩
        case round =>
          clear HO2 HB2 HBl HGap HT hsz hj hwz
          obtain ⟨q, ns, j', rfl, hq, hqx, hj, HM, HO, HB, HBl, HGap⟩ := hrel
          obtain ⟨A5, c5, h5, hxx⟩ := own_lies HO.out
          clear hxx
          subst h5
          by_cases hq2 : q < 32
          · have hlq : (q : Int) < 32 := by omega
            have d1 : ∀ z, (wr.drewN z).cell? ⟨H, 0, none⟩ = some (.int .i64 i1) := fun z => by rw [show (wr.drewN z).cell? ⟨H, 0, none⟩ = wr.cell? ⟨H, 0, none⟩ from rfl, Lib.cell_of_heap HBl.out]; rfl
            have d2 : wr.cell? ⟨H, 1, none⟩ = some (.int .u64 u1) := by rw [Lib.cell_of_heap HBl.out]; rfl
            have HBl2 : Hid (∀ z, (wr.drewN z).heap[H]? = some (.cells #[.int .i64 i1, .int .u64 u1] 66 (0, 0))) := Lib.hid fun z => HBl.out
            have HO2 : Hid (∀ z, (wr.drewN z).ownsRow w1.heap.size 34 2 (.slice A5 j' c5) j' (mkCells ns)) := Lib.hid fun z => own_kept HO.out (below_q (Below.refl _ _) z)
            have HB2 : Hid (∀ z, Below w1.heap.size w1 (wr.drewN z)) := Lib.hid fun z => below_q HB.out z
            have HHs : Hid (H < wr.heap.size) := Lib.hid ((Array.getElem?_eq_some_iff.1 HBl.out).1)
            have hand := and_bit (k := q) HMf.out.1 HMf.out.2 hq2
            obtain ⟨P, hP⟩ : ∃ P, (2 : Int) ^ q = P := ⟨_, rfl⟩
            have HC : Hid (∀ w, Calls Try.prog 39 #[.int .i64 q] w fun e w' => e = .returned (.int .u64 P) ∧ w' = w) := Lib.hid fun w => by
              rw [← hP]
              exact (bit_any (q : Int) w (by omega) (by omega)).mono fun e w' h => ⟨by rw [h.1, Int.toNat_natCast], h.2.symm⟩
            rw [hP] at hand
            clear hP
            cases ht : u1.toNat.testBit q with
            | false =>
              rw [ht] at hand
              have HM2 : Hid (ns ++ marksOf i1 (bitsAt u1.toNat (q + 1) (32 - (q + 1))) = T) := Lib.hid (by
                rw [← HM.out, show 32 - q = (32 - (q + 1)) + 1 from by omega, bitsAt_no ht])
              clear ht
              go_wp2_with fail
              go_quiet ((go_at_call 39; exact Calls.quiet_of_same (HC.out _)))
              go_wp2_with fail
              go_roundg (32 - (q + 1))
              case measure => omega
              case rel => exact ⟨q + 1, ns, j', by go_num, by omega, Nat.le_refl _, hj, HM2, Lib.hid (HO2.out _), Lib.hid (HB2.out _), Lib.hid (HBl2.out _), HGap⟩
            | true =>
              rw [ht] at hand
              have HM2 : Hid ((ns ++ [(i1, (q : Int))]) ++ marksOf i1 (bitsAt u1.toNat (q + 1) (32 - (q + 1))) = T) := Lib.hid (by
                rw [← HM.out, show 32 - q = (32 - (q + 1)) + 1 from by omega, bitsAt_yes ht, marksOf_cons, List.append_assoc])
              have HJ : Hid (j' ≤ 8160) := Lib.hid (by
                have h1 := HLL.out
                rw [← HTL.out, ← HM.out] at h1
                simp at h1
                omega)
              clear ht
              go_wp2_with fail
              go_quiet ((go_at_call 39; exact Calls.quiet_of_same (HC.out _)))
              have HO3 := Lib.hid (HO2.out nq)
              have HB3 := Lib.hid (HB2.out nq)
              have HBl3 := Lib.hid (HBl2.out nq)
              have d3 := d1 nq
              have HHs3 : Hid (H < (wr.drewN nq).heap.size) := HHs
              clear d1 d2 HO2 HB2 HBl2 HO HB HBl HHs hand HM
              generalize wr.drewN nq = W2 at *
              go_wp2_with (at_builtin; refine wpList_append_own_at _ rfl (.tmp 25) (.tmp 30) 31 rfl w1.heap.size 34 i0 (.agg #[.int .i64 0, .int .i64 0]) 2 16 Try.underlying31 hi0 hz0 hz1 hz2 rfl (by decide) (.slice A5 j' c5) j' _ rfl (HO3.out.alloc _) ⟨W2.heap.size, 0, none⟩ 1 1 [.int .i64 i1, .int .i64 q] (by first | rfl | simp) rfl ?c3 (by intro u hu; simp at hu; rcases hu with rfl | rfl <;> rfl) ?c4 ?c5 ?c6 ?_)
              case c3 =>
                intro j u hj
                have := cell_two_new W2 (.int .i64 i1) (.int .i64 q) 34 j u hj
                simpa using this
              case c4 => have := HJ.out; unfold maxLen; omega
              case c5 => have := HJ.out; omega
              case c6 => have := HB3.out.size; simp; omega
              intro v6 w6 hown hg _ hat
              have HO6 : Hid (w6.ownsRow w1.heap.size 34 2 v6 (j' + 1) (mkCells (ns ++ [(i1, (q : Int))]))) := Lib.hid (by rw [mkCells_append]; exact hown)
              have HB6 : Hid (Below w1.heap.size w1 w6) := Lib.hid ((HB3.out.alloc HB3.out.size _).grown hg (by have := HB3.out.size; simp; omega) (fun q hq => (HO3.out.lt q hq).1))
              have HBl6 : Hid (w6.heap[H]? = some (.cells #[.int .i64 i1, .int .u64 u1] 66 (0, 0))) := Lib.hid (by
                have := HHs3.out
                rw [hg.block _ (by simp; omega) (fun e => HGap.out _ e.symm rfl), Below.heap_alloc _ _ _ this]
                exact HBl3.out)
              have HGap6 : Hid (∀ g, v6.ownBlock = some g → g ≠ H) := Lib.hid (fun g hgb => by
                rcases hat with h | h
                · rw [h] at hgb; exact HGap.out g hgb
                · rw [h] at hgb
                  simp at hgb
                  have := HHs3.out
                  omega)
              clear hown hg hat d3 HO3 HB3 HBl3 HHs3 HGap
              go_wp2_with fail
              go_roundg (32 - (q + 1))
              case measure => omega
              case rel => exact ⟨q + 1, ns ++ [(i1, (q : Int))], j' + 1, by go_num, by omega, Nat.le_refl _, by simp [hj], HM2, HO6, HB6, HBl6, HGap6⟩
          · have hlq : ¬ (q : Int) < 32 := by omega
            have HT2 : Hid (ns = T) := Lib.hid (by
              have h := HM.out
              rw [show 32 - q = 0 from by omega] at h
              simpa [bitsAt, marksOf] using h)
            go_wp2_with fail
            go_roundg (n - (k + 1))
            case measure => omega
            case rel => exact ⟨k + 1, ns, j', by go_num, by omega, Nat.le_refl _, hj, Lib.hid (by rw [HT2.out, HTL.out]), HO, HB⟩
      · have hltz : ¬ (k : Int) < (n : Int) := by omega
        have HE : Hid (MksRow L w (.returned (.slice A4 j c4)) wr) := Lib.hid (by
          have hm := HM.out
          rw [List.drop_eq_nil_of_le (by rw [HN.out]; omega)] at hm
          simp only [listM, List.append_nil] at hm
          subst hm
          have hO := HO.out
          rw [← hj] at hO ⊢
          exact own_rowM hO hb.out.size (below_next hb.out HB.out))
        go_wp2_with fail
        go_ret
        exact HE.out
end Go.Proofs.Ytpefhocjnkbklaa
