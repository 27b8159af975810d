/- Contract of the document's Blank. -/
import Derived.Test.YtphmemopabgaeaaVolBk
import Derived.Deep.LoopGhost
namespace Go.Proofs.Ytphmemopabgaeaa
open Go.RowKit

theorem Inner.draws {w0 w : World} {id : Int} {bs : List ByteArray} {u : Value} (h : Inner w0 w id bs u) (q : Nat) : Inner w0 (w.drewN q) id bs u := ⟨h.blk, h.own, below_q h.bel q⟩
theorem blankB_snoc (t : Nat) : blankB (t + 1) = blankB t ++ [ByteArray.empty] := by unfold blankB; rw [List.replicate_succ']

def RefBlankEnd (l : List Int) (w : World) (e : Ending) (w' : World) : Prop :=
  ∃ A n c, e = .returned (.tuple #[.slice A n c, .bool (blankOk l)]) ∧ (blankOk l = true → n = (blankVs l).length ∧ VolsAt w' w'.heap.size A (blankVs l)) ∧ Below w.heap.size w w'
theorem refBlank_no {l : List Int} (h : blankOk l = false) {w w' : World} {A : Option Addr} {n c : Nat} (hb : Below w.heap.size w w') : RefBlankEnd l w (.returned (.tuple #[.slice A n c, .bool false])) w' :=
  ⟨A, n, c, by rw [h], fun h' => by rw [h] at h'; exact absurd h' (by simp), hb⟩

set_option maxHeartbeats 8000000 in
set_option maxRecDepth 100000 in
theorem RefBlank_any {w : World} {A : Option Addr} {c : Nat} {l : List Int} (h : Lies w w.heap.size A (l.map (Value.int .i64))) (hl : l.length ≤ 9223372036854775807) :
    Calls Try.prog 29 #[.slice A l.length c] w (RefBlankEnd l w) := by
  have HV := Lib.hid h
  by_cases h8 : l.length ≤ 8
  · by_cases hev : l.length % 2 = 0
    · obtain ⟨n, hn⟩ : ∃ n, l.length = n := ⟨_, rfl⟩
      have HN := Lib.hid hn
      have HOk : Hid (∀ b, prsOk l (n / 2) = true → rightB (prs l (n / 2)) = b → blankOk l = b) := Lib.hid (fun b h1 h2 => by simp [blankOk, hn, h1, h2, show n % 2 = 0 from by omega, show n ≤ 8 from by omega])
      rw [hn] at hev h8 hl ⊢
      have e1 : ((n : Int) % 2 != 0) = false := by rw [bne_eq_false_iff_eq]; omega
      have e2 : decide (8 < (n : Int)) = false := by rw [decide_eq_false_iff_not]; omega
      obtain ⟨iv, hiv, hv0, hv1, hv2⟩ := info_parts Try.infoVol
      obtain ⟨is, his, hs0, hs1, hs2⟩ := info_parts Try.infoStrV
      clear h hn
      go_enter Try.func29, Try.ntmps29
      go_wp2_with fail
      go_loopw [4, 5] (fun o i wr => ∃ t j : Nat, 2 * t ≤ j ∧ j ≤ 2 * t ∧ j ≤ n ∧ i = .int .i64 j ∧ Hid (prsOk l t = true) ∧ (∃ us, Hid (OwnO wr w.heap.size o (prs l t) us)) ∧ Hid (Below w.heap.size w wr)) (fun _ i _ => n - (intOf i).toNat)
      case atStart => exact ⟨0, 0, by omega, by omega, Nat.zero_le _, rfl, Lib.hid rfl, ⟨[], Lib.hid (OwnO.none_ _ _)⟩, Lib.hid (Below.refl _ _)⟩
      case round =>
        obtain ⟨t, j, ht1, ht2, hj, rfl, HP, ⟨us, HO⟩, HB⟩ := hrel
        obtain ⟨w0, hw0⟩ : ∃ w0, w0 = wr := ⟨_, rfl⟩
        subst hw0
        obtain ⟨Ao, co, ho, hxx⟩ := own_lies HO.out.row
        clear hxx
        subst ho
        rw [prs_length] at HO ⊢
        have hwz : w.heap.size ≤ w0.heap.size := HB.out.size
        by_cases hlt : j < n
        · have hj1 : j + 1 < n := by omega
          have hj1' : (j : Int) + 1 < (n : Int) := by omega
          obtain ⟨b, off, hA, hbl, x1⟩ := HV.out.numB HB.out (k := j) (by rw [HN.out]; exact hlt)
          obtain ⟨b', off', hA', _, x2⟩ := HV.out.numB HB.out (k := j + 1) (by rw [HN.out]; exact hj1)
          subst hA
          cases hA'
          have hbw : b < w0.heap.size := by omega
          have HT : Hid (prs l (t + 1) = prs l t ++ [(l.getD j 0, blankB (l.getD (j + 1) 0).toNat)]) := Lib.hid (by rw [prs, show 2 * t = j from by omega])
          have HP2 : Hid (sizeB (l.getD (j + 1) 0) = true → prsOk l (t + 1) = true) := Lib.hid (fun hh => by rw [prsOk, HP.out, show 2 * t + 1 = j + 1 from by omega, hh]; rfl)
          have HNo : Hid (sizeB (l.getD (j + 1) 0) = false → blankOk l = false) := Lib.hid (fun hh => blankOk_no_size (t := t) (by rw [HN.out]; omega) (by rw [show 2 * t + 1 = j + 1 from by omega]; exact hh))
          have HX2 : Hid (∀ w', Below w.heap.size w w' → w'.cell? ⟨b, off + (j + 1), none⟩ = some (.int .i64 (l.getD (j + 1) 0))) := Lib.hid (fun w' hb => by
            obtain ⟨b'', off'', hA'', _, x2'⟩ := HV.out.numB hb (k := j + 1) (by rw [HN.out]; exact hj1)
            cases hA''
            exact x2')
          obtain ⟨id, hid⟩ : ∃ id, l.getD j 0 = id := ⟨_, rfl⟩
          obtain ⟨q, hq⟩ : ∃ q, l.getD (j + 1) 0 = q := ⟨_, rfl⟩
          rw [hid] at x1 HT
          rw [hq] at x2 HT HP2 HNo HX2
          clear hid hq
          have hj0 : (0 : Int) ≤ (j : Int) := Int.natCast_nonneg _
          have hj8 : (j : Int) < (n : Int) := by omega
          by_cases hq1 : q < 1
          · have HF : Hid (blankOk l = false) := Lib.hid (HNo.out (by simp [sizeB]; omega))
            clear HP2 HNo
            go_wp2_with fail
            go_ret2
            exact refBlank_no HF.out HB.out
          · have hq1' : decide (q < 1) = false := by rw [decide_eq_false_iff_not]; exact hq1
            by_cases hq2 : 32 < q
            · have HF : Hid (blankOk l = false) := Lib.hid (HNo.out (by simp [sizeB]; omega))
              clear HP2 HNo
              go_wp2_with fail
              go_ret2
              exact refBlank_no HF.out HB.out
            · have hq2' : decide (32 < q) = false := by rw [decide_eq_false_iff_not]; exact hq2
              have HP3 : Hid (prsOk l (t + 1) = true) := Lib.hid (HP2.out (by simp [sizeB]; omega))
              obtain ⟨m, rfl⟩ := Int.eq_ofNat_of_zero_le (show 0 ≤ q by omega)
              rw [Int.toNat_natCast] at HT
              clear HP2 HNo
              have hm32 : m ≤ 32 := by omega
              have HI0 := Lib.hid (Inner.first w0 id)
              go_wp2_with fail
              go_loopg [44] m (fun gg _ wr => ∃ s : Nat, s ≤ m ∧ m - s ≤ gg ∧ ∃ u, Hid (Inner w0 wr id (blankB s) u))
              case atStart => exact ⟨0, Nat.zero_le _, by omega, _, HI0⟩
              case round =>
                clear HI0
                obtain ⟨s, hsm, hgg, u, HI⟩ := hrel
                obtain ⟨Au, cu, hu, hxx⟩ := own_lies HI.out.own
                clear hxx
                rw [blankB_length] at hu
                subst hu
                obtain ⟨z0, z1, z2⟩ := HI.out.cells
                have HBi : Hid (Below w.heap.size w wr) := Lib.hid (HB.out.trans (HI.out.bel.mono hwz))
                have y2 := HX2.out wr HBi.out
                have hw1 : IntKind.i64.wrap ((j : Int) + 1) = (j : Int) + 1 := by rw [IntKind.wrap_i64]; omega
                have hw2 : (0 : Int) ≤ (j : Int) + 1 := by omega
                have hw3 : ((j : Int) + 1).toNat = j + 1 := by omega
                by_cases hs : s < m
                · have hs' : decide ((s : Int) < (m : Int)) = true := by rw [decide_eq_true_iff]; omega
                  go_wp2_with fail
                  go_quiet (fail)
                  clear hw1 hw2 hw3 z0 z1 z2 y2 hs'
                  have HI2 : Hid (Inner w0 (wr.drewN nq) id (blankB s) (.slice Au s cu)) := Lib.hid (HI.out.draws nq)
                  generalize wr.drewN nq = W at *
                  clear HI HBi
                  obtain ⟨z0, z1, z2⟩ := HI2.out.cells
                  have hwi : w0.heap.size < W.heap.size := HI2.out.lt
                  have HOwnI : Hid (W.ownsRow (w0.heap.size + 1) 9 1 (.slice Au s cu) s ((blankB s).map Value.string)) := Lib.hid (by have := HI2.out.own; rw [blankB_length] at this; exact this)
                  have HStep : Hid (∀ u' w3, w3.ownsRow (w0.heap.size + 1) 9 1 u' (s + 1) ((blankB s).map Value.string ++ [.string ByteArray.empty]) → (W.alloc (.cells #[.string ByteArray.empty] 9)).grownBy w3 (Value.slice Au s cu).ownBlock → Inner w0 (w3.setCell ⟨w0.heap.size, 1, none⟩ u') id (blankB (s + 1)) u' ∧ w3.cell? ⟨w0.heap.size, 1, none⟩ = some (.slice Au s cu) ∧ w3.frozen? ⟨w0.heap.size, 1, none⟩ = false) := Lib.hid (fun u' w3 ho hg => by
                    rw [blankB_snoc]
                    exact HI2.out.step (by rw [blankB_length]; exact ho) hg)
                  go_wp2_with (at_builtin; refine wpList_append_own _ rfl (.tmp 52) (.tmp 53) 45 rfl (w0.heap.size + 1) 9 is (.string ByteArray.empty) 1 16 Try.underlying45 his hs0 hs1 hs2 rfl (by decide) (.slice Au s cu) s _ rfl (HOwnI.out.alloc _) ⟨W.heap.size, 0, none⟩ 1 1 [.string ByteArray.empty] rfl rfl (cell_one_new _ _ _) ?c2 ?c3 ?c4 ?c5 ?_)
                  case c2 => intro u hu; simp only [List.mem_singleton] at hu; subst hu; rfl
                  case c3 => unfold maxLen; omega
                  case c4 => omega
                  case c5 => simp; omega
                  intro u' w3 ho3 hg3 _
                  obtain ⟨hI3, m1, m2⟩ := HStep.out u' w3 ho3 hg3
                  obtain ⟨Au3, cu3, hu3, hxx⟩ := own_lies ho3
                  have HI3 := Lib.hid hI3
                  clear ho3 hg3 hI3 hxx
                  subst hu3
                  go_wp2_with fail
                  go_roundg (m - (s + 1))
                  case measure => omega
                  case rel => exact ⟨s + 1, by omega, by omega, _, HI3⟩
                · have hs' : decide ((s : Int) < (m : Int)) = false := by rw [decide_eq_false_iff_not]; omega
                  go_wp2_with fail
                  go_quiet (fail)
                  clear hw1 hw2 hw3 z0 z1 z2 y2 hs'
                  have HI2 : Hid (Inner w0 (wr.drewN nq) id (blankB m) (.slice Au s cu)) := Lib.hid (by have := HI.out.draws nq; rwa [show s = m from by omega] at this ⊢)
                  generalize wr.drewN nq = W at *
                  clear HI HBi
                  obtain ⟨z0, z1, z2⟩ := HI2.out.cells
                  have hwi : w0.heap.size < W.heap.size := HI2.out.lt
                  have HOwnV : Hid (W.ownsRow w.heap.size 47 2 (.slice Ao t co) t (volCells (prs l t) us)) := Lib.hid (by have := (HO.out.kept HI2.out.bel).row; rw [prs_length] at this; exact this)
                  have HEnd : Hid (∀ g cap w3, w3.ownsRow w.heap.size 47 2 (.slice (some ⟨g, 0, none⟩) (t + 1) cap) (t + 1) (volCells (prs l t) us ++ [.int .i64 id, .slice Au s cu]) → (W.alloc (.cells #[.int .i64 id, .slice Au s cu] 47)).grownBy w3 (Value.slice Ao t co).ownBlock → ((Value.slice Ao t co).ownBlock = some g ∨ g = W.heap.size + 1) → OwnO w3 w.heap.size (.slice (some ⟨g, 0, none⟩) (t + 1) cap) (prs l (t + 1)) (us ++ [.slice Au s cu]) ∧ Below w.heap.size w w3) := Lib.hid (fun g cap w3 ho hg hat => by
                    have := built (w := w) HO.out HI2.out HB.out hwz (by rw [prs_length]; exact ho) hg hat (Nat.le_refl _)
                    rw [prs_length] at this
                    rw [HT.out]
                    exact this)
                  go_wp2_with (at_builtin; refine wpList_append_lies _ rfl (.tmp 56) (.tmp 58) 22 rfl w.heap.size 47 iv (.agg #[.int .i64 0, .slice none 0 0]) 2 32 Try.underlying22 hiv hv0 hv1 hv2 rfl (by decide) (.slice Ao t co) t _ rfl (HOwnV.out.alloc _) ⟨W.heap.size, 0, none⟩ 1 1 [.int .i64 id, .slice Au s cu] rfl rfl ?d1 ?d2 (by omega) ?d3 ?d4 ?d5 (W.heap.size + 1) ?d6 ?_)
                  case d1 =>
                    intro j x hx
                    rw [WideShapes.add_plain, Nat.zero_add, Lib.cell_of_heap (heap_alloc_new _ _)]
                    simpa using hx
                  case d2 => intro x hx; simp only [List.mem_cons, List.not_mem_nil, or_false] at hx; rcases hx with rfl | rfl <;> rfl
                  case d3 => unfold maxLen; omega
                  case d4 => omega
                  case d5 => simp; omega
                  case d6 => simp
                  intro g cap w3 ho3 hg3 hat3 _
                  obtain ⟨hE1, hE2⟩ := HEnd.out g cap w3 ho3 hg3 hat3
                  have HE1 := Lib.hid hE1
                  have HE2 := Lib.hid hE2
                  clear ho3 hg3 hat3 hE1 hE2
                  go_wp2_with fail
                  go_roundw
                  case rel => exact ⟨t + 1, j + 2, by omega, by omega, by omega, by go_num, HP3, ⟨_, HE1⟩, HE2⟩
                  case measure => simp [intOf]; omega
        · have HTn : Hid (t = n / 2) := Lib.hid (by omega)
          have hjn : decide ((j : Int) + 1 < (n : Int)) = false := by rw [decide_eq_false_iff_not]; omega
          have HFt : Hid (VolsFit (prs l t)) := Lib.hid ⟨by rw [prs_length]; omega, fun v hv => by have := prs_bounds HP.out v hv; omega⟩
          obtain ⟨A9, c9, hv9, hvol9⟩ := HO.out.vols
          rw [prs_length] at hv9
          simp only [Value.slice.injEq] at hv9
          obtain ⟨rfl, _, rfl⟩ := hv9
          have HVol := Lib.hid hvol9
          have HRt : Hid (∀ c, Calls Try.prog 21 #[.slice Ao t c] w0 fun e w' => e = .returned (.bool (blankOk l)) ∧ Below w0.heap.size w0 w') := Lib.hid (fun c => by
            have := RefRight_any (c := c) HVol.out HFt.out
            have hk : blankOk l = rightB (prs l t) := HOk.out _ (by rw [← HTn.out]; exact HP.out) (by rw [HTn.out])
            rw [prs_length, ← hk] at this
            exact this)
          have HE : Hid (∀ w1, Below w0.heap.size w0 w1 → RefBlankEnd l w (.returned (.tuple #[.slice Ao t co, .bool (blankOk l)])) w1) := Lib.hid (fun w1 hb => by
            refine ⟨Ao, t, co, rfl, fun hk => ?_, below_next HB.out hb⟩
            unfold blankVs
            rw [if_pos hk, HN.out, ← HTn.out, prs_length]
            exact ⟨rfl, HVol.out.next hb⟩)
          clear hvol9
          go_wp2_with (go_at_call 21; refine (HRt.out _).mono ?_; rintro e w1 ⟨rfl, hb⟩; have HE1 := Lib.hid (HE.out w1 hb); clear hb)
          go_ret2
          exact HE1.out
    · have e1 : ((l.length : Int) % 2 != 0) = true := by rw [bne_iff_ne]; omega
      have e2 : decide (8 < (l.length : Int)) = false := by rw [decide_eq_false_iff_not]; omega
      have HF : Hid (blankOk l = false) := Lib.hid (by simp [blankOk, hev])
      clear h
      go_enter Try.func29, Try.ntmps29
      go_wp2_with fail
      go_ret2
      exact refBlank_no HF.out (Below.refl _ _)
  · have e2 : decide (8 < (l.length : Int)) = true := by rw [decide_eq_true_iff]; omega
    have HF : Hid (blankOk l = false) := Lib.hid (by simp [blankOk, h8])
    clear h
    go_enter Try.func29, Try.ntmps29
    go_wp2_with fail
    go_ret2
    exact refBlank_no HF.out (Below.refl _ _)
end Go.Proofs.Ytphmemopabgaeaa
