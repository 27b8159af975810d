/- Contract of the document's Right. -/
import Derived.Test.YtpmllckfijfehaaVolK
namespace Go.Proofs.Ytpmllckfijfehaa
open Go.RowKit

/-- What Right asks of one volume, piece by piece. -/
def badB (vs : List Vl) (k : Nat) (v : Vl) : Prop := ¬ (lastOf vs k < v.1) ∨ ¬ (shapeB v.1 v.2.length = true)
theorem good_bad {vs : List Vl} {k : Nat} (h : goodN vs k) (hk : k < vs.length) (hb : badB vs k vs[k]) : goodFrom 0 vs = false := by
  rw [goodN_step h hk]
  unfold volOk
  rcases hb with hb | hb
  · simp [hb]
  · simp [hb]
theorem good_long {vs : List Vl} {k : Nat} (h : goodN vs k) (hk : k < vs.length) (hb : vs[k].2.all shortB = false) : goodFrom 0 vs = false := by
  rw [goodN_step h hk]
  unfold volOk
  simp [hb]
theorem good_next {vs : List Vl} {k : Nat} (h : goodN vs k) (hk : k < vs.length) (h1 : lastOf vs k < vs[k].1) (h2 : shapeB vs[k].1 vs[k].2.length = true) (h3 : vs[k].2.all shortB = true) : goodN vs (k + 1) := by
  have := goodN_step h hk
  unfold volOk at this
  rw [h2, h3, decide_eq_true h1] at this
  show _ = _
  simpa using this

set_option maxHeartbeats 4000000 in
set_option maxRecDepth 100000 in
theorem RefRight_any {w : World} {A : Option Addr} {c : Nat} {vs : List Vl} (h : VolsAt w w.heap.size A vs) (hf : VolsFit vs) :
    Calls Try.prog 29 #[.slice A vs.length c] w fun e w' => e = .returned (.bool (rightB vs)) ∧ Below w.heap.size w w' := by
  have hl := hf.1
  by_cases h4 : vs.length ≤ 4
  · have HV := Lib.hid h
    have HR : Hid (∀ b, goodFrom 0 vs = b → rightB vs = b) := Lib.hid (fun b hb => rightB_of h4 hb)
    obtain ⟨n, hn⟩ : ∃ n, vs.length = n := ⟨_, rfl⟩
    have HN := Lib.hid hn
    rw [hn] at hl h4 ⊢
    have h4' : decide (4 < (n : Int)) = false := by rw [decide_eq_false_iff_not]; omega
    clear h hf hn
    go_enter Try.func29, Try.ntmps29
    go_wp2
    go_loopw [3] (fun i wr => ∃ k : Nat, k ≤ n ∧ i = .int .i64 k ∧ Hid (goodN vs k) ∧ Hid (Below w.heap.size w wr)) (fun i _ => n - (intOf i).toNat)
    case atStart => exact ⟨0, Nat.zero_le _, rfl, Lib.hid rfl, Lib.hid (Below.refl _ _)⟩
    case round =>
      obtain ⟨k, hk, rfl, HG, HB⟩ := hrel
      by_cases hlt : k < n
      · have hkl : k < vs.length := by rw [HN.out]; exact hlt
        obtain ⟨b, off, a, c', hA, hbl, c1, c2, hly⟩ := HV.out.at_ HB.out hkl
        have HLY := Lib.hid hly
        subst hA
        have HBad : Hid (badB vs k vs[k] → rightB vs = false) := Lib.hid (fun hb => HR.out false (good_bad HG.out hkl hb))
        have HLong : Hid (vs[k].2.all shortB = false → rightB vs = false) := Lib.hid (fun hb => HR.out false (good_long HG.out hkl hb))
        have HNext := Lib.hid (fun h1 h2 h3 => good_next HG.out hkl h1 h2 h3)
        have hprev : k = 0 ∧ lastOf vs k = 0 ∨ ∃ i0, 0 < k ∧ lastOf vs k = i0 ∧ wr.cell? ⟨b, off + (k - 1) * 2, none⟩ = some (.int .i64 i0) := by
          by_cases h0 : k = 0
          · subst h0; exact .inl ⟨rfl, rfl⟩
          · obtain ⟨b', off', a', c'', hA', _, d1, _, _⟩ := HV.out.at_ HB.out (i := k - 1) (by omega)
            cases hA'
            refine .inr ⟨_, by omega, ?_, d1⟩
            have := lastOf_succ (vs := vs) (k := k - 1) (by omega)
            rw [show k - 1 + 1 = k from by omega] at this
            exact this
        obtain ⟨v, hv⟩ : ∃ v, vs[k] = v := ⟨_, rfl⟩
        rw [hv] at c1 c2 HBad HLong HNext HLY
        clear hv hkl hly
        obtain ⟨i1, bs⟩ := v
        simp only at c1 c2 HBad HLong HNext HLY
        unfold badB at HBad
        simp only at HBad
        obtain ⟨last, hlast⟩ : ∃ last, lastOf vs k = last := ⟨_, rfl⟩
        rw [hlast] at hprev HBad HNext
        clear hlast
        have hSh := Lib.hid (shapeB_iff i1 bs.length)
        obtain ⟨m, hm⟩ : ∃ m, bs.length = m := ⟨_, rfl⟩
        have HM := Lib.hid hm
        rw [hm] at c2 HBad HNext hSh
        clear hm
        by_cases g1 : 1 ≤ i1
        · by_cases g2 : i1 ≤ 255
          · have e1 : decide (i1 < 1) = false := by rw [decide_eq_false_iff_not]; omega
            have e2 : decide (255 < i1) = false := by rw [decide_eq_false_iff_not]; omega
            by_cases g3 : last < i1
            · by_cases g4 : 1 ≤ m
              · have e4 : decide ((m : Int) < 1) = false := by rw [decide_eq_false_iff_not]; omega
                by_cases g5 : m ≤ 32
                · have e5 : decide (32 < (m : Int)) = false := by rw [decide_eq_false_iff_not]; omega
                  have HNx : Hid (bs.all shortB = true → goodN vs (k + 1)) := Lib.hid (fun h3 => HNext.out g3 (hSh.out.2 ⟨g1, g2, by omega, by omega⟩) h3)
                  clear HBad HNext hSh
                  have hWR : ∀ q, Below w.heap.size w (wr.drewN q) := fun q => below_q HB.out q
                  have HWR := Lib.hid hWR
                  clear hWR
                  have hk0 : (0 : Int) ≤ (k : Int) := Int.natCast_nonneg _
                  have hk8 : (k : Int) < (n : Int) := by omega
                  rcases hprev with ⟨hz, hla⟩ | ⟨i0, hkp, hla, d1⟩
                  case' inl =>
                    have e0 : decide (0 < k) = false := by rw [decide_eq_false_iff_not]; omega
                    clear hz hla
                    go_wp2
                    go_quiet (fail)
                    go_wp2
                  case' inr =>
                    have e0 : decide (0 < k) = true := by rw [decide_eq_true_iff]; omega
                    have e3 : decide (i1 ≤ i0) = false := by rw [decide_eq_false_iff_not]; omega
                    clear hla
                    have hw1 : IntKind.i64.wrap ((k : Int) - 1) = (k : Int) - 1 := by rw [IntKind.wrap_i64]; omega
                    have hw2 : (0 : Int) ≤ (k : Int) - 1 := by omega
                    have hw3 : ((k : Int) - 1).toNat = k - 1 := by omega
                    have hw4 : (k : Int) - 1 < (n : Int) := by omega
                    go_wp2
                    go_quiet (fail)
                    clear hw1 hw2 hw3 hw4 d1 e3
                    go_wp2
                  all_goals
                    have c2' : (wr.drewN nq).cell? ⟨b, off + k * 2 + 1, none⟩ = some (.slice a m c') := c2
                    have HB' : Hid (Below w.heap.size w (wr.drewN nq)) := Lib.hid (below_q HB.out nq)
                    have HL' : Hid (Lies (wr.drewN nq) w.heap.size a (bs.map Value.string)) := Lib.hid HLY.out
                    clear c1 c2 HLY e0 e1 e2 e4 e5 HWR
                    generalize wr.drewN nq = W at *
                    go_loop [4] (fun j => ∃ q : Nat, q ≤ m ∧ j = .int .i64 q ∧ Hid ((bs.take q).all shortB = true)) (fun j => m - (intOf j).toNat)
                    case atStart => exact ⟨0, Nat.zero_le _, rfl, Lib.hid (by simp)⟩
                    case round =>
                      obtain ⟨q, hq, rfl, HQ⟩ := hrel
                      by_cases hqm : q < m
                      · have hql : q < bs.length := by rw [HM.out]; exact hqm
                        obtain ⟨b2, off2, hA2, _, c3⟩ := HL'.out.text (Below.refl _ _) hql
                        subst hA2
                        have HT := Lib.hid (List.take_succ_eq_append_getElem hql)
                        have HMem := Lib.hid (List.getElem_mem hql)
                        obtain ⟨t, ht⟩ : ∃ t, bs[q] = t := ⟨_, rfl⟩
                        rw [ht] at c3 HT HMem
                        clear ht hql
                        by_cases h8 : t.size ≤ 8
                        · have h8' : decide (8 < (t.size : Int)) = false := by rw [decide_eq_false_iff_not]; omega
                          go_wp2
                          go_round
                          case rel => exact ⟨q + 1, by omega, by go_num, Lib.hid (by rw [HT.out, List.all_append, HQ.out]; simp [shortB, h8])⟩
                          case measure => simp [intOf]; omega
                        · have h8' : decide (8 < (t.size : Int)) = true := by rw [decide_eq_true_iff]; omega
                          have HF : Hid (rightB vs = false) := Lib.hid (HLong.out (by
                            rw [Bool.eq_false_iff]
                            intro hall
                            have := List.all_eq_true.1 hall t HMem.out
                            simp [shortB] at this
                            omega))
                          go_wp2
                          go_ret
                          exact ⟨by rw [HF.out]; rfl, HB'.out⟩
                      · have HG2 := Lib.hid (HNx.out (by have := HQ.out; rwa [List.take_of_length_le (by rw [HM.out]; omega)] at this))
                        go_wp2
                        go_roundw
                        case rel => exact ⟨k + 1, by omega, by go_num, HG2, HB'⟩
                        case measure => simp [intOf]; omega
                · have e5 : decide (32 < (m : Int)) = true := by rw [decide_eq_true_iff]; omega
                  have HF : Hid (rightB vs = false) := Lib.hid (HBad.out (Or.inr (fun h => by have := hSh.out.1 h; omega)))
                  clear HBad HNext hSh HLong HG
                  have hk0 : (0 : Int) ≤ (k : Int) := Int.natCast_nonneg _
                  have hk8 : (k : Int) < (n : Int) := by omega
                  rcases hprev with ⟨hz, hla⟩ | ⟨i0, hkp, hla, d1⟩
                  case' inl =>
                    have e0 : decide (0 < k) = false := by rw [decide_eq_false_iff_not]; omega
                    clear hz hla
                    go_wp2
                    go_quiet (fail)
                  case' inr =>
                    have e0 : decide (0 < k) = true := by rw [decide_eq_true_iff]; omega
                    have e3 : decide (i1 ≤ i0) = false := by rw [decide_eq_false_iff_not]; omega
                    clear hla
                    have hw1 : IntKind.i64.wrap ((k : Int) - 1) = (k : Int) - 1 := by rw [IntKind.wrap_i64]; omega
                    have hw2 : (0 : Int) ≤ (k : Int) - 1 := by omega
                    have hw3 : ((k : Int) - 1).toNat = k - 1 := by omega
                    have hw4 : (k : Int) - 1 < (n : Int) := by omega
                    go_wp2
                    go_quiet (fail)
                    clear hw1 hw2 hw3 hw4 d1 e3
                  all_goals
                    go_wp2
                    go_ret
                    exact ⟨by rw [HF.out]; rfl, below_q HB.out _⟩
              · have e4 : decide ((m : Int) < 1) = true := by rw [decide_eq_true_iff]; omega
                have HF : Hid (rightB vs = false) := Lib.hid (HBad.out (Or.inr (fun h => by have := hSh.out.1 h; omega)))
                clear HBad HNext hSh HLong HG
                have hk0 : (0 : Int) ≤ (k : Int) := Int.natCast_nonneg _
                have hk8 : (k : Int) < (n : Int) := by omega
                rcases hprev with ⟨hz, hla⟩ | ⟨i0, hkp, hla, d1⟩
                case' inl =>
                  have e0 : decide (0 < k) = false := by rw [decide_eq_false_iff_not]; omega
                  clear hz hla
                  go_wp2
                  go_quiet (fail)
                case' inr =>
                  have e0 : decide (0 < k) = true := by rw [decide_eq_true_iff]; omega
                  have e3 : decide (i1 ≤ i0) = false := by rw [decide_eq_false_iff_not]; omega
                  clear hla
                  have hw1 : IntKind.i64.wrap ((k : Int) - 1) = (k : Int) - 1 := by rw [IntKind.wrap_i64]; omega
                  have hw2 : (0 : Int) ≤ (k : Int) - 1 := by omega
                  have hw3 : ((k : Int) - 1).toNat = k - 1 := by omega
                  have hw4 : (k : Int) - 1 < (n : Int) := by omega
                  go_wp2
                  go_quiet (fail)
                  clear hw1 hw2 hw3 hw4 d1 e3
                all_goals
                  go_wp2
                  go_ret
                  exact ⟨by rw [HF.out]; rfl, below_q HB.out _⟩
            · have HF : Hid (rightB vs = false) := Lib.hid (HBad.out (Or.inl g3))
              clear HBad HNext hSh HLong HG
              have hk0 : (0 : Int) ≤ (k : Int) := Int.natCast_nonneg _
              have hk8 : (k : Int) < (n : Int) := by omega
              rcases hprev with ⟨hz, hla⟩ | ⟨i0, hkp, hla, d1⟩
              · exact absurd g3 (by omega)
              · have e0 : decide (0 < k) = true := by rw [decide_eq_true_iff]; omega
                have e3 : decide (i1 ≤ i0) = true := by rw [decide_eq_true_iff]; omega
                clear hla
                have hw1 : IntKind.i64.wrap ((k : Int) - 1) = (k : Int) - 1 := by rw [IntKind.wrap_i64]; omega
                have hw2 : (0 : Int) ≤ (k : Int) - 1 := by omega
                have hw3 : ((k : Int) - 1).toNat = k - 1 := by omega
                have hw4 : (k : Int) - 1 < (n : Int) := by omega
                go_wp2
                go_quiet (fail)
                clear hw1 hw2 hw3 hw4 d1 e3
                go_wp2
                go_ret
                exact ⟨by rw [HF.out]; rfl, below_q HB.out _⟩
          · have HF : Hid (rightB vs = false) := Lib.hid (HBad.out (Or.inr (fun h => by have := hSh.out.1 h; omega)))
            clear HBad HNext hSh HLong HG hprev
            have hk0 : (0 : Int) ≤ (k : Int) := Int.natCast_nonneg _
            have hk8 : (k : Int) < (n : Int) := by omega
            have e1 : decide (i1 < 1) = false := by rw [decide_eq_false_iff_not]; omega
            have e2 : decide (255 < i1) = true := by rw [decide_eq_true_iff]; omega
            go_wp2
            go_quiet (fail)
            go_wp2
            go_ret
            exact ⟨by rw [HF.out]; rfl, below_q HB.out _⟩
        · have HF : Hid (rightB vs = false) := Lib.hid (HBad.out (Or.inr (fun h => by have := hSh.out.1 h; omega)))
          clear HBad HNext hSh HLong HG hprev
          have hk0 : (0 : Int) ≤ (k : Int) := Int.natCast_nonneg _
          have hk8 : (k : Int) < (n : Int) := by omega
          have e1 : decide (i1 < 1) = true := by rw [decide_eq_true_iff]; omega
          go_wp2
          go_quiet (fail)
          go_wp2
          go_ret
          exact ⟨by rw [HF.out]; rfl, below_q HB.out _⟩
      · have HE := Lib.hid (goodN_end HG.out (by rw [HN.out]; omega))
        go_wp2
        go_ret
        exact ⟨by rw [HR.out true HE.out]; rfl, HB.out⟩
  · have h4' : decide (4 < (vs.length : Int)) = true := by rw [decide_eq_true_iff]; omega
    rw [show rightB vs = false from by simp [rightB]; omega]
    clear h hf
    go_enter Try.func29, Try.ntmps29
    go_wp2
    go_ret
    exact ⟨rfl, Below.refl _ _⟩
end Go.Proofs.Ytpmllckfijfehaa
