/- Bitmaps: contracts of the document's Of and Join. -/
import Derived.Test.YtpefhocjnkbklaaDirL
import Derived.Test.YtpefhocjnkbklaaDirG
namespace Go.Proofs.Ytpefhocjnkbklaa
open Go.RowKit

theorem mayAll_take {l : List Mk} {k : Nat} (hk : k < l.length) : mayAll (l.take (k + 1)) = (mayAll (l.take k) && mayB l[k]) := by
  rw [List.take_succ_eq_append_getElem hk, mayAll_append]; simp [mayAll]
theorem mayAll_bad {l : List Mk} {k : Nat} (hk : k < l.length) (h : mayB l[k] = false) : mayAll l = false := by
  rw [Bool.eq_false_iff]
  intro hall
  have := List.all_eq_true.1 hall l[k] (List.getElem_mem hk)
  rw [h] at this; cases this
theorem named_take {l : List Mk} {k : Nat} (hk : k < l.length) (v b : Nat) : named (l.take (k + 1)) v b = (named (l.take k) v b || (l[k].1 == (v : Int) && l[k].2 == (b : Int))) := by
  rw [List.take_succ_eq_append_getElem hk, named_append]; simp [named]
theorem named_hit {l : List Mk} {k : Nat} (hk : k < l.length) {v b : Nat} (h1 : l[k].1 = (v : Int)) (h2 : l[k].2 = (b : Int)) : named l v b = true := by
  unfold named
  rw [List.any_eq_true]
  exact ⟨_, List.getElem_mem hk, by simp [h1, h2]⟩
theorem sumBits_yes {p : Nat → Bool} {b : Nat} (h : p b = true) : sumBits p (b + 1) = sumBits p b + 2 ^ b := by rw [sumBits, if_pos h]
theorem sumBits_no {p : Nat → Bool} {b : Nat} (h : p b = false) : sumBits p (b + 1) = sumBits p b := by rw [sumBits, if_neg (by simp [h])]; rfl
theorem ofM_list {l : List Mk} (h : mayAll l = true) : listFrom (ofMask l) 1 255 = ofM l := by
  unfold ofM
  rw [if_pos h, listT_one (ofMask_zero h)]

set_option maxHeartbeats 8000000 in
set_option maxRecDepth 100000 in
theorem DocOf_any {w : World} {A : Option Addr} {c : Nat} {l : List Mk} (h : MksAt w w.heap.size A l) (hl : l.length ≤ 1000000) :
    Calls Try.prog 16 #[.slice A l.length c] w (BtsEnd (ofM l) (.bool (mayAll l)) w) := by
  have HV := Lib.hid h
  obtain ⟨i0, hi0, hz0, hz1, hz2⟩ := info_parts Try.infoBt
  obtain ⟨n, hn⟩ : ∃ n, l.length = n := ⟨_, rfl⟩
  have HN := Lib.hid hn
  have HBad : Hid (mayAll l = false → ofM l = []) := Lib.hid fun h => ofM_not h
  have HGood : Hid (mayAll l = true → listFrom (ofMask l) 1 255 = ofM l) := Lib.hid fun h => ofM_list h
  rw [hn] at hl ⊢
  obtain ⟨R, hR⟩ : ∃ R, ofM l = R := ⟨_, rfl⟩
  obtain ⟨E, hE⟩ : ∃ E, mayAll l = E := ⟨_, rfl⟩
  have HE0 := Lib.hid hE
  rw [hR] at HBad HGood ⊢
  rw [hE]
  clear h hn hR hE
  go_enter Try.func16, Try.ntmps16
  go_wp2_with fail
  go_loopg [5] n (fun kx s5 wr => ∃ k : Nat, s5 = .int .i64 k ∧ k ≤ n ∧ n - k ≤ kx ∧ Hid (mayAll (l.take k) = true) ∧ Hid (Below w.heap.size w wr))
  case atStart => exact ⟨0, rfl, Nat.zero_le _, by omega, Lib.hid rfl, Lib.hid (Below.refl _ _)⟩
  case round =>
    obtain ⟨k, rfl, hk, hkx, HM, HB⟩ := hrel
    by_cases hlt : k < n
    · have hltz : (k : Int) < (n : Int) := by omega
      have hk0 : (0 : Int) ≤ (k : Int) := Int.natCast_nonneg _
      have hkl : k < l.length := by rw [HN.out]; exact hlt
      obtain ⟨b, off, hA, hbl, x1, x2⟩ := HV.out.at_ HB.out hkl
      subst hA
      have HT := Lib.hid (mayAll_take hkl)
      have HNo := Lib.hid (fun h => mayAll_bad hkl h)
      obtain ⟨x, hx⟩ : ∃ x, l[k] = x := ⟨_, rfl⟩
      rw [hx] at x1 x2 HT HNo
      clear hx hkl
      obtain ⟨i1, q1⟩ := x
      simp only at x1 x2
      cases hm : mayB (i1, q1) with
      | false =>
        have HMy := Lib.hid hm
        have HF := Lib.hid (HNo.out hm)
        have HEf : Hid (E = false) := Lib.hid (by rw [← HE0.out]; exact HF.out)
        clear hm
        go_wp2_with (go_at_call 40; refine (May_any _ _ _).mono ?_; rw [HMy.out]; rintro e w3 ⟨rfl, hb⟩; replace hb := Lib.hid hb)
        go_ret2
        rw [HEf.out, HBad.out HF.out]
        exact BtsEnd.none_ _ (below_next HB.out hb.out)
      | true =>
        have HMy := Lib.hid hm
        have HM2 : Hid (mayAll (l.take (k + 1)) = true) := Lib.hid (by rw [HT.out, HM.out, hm]; rfl)
        clear hm
        go_wp2_with (go_at_call 40; refine (May_any _ _ _).mono ?_; rw [HMy.out]; rintro e w3 ⟨rfl, hb⟩; replace hb := Lib.hid hb)
        go_roundg (n - (k + 1))
        case measure => omega
        case rel => exact ⟨k + 1, by go_num, by omega, Nat.le_refl _, HM2, Lib.hid (below_next HB.out hb.out)⟩
    · have hltz : ¬ (k : Int) < (n : Int) := by omega
      have HMl : Hid (mayAll l = true) := Lib.hid (by have := HM.out; rw [List.take_of_length_le (by rw [HN.out]; omega)] at this; exact this)
      have HEt : Hid (E = true) := Lib.hid (by rw [← HE0.out]; exact HMl.out)
      have HL := Lib.hid (HGood.out HMl.out)
      have HOf : Hid (∀ v, ofMask l v < 2 ^ 32) := Lib.hid fun v => ofMask_lt l v
      go_wp2_with fail
      obtain ⟨wv, hwv⟩ : ∃ wv, wv = wr := ⟨_, rfl⟩
      subst hwv
      go_loopg [4, 6] 256 (fun kx s4 s6 wr => ∃ (v : Nat) (ms : List Bt) (j : Nat), s6 = .int .i64 v ∧ 1 ≤ v ∧ v ≤ 256 ∧ 256 - v ≤ kx ∧ j ≤ v ∧ ms.length = j ∧ Hid (ms ++ listFrom (ofMask l) v (256 - v) = R) ∧ Hid (wr.ownsRow wv.heap.size 66 2 s4 j (btCells ms)) ∧ Hid (Below wv.heap.size wv wr))
      case atStart => exact ⟨1, [], 0, rfl, Nat.le_refl _, by omega, by omega, by omega, rfl, Lib.hid HL.out, Lib.hid (World.ownsRow_nil _ _ _ _), Lib.hid (Below.refl _ _)⟩
      case round =>
        obtain ⟨v, ms, j, rfl, hv1, hv, hvx, hjv, hj, HMs, HO, HBv⟩ := hrel
        obtain ⟨A4, c4, h4, hxx⟩ := own_lies HO.out
        clear hxx
        subst h4
        by_cases hlt2 : v < 256
        · have hltz2 : (v : Int) < 256 := by omega
          have HBW : Hid (Below w.heap.size w wr) := Lib.hid (below_next HB.out HBv.out)
          go_wp2_with fail
          obtain ⟨wb, hwb⟩ : ∃ wb, wb = wr := ⟨_, rfl⟩
          subst hwb
          go_loopg [7, 8] 32 (fun kx s7 s8 wr => ∃ (b : Nat) (M : Int), s8 = .int .i64 b ∧ b ≤ 32 ∧ 32 - b ≤ kx ∧ s7 = .int .u64 M ∧ Hid (M = (sumBits (named l v) b : Int)) ∧ Hid (wr = wb))
          case atStart => exact ⟨0, 0, rfl, Nat.zero_le _, by omega, rfl, Lib.hid rfl, Lib.hid rfl⟩
          case round =>
            obtain ⟨b, M, rfl, hb, hbx, rfl, HMb, HWb⟩ := hrel
            have hw0 := HWb.out
            subst hw0
            by_cases hlt3 : b < 32
            · have hltz3 : (b : Int) < 32 := by omega
              go_wp2_with fail
              go_loopg [7, 9] n (fun kx s7 s9 wi => ∃ i : Nat, s7 = .int .u64 M ∧ s9 = .int .i64 i ∧ i ≤ n ∧ n - i ≤ kx ∧ Hid (named (l.take i) v b = false) ∧ Hid (wr = wi))
              case atStart => exact ⟨0, rfl, rfl, Nat.zero_le _, by omega, Lib.hid rfl, Lib.hid rfl⟩
              case round =>
                obtain ⟨i, rfl, rfl, hi, hix, HNm, HWi⟩ := hrel
                have hw1 := HWi.out
                subst hw1
                by_cases hlt4 : i < n
                · have hltz4 : (i : Int) < (n : Int) := by omega
                  have hi0 : (0 : Int) ≤ (i : Int) := Int.natCast_nonneg _
                  have hil : i < l.length := by rw [HN.out]; exact hlt4
                  obtain ⟨b0, off, hA, hbl, x1, x2⟩ := HV.out.at_ HBW.out hil
                  subst hA
                  have HT := Lib.hid (named_take hil v b)
                  have HHit := Lib.hid (fun h1 h2 => named_hit hil (v := v) (b := b) h1 h2)
                  obtain ⟨x, hx⟩ : ∃ x, l[i] = x := ⟨_, rfl⟩
                  rw [hx] at x1 x2 HT HHit
                  clear hx hil hbl
                  obtain ⟨i1, q1⟩ := x
                  simp only at x1 x2 HT HHit
                  by_cases g1 : i1 = (v : Int)
                  · have g1' : (i1 == (v : Int)) = true := by simp [g1]
                    by_cases g2 : q1 = (b : Int)
                    · have g2' : (q1 == (b : Int)) = true := by simp [g2]
                      have HHi := Lib.hid (HHit.out g1 g2)
                      obtain ⟨M2, hM2⟩ : ∃ M2 : Int, ((sumBits (named l v) (b + 1) : Nat) : Int) = M2 := ⟨_, rfl⟩
                      have HM2 : Hid (M2 = (sumBits (named l v) (b + 1) : Int)) := Lib.hid hM2.symm
                      obtain ⟨P, hP⟩ : ∃ P, (2 : Int) ^ b = P := ⟨_, rfl⟩
                      have HC : Hid (∀ w, Calls Try.prog 36 #[.int .i64 b] w fun e w' => e = .returned (.int .u64 P) ∧ w' = w) := Lib.hid fun w => by
                        rw [← hP]
                        exact (power_any (b : Int) w (by omega) (by omega)).mono fun e w' h => ⟨by rw [h.1, Int.toNat_natCast], h.2⟩
                      have hadd : IntKind.u64.wrap (M + P) = M2 := by
                        have e1 := sumBits_yes (p := named l v) (b := b) HHi.out
                        have e2 := sumBits_lt (named l v) b
                        have e3 := two_pow_lt hlt3
                        have e4 : ((2 ^ b : Nat) : Int) = (2 : Int) ^ b := by simp
                        rw [IntKind.wrap_u64, HMb.out, ← hP, ← hM2, e1]
                        rw [← e4] at e3 ⊢
                        omega
                      clear g1 g2 HT HHit hM2 hP
                      go_wp2_with (go_at_call 36; refine (HC.out _).mono ?_; rintro e w5 ⟨rfl, rfl⟩)
                      go_roundg (32 - (b + 1))
                      case measure => omega
                      case rel => exact ⟨b + 1, M2, by go_num, by omega, Nat.le_refl _, by first | rfl | rw [hadd], HM2, Lib.hid rfl⟩
                    · have g2' : (q1 == (b : Int)) = false := by simp [g2]
                      have HN2 : Hid (named (l.take (i + 1)) v b = false) := Lib.hid (by rw [HT.out, HNm.out, g2']; simp)
                      clear g1 g2 HT HHit
                      go_wp2_with fail
                      go_roundg (n - (i + 1))
                      case measure => omega
                      case rel => exact ⟨i + 1, rfl, by go_num, by omega, Nat.le_refl _, HN2, Lib.hid rfl⟩
                  · have g1' : (i1 == (v : Int)) = false := by simp [g1]
                    have HN2 : Hid (named (l.take (i + 1)) v b = false) := Lib.hid (by rw [HT.out, HNm.out, g1']; simp)
                    clear g1 HT HHit
                    go_wp2_with fail
                    go_roundg (n - (i + 1))
                    case measure => omega
                    case rel => exact ⟨i + 1, rfl, by go_num, by omega, Nat.le_refl _, HN2, Lib.hid rfl⟩
                · have hltz4 : ¬ (i : Int) < (n : Int) := by omega
                  have HM2 : Hid (M = (sumBits (named l v) (b + 1) : Int)) := Lib.hid (by
                    have h := HNm.out
                    rw [List.take_of_length_le (by rw [HN.out]; omega)] at h
                    rw [sumBits_no h]; exact HMb.out)
                  go_wp2_with fail
                  go_roundg (32 - (b + 1))
                  case measure => omega
                  case rel => exact ⟨b + 1, M, by go_num, by omega, Nat.le_refl _, rfl, HM2, Lib.hid rfl⟩
            · have hltz3 : ¬ (b : Int) < 32 := by omega
              have HMe : Hid (M = (ofMask l v : Int)) := Lib.hid (by rw [HMb.out, show b = 32 from by omega]; rfl)
              by_cases h0 : ofMask l v = 0
              · have HM2 : Hid (ms ++ listFrom (ofMask l) (v + 1) (256 - (v + 1)) = R) := Lib.hid (by rw [← HMs.out, show 256 - v = (256 - (v + 1)) + 1 from by omega, listFrom_zero h0])
                have hx0 : decide ((0 : Int) < M) = false := by rw [HMe.out, h0]; rfl
                clear h0
                go_wp2_with fail
                go_roundg (256 - (v + 1))
                case measure => omega
                case rel => exact ⟨v + 1, ms, j, by go_num, by omega, by omega, Nat.le_refl _, by omega, hj, HM2, HO, HBv⟩
              · have HM2 : Hid ((ms ++ [⟨(v : Int), M⟩]) ++ listFrom (ofMask l) (v + 1) (256 - (v + 1)) = R) := Lib.hid (by rw [← HMs.out, show 256 - v = (256 - (v + 1)) + 1 from by omega, listFrom_some h0, HMe.out]; simp)
                have hx0 : decide ((0 : Int) < M) = true := by rw [HMe.out, decide_eq_true_iff]; omega
                clear h0
                go_wp2_with (at_builtin; refine wpList_append_own_at _ rfl (.tmp 58) (.tmp 62) 22 rfl wv.heap.size 66 i0 (.agg #[.int .i64 0, .int .u64 0]) 2 16 Try.underlying22 hi0 hz0 hz1 hz2 rfl (by decide) (.slice A4 j c4) j _ rfl (HO.out.alloc _) ⟨wr.heap.size, 0, none⟩ 1 1 [.int .i64 v, .int .u64 M] (by first | rfl | simp) rfl ?c3 (by intro u hu; simp at hu; rcases hu with rfl | rfl <;> rfl) ?c4 ?c5 ?c6 ?_)
                case c4 => unfold maxLen; omega
                case c5 => omega
                case c6 => have := HBv.out.size; simp; omega
                intro v6 w6 hown hg _ _
                have HO6 : Hid (w6.ownsRow wv.heap.size 66 2 v6 (j + 1) (btCells (ms ++ [⟨(v : Int), M⟩]))) := Lib.hid (by rw [btCells_append]; exact hown)
                have HB6 : Hid (Below wv.heap.size wv w6) := Lib.hid ((HBv.out.alloc HBv.out.size _).grown hg (by have := HBv.out.size; simp; omega) (fun q hq => (HO.out.lt q hq).1))
                clear hown hg
                go_wp2_with fail
                go_roundg (256 - (v + 1))
                case measure => omega
                case rel => exact ⟨v + 1, ms ++ [⟨(v : Int), M⟩], j + 1, by go_num, by omega, by omega, Nat.le_refl _, by omega, by simp [hj], HM2, HO6, HB6⟩
        · have hltz2 : ¬ (v : Int) < 256 := by omega
          have HEn : Hid (BtsEnd R (.bool true) w (.returned (.tuple #[.slice A4 j c4, .bool true])) wr) := Lib.hid (by
            have hm := HMs.out
            rw [show 256 - v = 0 from by omega] at hm
            simp only [listFrom, List.append_nil] at hm
            subst hm
            have hO := HO.out
            rw [← hj] at hO ⊢
            obtain ⟨A9, c9, h9, _, hl9⟩ := own_lies hO
            simp only [Value.slice.injEq] at h9
            obtain ⟨rfl, _, rfl⟩ := h9
            exact ⟨_, _, rfl, BtsAt.of_lies hl9, below_next HB.out HBv.out⟩)
          go_wp2_with fail
          go_ret2
          rw [HEt.out]
          exact HEn.out
end Go.Proofs.Ytpefhocjnkbklaa
