/- Contracts of Right and Get of the package vols. -/
import Derived.Test.YtpmllckfijfehaaVolB
namespace Go.Proofs.Ytpmllckfijfehaa
open Go.RowKit

/-- What the loop of Right keeps: the answer is that of what is left. -/
def lastOf (vs : List Vl) (k : Nat) : Int := if k = 0 then 0 else (vs.getD (k - 1) (0, [])).1
def goodN (vs : List Vl) (k : Nat) : Prop := goodFrom 0 vs = goodFrom (lastOf vs k) (vs.drop k)
theorem lastOf_succ {vs : List Vl} {k : Nat} (hk : k < vs.length) : lastOf vs (k + 1) = vs[k].1 := by
  unfold lastOf
  rw [if_neg (by omega), Nat.add_sub_cancel, List.getD_eq_getElem?_getD, List.getElem?_eq_getElem hk]
  rfl
theorem goodN_step {vs : List Vl} {k : Nat} (h : goodN vs k) (hk : k < vs.length) : goodFrom 0 vs = (decide (lastOf vs k < vs[k].1) && (volOk vs[k] && goodFrom (lastOf vs (k + 1)) (vs.drop (k + 1)))) := by
  rw [lastOf_succ hk]
  have := h
  unfold goodN at this
  rw [this, drop_at hk, goodFrom]
theorem goodN_end {vs : List Vl} {k : Nat} (h : goodN vs k) (hk : k = vs.length) : goodFrom 0 vs = true := by
  have := h
  unfold goodN at this
  rw [this, hk, List.drop_length]
  rfl
theorem rightB_of {vs : List Vl} {b : Bool} (h : vs.length ≤ 4) (hg : goodFrom 0 vs = b) : rightB vs = b := by simp [rightB, h, hg]

set_option maxHeartbeats 1600000 in
theorem Right_any {w : World} {A : Option Addr} {c : Nat} {vs : List Vl} (h : VolsAt w w.heap.size A vs) (hf : VolsFit vs) :
    Calls Try.prog 48 #[.slice A vs.length c] w fun e w' => e = .returned (.bool (rightB vs)) ∧ Below w.heap.size w w' := by
  have hl := hf.1
  by_cases h4 : vs.length ≤ 4
  · have HV := Lib.hid h
    have HF := Lib.hid hf
    have HR : Hid (∀ b, goodFrom 0 vs = b → rightB vs = b) := Lib.hid (fun b hb => rightB_of h4 hb)
    obtain ⟨n, hn⟩ : ∃ n, vs.length = n := ⟨_, rfl⟩
    have HN := Lib.hid hn
    rw [hn] at hl h4 ⊢
    have h4' : decide (4 < (n : Int)) = false := by rw [decide_eq_false_iff_not]; omega
    clear h hf hn
    go_enter Try.func48, Try.ntmps48
    go_wp2_with fail
    go_loopw [3, 11] (fun l i wr => ∃ k : Nat, k ≤ n ∧ i = .int .i64 k ∧ l = .int .i64 (lastOf vs k) ∧ Hid (goodN vs k) ∧ Hid (Below w.heap.size w wr)) (fun _ i _ => n - (intOf i).toNat)
    case atStart => exact ⟨0, Nat.zero_le _, rfl, rfl, Lib.hid rfl, Lib.hid (Below.refl _ _)⟩
    case round =>
      obtain ⟨k, hk, rfl, rfl, HG, HB⟩ := hrel
      by_cases hlt : k < n
      · have hkl : k < vs.length := by rw [HN.out]; exact hlt
        obtain ⟨b, off, a, c', hA, hbl, c1, c2, hly⟩ := HV.out.at_ HB.out hkl
        have hbw : b < wr.heap.size := Nat.lt_of_lt_of_le hbl HB.out.size
        have hwz : w.heap.size ≤ wr.heap.size := HB.out.size
        subst hA
        have hml := HF.out.2 _ (List.getElem_mem hkl)
        have hst := goodN_step HG.out hkl
        have HL := Lib.hid (lastOf_succ hkl)
        have hly' : ∀ o, Lies (wr.alloc o) (wr.alloc o).heap.size a (vs[k].2.map Value.string) := fun o => (hly.more hwz).next ((Below.refl _ _).alloc (Nat.le_refl _) o)
        have HLY := Lib.hid hly'
        obtain ⟨i1, hi1⟩ : ∃ i1, vs[k].1 = i1 := ⟨_, rfl⟩
        obtain ⟨bs, hbs⟩ : ∃ bs, vs[k].2 = bs := ⟨_, rfl⟩
        unfold volOk at hst
        rw [hi1, hbs] at hst
        rw [hi1] at c1 HL
        rw [hbs] at c2 HLY hml
        have HST := Lib.hid hst
        clear hi1 hbs hkl hly hly' hst
        obtain ⟨last, hlast⟩ : ∃ last, lastOf vs k = last := ⟨_, rfl⟩
        rw [hlast] at HST ⊢
        clear hlast
        have HSz := Lib.hid (HB.out.alloc hwz (.cells #[.int .i64 i1, .slice a bs.length c'] 70))
        by_cases h1 : last < i1
        · have h1' : decide (i1 ≤ last) = false := by rw [decide_eq_false_iff_not]; omega
          cases hs : shapeB i1 bs.length with
          | false =>
            have HS := Lib.hid hs
            clear hs
            go_wp2_with (go_at_call 60; refine (isShape_any _ _ _).mono ?_; rw [HS.out]; rintro e w' ⟨rfl, rfl⟩)
            go_ret
            exact ⟨by rw [HR.out false (by rw [HST.out, HS.out]; simp)]; rfl, HSz.out⟩
          | true =>
            have HS := Lib.hid hs
            clear hs
            cases ha : bs.all shortB with
            | false =>
              have HAl := Lib.hid ha
              clear ha
              go_wp2_with (first
                | (go_at_call 60; refine (isShape_any _ _ _).mono ?_; rw [HS.out]; rintro e w' ⟨rfl, rfl⟩)
                | (go_at_call 61; refine (ContainsFunc_any (HLY.out _) hml).mono ?_; rw [HAl.out]; rintro e w' ⟨rfl, rfl⟩))
              go_ret
              exact ⟨by rw [HR.out false (by rw [HST.out, HAl.out]; simp)]; rfl, HSz.out⟩
            | true =>
              have HAl := Lib.hid ha
              have HG2 : Hid (goodN vs (k + 1)) := Lib.hid (by
                show _ = _
                rw [HST.out, HS.out, ha, decide_eq_true h1]; simp)
              clear ha
              go_wp2_with (first
                | (go_at_call 60; refine (isShape_any _ _ _).mono ?_; rw [HS.out]; rintro e w' ⟨rfl, rfl⟩)
                | (go_at_call 61; refine (ContainsFunc_any (HLY.out _) hml).mono ?_; rw [HAl.out]; rintro e w' ⟨rfl, rfl⟩))
              go_roundw
              case rel => exact ⟨k + 1, by omega, by go_num, by rw [HL.out], HG2, HSz⟩
              case measure => simp [intOf]; omega
        · have h1' : decide (i1 ≤ last) = true := by rw [decide_eq_true_iff]; omega
          have H1 : Hid (decide (last < i1) = false) := Lib.hid (by rw [decide_eq_false_iff_not]; exact h1)
          go_wp2_with fail
          go_ret
          exact ⟨by rw [HR.out false (by rw [HST.out, H1.out]; simp)]; rfl, HSz.out⟩
      · have HE := Lib.hid (goodN_end HG.out (by rw [HN.out]; omega))
        go_wp2_with fail
        go_ret
        exact ⟨by rw [HR.out true HE.out]; rfl, HB.out⟩
  · have h4' : decide (4 < (vs.length : Int)) = true := by rw [decide_eq_true_iff]; omega
    rw [show rightB vs = false from by simp [rightB]; omega]
    clear h hf
    go_enter Try.func48, Try.ntmps48
    go_wp2_with fail
    go_ret
    exact ⟨rfl, Below.refl _ _⟩

theorem rightB_good {vs : List Vl} (h : rightB vs = true) : goodFrom 0 vs = true := ((rightB_iff vs).1 h).2
theorem gt_not {vs : List Vl} {vol block : Int} (h : rightB vs = false) : gtE vs vol block = 1 ∧ gtS vs vol block = ByteArray.empty := by
  unfold gtE gtS; rw [h]; exact ⟨rfl, rfl⟩
theorem gt_ok {vs : List Vl} {vol block : Int} (h : rightB vs = true) : gtE vs vol block = locE vs vol block ∧ gtS vs vol block = (if locE vs vol block = 0 then (vs.getD (findAt vs vol) (0, [])).2.getD block.toNat ByteArray.empty else ByteArray.empty) := by
  unfold gtE gtS
  rw [if_pos h, if_pos h]
  exact ⟨gotE_loc (rightB_good h) _ _, gotS_loc (rightB_good h) _ _⟩
/-- A block that is found. -/
theorem locE_zero {vs : List Vl} {vol block : Int} (h : locE vs vol block = 0) : hasAt vs vol = true ∧ ∃ hf : findAt vs vol < vs.length, 0 ≤ block ∧ block < (vs[findAt vs vol]'hf).2.length := by
  cases hh : hasAt vs vol with
  | false => rw [(locE_none hh).1] at h; exact absurd h (by decide)
  | true =>
    have hlt := hasAt_lt hh
    rw [(locE_some hh (List.getElem?_eq_getElem hlt)).1] at h
    by_cases h2 : inB (vs[findAt vs vol]).2 block = true
    · exact ⟨rfl, hlt, (inB_iff _ _).1 h2⟩
    · rw [if_neg h2] at h; exact absurd h (by decide)

theorem str_empty : (⟨#[]⟩ : ByteArray) = ByteArray.empty := rfl

end Go.Proofs.Ytpmllckfijfehaa
