/- Sizes made into empty volumes: plain; the contract of Blank. -/
import Derived.Test.YtphmemopabgaeaaVolBd
import Derived.Test.YtphmemopabgaeaaVolY
import Derived.Deep.RegionLaw
namespace Go.Proofs.Ytphmemopabgaeaa
open Go.RowKit

def prs (l : List Int) : Nat → List Vl
  | 0 => []
  | t + 1 => prs l t ++ [(l.getD (2 * t) 0, blankB (l.getD (2 * t + 1) 0).toNat)]
def prsOk (l : List Int) : Nat → Bool
  | 0 => true
  | t + 1 => prsOk l t && sizeB (l.getD (2 * t + 1) 0)
def blankOk (l : List Int) : Bool := decide (l.length % 2 = 0) && (decide (l.length ≤ 8) && (prsOk l (l.length / 2) && rightB (prs l (l.length / 2))))
theorem prs_length (l : List Int) (t : Nat) : (prs l t).length = t := by
  induction t with
  | zero => rfl
  | succ t ih => rw [prs, List.length_append, ih]; rfl
theorem prsOk_at {l : List Int} {T t : Nat} (h : prsOk l T = true) (ht : t < T) : sizeB (l.getD (2 * t + 1) 0) = true := by
  induction T with
  | zero => omega
  | succ T ih =>
    rw [prsOk, Bool.and_eq_true] at h
    by_cases e : t = T
    · subst e; exact h.2
    · exact ih h.1 (by omega)
theorem prs_bounds {l : List Int} {T : Nat} (h : prsOk l T = true) : ∀ v ∈ prs l T, v.2.length ≤ 32 := by
  induction T with
  | zero => intro v hv; simp [prs] at hv
  | succ T ih =>
    rw [prsOk, Bool.and_eq_true] at h
    intro v hv
    rw [prs] at hv
    rcases List.mem_append.1 hv with hv | hv
    · exact ih h.1 v hv
    · simp only [List.mem_singleton] at hv
      subst hv
      have : 1 ≤ l.getD (2 * T + 1) 0 ∧ l.getD (2 * T + 1) 0 ≤ 32 := by simpa [sizeB] using h.2
      simp only [blankB_length]; omega
theorem blankOk_no_size {l : List Int} {t : Nat} (ht : 2 * t + 1 < l.length) (h : sizeB (l.getD (2 * t + 1) 0) = false) : blankOk l = false := by
  have : prsOk l (l.length / 2) = false := by
    rw [Bool.eq_false_iff]
    intro hp
    have := prsOk_at hp (t := t) (by omega)
    rw [h] at this
    exact absurd this (by simp)
  simp [blankOk, this]

def blankVs (l : List Int) : List Vl := if blankOk l = true then prs l (l.length / 2) else []
def blankEr (l : List Int) : Int := if blankOk l = true then 0 else 1
theorem blank_no {l : List Int} (h : blankOk l = false) : blankVs l = [] ∧ blankEr l = 1 := by unfold blankVs blankEr; rw [h]; exact ⟨rfl, rfl⟩

/-- A volume that 'blank' made, laid behind the others. -/
theorem blank_more {w w0 w4 w3 : World} {base g cap g0 m : Nat} {v : Value} {vs : List Vl} {us : List Value} {id : Int} (h : OwnO w0 base v vs us) (hb0 : Below w.heap.size w w0) (hbase : base ≤ w0.heap.size) (hlow : w.heap.size ≤ base)
    (ho4 : w4.ownsRow w0.heap.size 9 1 (.slice (some ⟨g0, 0, none⟩) m m) m ((blankB m).map Value.string)) (hb4 : Below w0.heap.size w0 w4)
    (ho : w3.ownsRow base 47 2 (.slice (some ⟨g, 0, none⟩) (vs.length + 1) cap) (vs.length + 1) (volCells vs us ++ [.int .i64 id, .slice (some ⟨g0, 0, none⟩) m m]))
    (hg : (w4.alloc (.cells #[.int .i64 id, .slice (some ⟨g0, 0, none⟩) m m] 47)).grownBy w3 v.ownBlock) (hat : v.ownBlock = some g ∨ g = w4.heap.size + 1) :
    OwnO w3 base (.slice (some ⟨g, 0, none⟩) (vs.length + 1) cap) (vs ++ [(id, blankB m)]) (us ++ [.slice (some ⟨g0, 0, none⟩) m m]) ∧ Below w.heap.size w w3 := by
  have h2 := h.kept hb4
  refine ⟨h2.more (bs := blankB m) (by rw [blankB_length]; exact own_base ho4 (by omega)) (fun k hk e => ?_) ho hg hat, ?_⟩
  · have h3 := (ho4.lt k hk).1
    have h4 := (h.row.lt k e).2
    omega
  · have h1 : Below w.heap.size w w4 := hb0.trans (hb4.mono hb0.size)
    exact (h1.alloc h1.size _).grown hg (by have := h1.size; simp; omega) (fun k hk => by have := (h.row.lt k hk).1; omega)

theorem Lies.numB {w w' : World} {B : Nat} {a : Option Addr} {l : List Int} (h : Lies w B a (l.map (Value.int .i64))) (hb : Below B w w') {k : Nat} (hk : k < l.length) :
    ∃ b off, a = some ⟨b, off, none⟩ ∧ b < B ∧ w'.cell? ⟨b, off + k, none⟩ = some (.int .i64 (l.getD k 0)) := by
  obtain ⟨b, off, hA, hlt, hc⟩ := h.at_ (by intro e; simp at e; subst e; simp at hk)
  refine ⟨b, off, hA, hlt, ?_⟩
  rw [hb.cell (p := ⟨b, off + k, none⟩) hlt, hc k (by simpa using hk), List.getD_eq_getElem?_getD, List.getElem?_eq_getElem hk]
  simp

set_option maxHeartbeats 8000000 in
set_option maxRecDepth 100000 in
theorem Blank_any {w : World} {A : Option Addr} {c : Nat} {l : List Int} (h : Lies w w.heap.size A (l.map (Value.int .i64))) (hl : l.length ≤ 9223372036854775807) :
    Calls Try.prog 28 #[.slice A l.length c] w (VolsEnd (blankVs l) (blankEr l) w) := by
  have HV := Lib.hid h
  by_cases hev : l.length % 2 = 0
  · by_cases h8 : l.length ≤ 8
    · obtain ⟨n, hn⟩ : ∃ n, l.length = n := ⟨_, rfl⟩
      have HN := Lib.hid hn
      have HOk : Hid (∀ b, prsOk l (n / 2) = true → rightB (prs l (n / 2)) = b → blankOk l = b) := Lib.hid (fun b h1 h2 => by simp [blankOk, hn, h1, h2, show n % 2 = 0 from by omega, show n ≤ 8 from by omega])
      rw [hn] at hev h8 hl ⊢
      have e1 : ((n : Int) % 2 != 0) = false := by rw [bne_eq_false_iff_eq]; omega
      have e2 : decide (8 < (n : Int)) = false := by rw [decide_eq_false_iff_not]; omega
      obtain ⟨iv, hiv, hv0, hv1, hv2⟩ := info_parts Try.infoVol
      clear h hn
      go_enter Try.func28, Try.ntmps28
      go_wp2_with fail
      go_loopw [4, 5] (fun o i wr => ∃ t j : Nat, 2 * t ≤ j ∧ j ≤ 2 * t ∧ j ≤ n ∧ i = .int .i64 j ∧ Hid (prsOk l t = true) ∧ (∃ us, Hid (OwnO wr w.heap.size o (prs l t) us)) ∧ Hid (Below w.heap.size w wr)) (fun _ i _ => n - (intOf i).toNat)
      case atStart => exact ⟨0, 0, by omega, by omega, Nat.zero_le _, rfl, Lib.hid rfl, ⟨[], Lib.hid (OwnO.none_ _ _)⟩, Lib.hid (Below.refl _ _)⟩
      case round =>
        obtain ⟨t, j, ht1, ht2, hj, rfl, HP, ⟨us, HO⟩, HB⟩ := hrel
        obtain ⟨Ao, co, ho, hxx⟩ := own_lies HO.out.row
        clear hxx
        subst ho
        rw [prs_length] at HO ⊢
        have hwz : w.heap.size ≤ wr.heap.size := HB.out.size
        by_cases hlt : j < n
        · have hj1 : j + 1 < n := by omega
          obtain ⟨b, off, hA, hbl, x1⟩ := HV.out.numB HB.out (k := j) (by rw [HN.out]; exact hlt)
          obtain ⟨b', off', hA', _, x2⟩ := HV.out.numB HB.out (k := j + 1) (by rw [HN.out]; exact hj1)
          subst hA
          cases hA'
          have HT : Hid (prs l (t + 1) = prs l t ++ [(l.getD j 0, blankB (l.getD (j + 1) 0).toNat)]) := Lib.hid (by rw [prs, show 2 * t = j from by omega])
          have HP2 : Hid (sizeB (l.getD (j + 1) 0) = true → prsOk l (t + 1) = true) := Lib.hid (fun hh => by rw [prsOk, HP.out, show 2 * t + 1 = j + 1 from by omega, hh]; rfl)
          have HNo : Hid (sizeB (l.getD (j + 1) 0) = false → blankOk l = false) := Lib.hid (fun hh => blankOk_no_size (t := t) (by rw [HN.out]; omega) (by rw [show 2 * t + 1 = j + 1 from by omega]; exact hh))
          obtain ⟨id, hid⟩ : ∃ id, l.getD j 0 = id := ⟨_, rfl⟩
          obtain ⟨q, hq⟩ : ∃ q, l.getD (j + 1) 0 = q := ⟨_, rfl⟩
          rw [hid] at x1 HT
          rw [hq] at x2 HT HP2 HNo
          clear hid hq
          have hj0 : (0 : Int) ≤ (j : Int) := Int.natCast_nonneg _
          have hj8 : (j : Int) < (n : Int) := by omega
          cases hs : sizeB q with
          | false =>
            have HE := Lib.hid (blank_no (HNo.out hs))
            have HS := Lib.hid hs
            clear hs HP2 HNo
            go_wp2_with (go_at_call 38; refine (isSize_any _ _).mono ?_; rw [HS.out]; rintro e w' ⟨rfl, rfl⟩)
            go_ret2
            rw [HE.out.1, HE.out.2]
            exact VolsEnd.none_ _ HB.out
          | true =>
            have HS := Lib.hid hs
            have HP3 := Lib.hid (HP2.out hs)
            have hqb : 1 ≤ q ∧ q ≤ 32 := by simpa [sizeB] using hs
            obtain ⟨m, rfl⟩ := Int.eq_ofNat_of_zero_le (show 0 ≤ q by omega)
            rw [Int.toNat_natCast] at HT
            clear hs HP2 HNo
            have HEnd : Hid (∀ g0 w4 g cap w3, w4.ownsRow wr.heap.size 9 1 (.slice (some ⟨g0, 0, none⟩) m m) m ((blankB m).map Value.string) → Below wr.heap.size wr w4 → w3.ownsRow w.heap.size 47 2 (.slice (some ⟨g, 0, none⟩) (t + 1) cap) (t + 1) (volCells (prs l t) us ++ [.int .i64 id, .slice (some ⟨g0, 0, none⟩) m m]) → (w4.alloc (.cells #[.int .i64 id, .slice (some ⟨g0, 0, none⟩) m m] 47)).grownBy w3 (Value.slice Ao t co).ownBlock → ((Value.slice Ao t co).ownBlock = some g ∨ g = w4.heap.size + 1) → OwnO w3 w.heap.size (.slice (some ⟨g, 0, none⟩) (t + 1) cap) (prs l (t + 1)) (us ++ [.slice (some ⟨g0, 0, none⟩) m m]) ∧ Below w.heap.size w w3) := Lib.hid (fun g0 w4 g cap w3 ho4 hb4 ho hg hat => by
              have := blank_more (w := w) HO.out HB.out hwz (Nat.le_refl _) ho4 hb4 (by rw [prs_length]; exact ho) hg hat
              rw [prs_length] at this
              rw [HT.out]
              exact this)
            have HOwnV : Hid (∀ w4, Below wr.heap.size wr w4 → w4.ownsRow w.heap.size 47 2 (.slice Ao t co) t (volCells (prs l t) us)) := Lib.hid (fun w4 hb => by have := (HO.out.kept hb).row; rw [prs_length] at this; exact this)
            go_wp2_with (go_at_call 38; refine (isSize_any _ _).mono ?_; rw [HS.out]; rintro e w' ⟨rfl, rfl⟩)
            have hw1 : IntKind.i64.wrap ((j : Int) + 1) = (j : Int) + 1 := by rw [IntKind.wrap_i64]; omega
            have hw2 : (0 : Int) ≤ (j : Int) + 1 := by omega
            have hw3 : ((j : Int) + 1).toNat = j + 1 := by omega
            have hw4 : (j : Int) + 1 < (n : Int) := by omega
            have HBl : Hid (Calls Try.prog 35 #[.int .i64 id, .int .i64 m] wr.drew fun e w4 => ∃ g0, e = .returned (.agg #[.int .i64 id, .slice (some ⟨g0, 0, none⟩) m m]) ∧ w4.ownsRow wr.heap.size 9 1 (.slice (some ⟨g0, 0, none⟩) m m) m ((blankB m).map Value.string) ∧ Below wr.heap.size wr w4) := Lib.hid ((blank_any id m wr.drew (by omega)).mono (fun e w4 ⟨g0, h1, h2, h3, _⟩ => ⟨g0, h1, h2, ⟨h3.os, h3.tape, h3.output, h3.size, h3.block⟩⟩))
            go_region_law (first
              | (refine step_append_lies _ (by rfl) _ _ _ (by rfl) w.heap.size 47 iv (.agg #[.int .i64 0, .slice none 0 0]) 2 32 Try.underlying22 hiv hv0 hv1 hv2 rfl (by decide) (.slice Ao t co) t _ (by rfl) ((HOwnV.out w4 HB4.out).alloc _) ⟨w4.heap.size, 0, none⟩ 1 1 [.int .i64 id, .slice (some ⟨g0, 0, none⟩) m m] (by rfl) (by rfl) (cell_two_new _ _ _ _) (by simp [Value.oneCell']) (by omega) (by unfold maxLen; omega) (by omega) (by have := HB4.out.size; simp; omega) (w4.heap.size + 1) (by simp) ?_; intro g cap w3 ho3 hg3 hat3 hlt3)
              | (go_simp; go_at_call 35; refine HBl.out.mono ?_; rintro e w4 ⟨g0, rfl, ho4, hb4⟩; have HO4 := Lib.hid ho4; have HB4 := Lib.hid hb4; clear ho4 hb4; dsimp only))
            all_goals
              obtain ⟨hE1, hE2⟩ := HEnd.out g0 w4 g cap w3 HO4.out HB4.out ho3 hg3 hat3
              have HE1 := Lib.hid hE1
              have HE2 := Lib.hid hE2
              clear ho3 hg3 hat3 hE1 hE2 hw1 hw2 hw3 hw4
              go_wp2_with fail
              go_roundw
              case rel => exact ⟨t + 1, j + 2, by omega, by omega, by omega, by go_num, HP3, ⟨_, HE1⟩, HE2⟩
              case measure => simp [intOf]; omega
        · have HTn : Hid (t = n / 2) := Lib.hid (by omega)
          have HFt : Hid (VolsFit (prs l t)) := Lib.hid ⟨by rw [prs_length]; omega, fun v hv => by have := prs_bounds HP.out v hv; omega⟩
          obtain ⟨A9, c9, hv9, hvol9⟩ := HO.out.vols
          rw [prs_length] at hv9
          simp only [Value.slice.injEq] at hv9
          obtain ⟨rfl, _, rfl⟩ := hv9
          have HVol := Lib.hid hvol9
          have HRt : Hid (∀ c, Calls Try.prog 20 #[.slice Ao t c] wr fun e w' => e = .returned (.bool (rightB (prs l t))) ∧ Below wr.heap.size wr w') := Lib.hid (fun c => by
            have := Right_any (c := c) HVol.out HFt.out
            rw [prs_length] at this
            exact this)
          have HOk2 : Hid (blankOk l = rightB (prs l t)) := Lib.hid (HOk.out _ (by rw [← HTn.out]; exact HP.out) (by rw [HTn.out]))
          clear hvol9
          cases hr : rightB (prs l t) with
          | false =>
            rw [hr] at HRt HOk2
            have HE := Lib.hid (blank_no HOk2.out)
            clear hr
            go_wp2_with (go_at_call 20; refine (HRt.out _).mono ?_; rintro e w1 ⟨rfl, hb⟩; have HB1 := Lib.hid (below_next HB.out hb); clear hb)
            go_ret2
            rw [HE.out.1, HE.out.2]
            exact VolsEnd.none_ _ HB1.out
          | true =>
            rw [hr] at HRt HOk2
            have HE : Hid (∀ w1, Below wr.heap.size wr w1 → VolsEnd (blankVs l) (blankEr l) w (.returned (.tuple #[.slice Ao t co, .int .i64 0])) w1) := Lib.hid (fun w1 hb => by
              unfold blankVs blankEr
              rw [HOk2.out, if_pos rfl, if_pos rfl, HN.out, ← HTn.out]
              exact ⟨Ao, co, by rw [prs_length], HVol.out.next hb, below_next HB.out hb⟩)
            clear hr
            go_wp2_with (go_at_call 20; refine (HRt.out _).mono ?_; rintro e w1 ⟨rfl, hb⟩; have HE1 := Lib.hid (HE.out w1 hb); clear hb)
            go_ret2
            exact HE1.out
    · have e1 : ((l.length : Int) % 2 != 0) = false := by rw [bne_eq_false_iff_eq]; omega
      have e2 : decide (8 < (l.length : Int)) = true := by rw [decide_eq_true_iff]; omega
      have hno : blankOk l = false := by simp [blankOk, h8]
      rw [(blank_no hno).1, (blank_no hno).2]
      clear h hno
      go_enter Try.func28, Try.ntmps28
      go_wp2_with fail
      go_ret2
      exact VolsEnd.none_ _ (Below.refl _ _)
  · have e1 : ((l.length : Int) % 2 != 0) = true := by rw [bne_iff_ne]; omega
    have hno : blankOk l = false := by simp [blankOk, hev]
    rw [(blank_no hno).1, (blank_no hno).2]
    clear h hno
    go_enter Try.func28, Try.ntmps28
    go_wp2_with fail
    go_ret2
    exact VolsEnd.none_ _ (Below.refl _ _)
end Go.Proofs.Ytphmemopabgaeaa
