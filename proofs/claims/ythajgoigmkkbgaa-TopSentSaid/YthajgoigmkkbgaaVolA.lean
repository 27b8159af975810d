/- Contracts of the small functions of the package vols: isSize, isShape, isTooLong; slices.ContainsFunc of it; find, locate. Contracts of find, locate and Right of the package vols. Contracts of Right and Get of the package vols. Rows of volumes that a call owns; contracts of slices.Clone (volumes, texts) and of clone. Volumes that a call owns ('OwnV'); the contract of clone. Laws of copy and clear at elements of any size; contracts of blank and slices.Insert. Contract of slices.Insert of one volume, ahead of the end. Contract of slices.Insert of one volume, ahead of the end, where there is no room; the whole contract. Contract of Add of the package vols. -/
import Derived.Test.YthajgoigmkkbgaaVolM
import Derived.Laws.IdiomCopy
import Derived.Laws.Externs
import Derived.Laws.NewBlocks
import Derived.Lib.Walk
import Derived.Lib.SliceRun
import Derived.Lib.JoinLaws
import Derived.Lib.AppendZerosOnto
import Derived.Lib.Overlaps
import Derived.Shelf.RegionOpenPlain
namespace Go.Proofs.Ythajgoigmkkbgaa
open Go.RowKit

theorem isSize_any (n : Int) (w : World) : Calls Try.prog 74 #[.int .i64 n] w fun e w' => e = .returned (.bool (sizeB n)) ∧ w = w' := by
  by_cases h1 : 1 ≤ n
  · by_cases h2 : n ≤ 32
    · rw [show sizeB n = true from by simp [sizeB, h1, h2]]
      go_enter Try.func74, Try.ntmps74
      go_wp2
      go_ret
      exact ⟨rfl, rfl⟩
    · rw [show sizeB n = false from by simp [sizeB, h2]]
      have h3 : decide (n ≤ 32) = false := by simpa using h2
      go_enter Try.func74, Try.ntmps74
      go_wp2
      go_ret
      exact ⟨rfl, rfl⟩
  · rw [show sizeB n = false from by simp [sizeB, h1]]
    have h3 : decide (1 ≤ n) = false := by simpa using h1
    go_enter Try.func74, Try.ntmps74
    go_wp2
    go_ret
    exact ⟨rfl, rfl⟩

theorem isShape_any (id n : Int) (w : World) : Calls Try.prog 59 #[.int .i64 id, .int .i64 n] w fun e w' => e = .returned (.bool (shapeB id n)) ∧ w = w' := by
  by_cases h1 : 1 ≤ id
  · by_cases h2 : id ≤ 255
    · have e : shapeB id n = sizeB n := by simp [shapeB, sizeB, h1, h2]
      rw [e]
      go_enter Try.func59, Try.ntmps59
      go_wp2_with (go_at_call 74; refine (isSize_any _ _).mono ?_; rintro e w' ⟨rfl, rfl⟩)
      go_ret
      exact ⟨rfl, rfl⟩
    · rw [show shapeB id n = false from by simp [shapeB, h2]]
      have h3 : decide (id ≤ 255) = false := by simpa using h2
      go_enter Try.func59, Try.ntmps59
      go_wp2_with fail
      go_ret
      exact ⟨rfl, rfl⟩
  · rw [show shapeB id n = false from by simp [shapeB, h1]]
    have h3 : decide (1 ≤ id) = false := by simpa using h1
    go_enter Try.func59, Try.ntmps59
    go_wp2_with fail
    go_ret
    exact ⟨rfl, rfl⟩

theorem isTooLong_any (s : ByteArray) (w : World) : Calls Try.prog 61 #[.string s] w fun e w' => e = .returned (.bool (!shortB s)) ∧ w = w' := by
  by_cases h : s.size ≤ 8
  · rw [show (!shortB s) = false from by simp [shortB, h]]
    have h2 : decide (8 < (s.size : Int)) = false := by rw [decide_eq_false_iff_not]; omega
    go_enter Try.func61, Try.ntmps61
    go_wp2
    go_ret
    exact ⟨rfl, rfl⟩
  · rw [show (!shortB s) = true from by simp [shortB]; omega]
    have h2 : decide (8 < (s.size : Int)) = true := by rw [decide_eq_true_iff]; omega
    go_enter Try.func61, Try.ntmps61
    go_wp2
    go_ret
    exact ⟨rfl, rfl⟩

/-- The first text that is too long, or -1. -/
def IdxEnd (bs : List ByteArray) (w : World) (e : Ending) (w' : World) : Prop := ∃ k : Int, e = .returned (.int .i64 k) ∧ -1 ≤ k ∧ (0 ≤ k ↔ bs.all shortB = false) ∧ w = w'
theorem idxEnd_some {bs : List ByteArray} {w : World} {k : Nat} {s : ByteArray} (h : s ∈ bs) (hs : shortB s = false) : IdxEnd bs w (.returned (.int .i64 k)) w := by
  refine ⟨k, rfl, by omega, ⟨fun _ => ?_, fun _ => by omega⟩, rfl⟩
  rw [Bool.eq_false_iff]
  intro hall
  have := List.all_eq_true.1 hall s h
  rw [hs] at this
  exact absurd this (by simp)
theorem idxEnd_none {bs : List ByteArray} {w : World} (h : bs.all shortB = true) : IdxEnd bs w (.returned (.int .i64 (-1))) w :=
  ⟨-1, rfl, by omega, ⟨fun h => by omega, fun h' => by rw [h] at h'; exact absurd h' (by simp)⟩, rfl⟩

set_option maxHeartbeats 800000 in
theorem IndexFunc_any {w : World} {a : Option Addr} {c : Nat} {bs : List ByteArray} (h : Lies w w.heap.size a (bs.map Value.string)) (hl : bs.length ≤ 9223372036854775807) :
    Calls Try.prog 75 #[.slice a bs.length c, .func (.func 61) #[] #[]] w (IdxEnd bs w) := by
  have HA := Lib.hid h
  obtain ⟨n, hn⟩ : ∃ n, bs.length = n := ⟨_, rfl⟩
  have HN := Lib.hid hn
  rw [hn] at hl ⊢
  clear h hn
  go_enter Try.func75, Try.ntmps75
  go_wp2_with fail
  go_loop [5, 8] (fun _ i => ∃ k : Nat, k ≤ n ∧ i = .int .i64 k ∧ Hid ((bs.take k).all shortB = true)) (fun _ i => n - (intOf i).toNat)
  case atStart => exact ⟨0, Nat.zero_le _, rfl, Lib.hid (by simp)⟩
  case round =>
    obtain ⟨k, hk, rfl, HK⟩ := hrel
    by_cases hlt : k < n
    · have hkl : k < bs.length := by rw [HN.out]; exact hlt
      obtain ⟨b, off, hA, _, hc⟩ := HA.out.text (Below.refl _ _) hkl
      have hA' := hA
      subst hA
      have HT := Lib.hid (List.take_succ_eq_append_getElem hkl)
      obtain ⟨s, hs⟩ : ∃ s, bs[k] = s := ⟨_, rfl⟩
      have HM : Hid (s ∈ bs) := Lib.hid (by rw [← hs]; exact List.getElem_mem hkl)
      rw [hs] at hc HT
      clear hs hkl
      cases hq : shortB s with
      | true =>
        have HQ := Lib.hid hq
        clear hq
        go_wp2_with (go_at_call 61; refine (isTooLong_any _ _).mono ?_; rw [HQ.out]; rintro e w' ⟨rfl, rfl⟩)
        go_round
        case rel => exact ⟨k + 1, by omega, by go_num, Lib.hid (by rw [HT.out, List.all_append, HK.out]; simp [HQ.out])⟩
        case measure => simp [intOf]; omega
      | false =>
        have HQ := Lib.hid hq
        clear hq
        go_wp2_with (go_at_call 61; refine (isTooLong_any _ _).mono ?_; rw [HQ.out]; rintro e w' ⟨rfl, rfl⟩)
        go_ret
        exact idxEnd_some HM.out HQ.out
    · have HE : Hid (bs.all shortB = true) := Lib.hid (by have := HK.out; rwa [List.take_of_length_le (by rw [HN.out]; omega)] at this)
      go_wp2_with fail
      go_ret
      exact idxEnd_none HE.out

theorem ContainsFunc_any {w : World} {a : Option Addr} {c : Nat} {bs : List ByteArray} (h : Lies w w.heap.size a (bs.map Value.string)) (hl : bs.length ≤ 9223372036854775807) :
    Calls Try.prog 60 #[.slice a bs.length c, .func (.func 61) #[] #[]] w fun e w' => e = .returned (.bool (!bs.all shortB)) ∧ w = w' := by
  have HA := Lib.hid h
  clear h
  go_enter Try.func60, Try.ntmps60
  cases hq : bs.all shortB with
  | true =>
    have HQ := Lib.hid hq
    clear hq
    go_wp2_with (go_at_call 75; refine (IndexFunc_any HA.out hl).mono ?_; rintro e w' ⟨k, rfl, hk, hi, rfl⟩; have h0 : decide (0 ≤ k) = false := (by rw [decide_eq_false_iff_not]; intro h0; rw [hi, HQ.out] at h0; exact absurd h0 (by simp)); clear hi)
    go_ret
    exact ⟨rfl, rfl⟩
  | false =>
    have HQ := Lib.hid hq
    clear hq
    go_wp2_with (go_at_call 75; refine (IndexFunc_any HA.out hl).mono ?_; rintro e w' ⟨k, rfl, hk, hi, rfl⟩; have h0 : decide (0 ≤ k) = true := (by rw [decide_eq_true_iff]; exact hi.2 HQ.out); clear hi)
    go_ret
    exact ⟨rfl, rfl⟩
end Go.Proofs.Ythajgoigmkkbgaa

namespace Go.Proofs.Ythajgoigmkkbgaa
open Go.RowKit

theorem below_q {B : Nat} {w w' : World} (h : Below B w w') (n : Nat) : Below B w (w'.drewN n) := ⟨h.os, h.tape, h.output, h.size, h.block⟩

theorem int_beq (a b : Int) : (a == b) = decide (a = b) := by by_cases h : a = b <;> simp [h]
theorem drop_at {α : Type} {l : List α} {k : Nat} (h : k < l.length) : l.drop k = l[k] :: l.drop (k + 1) := List.drop_eq_getElem_cons h

def findN (vs : List Vl) (id : Int) (k : Nat) : Prop := findAt vs id = findAt (vs.drop k) id + k ∧ hasAt vs id = hasAt (vs.drop k) id
theorem findN_hit {vs : List Vl} {id : Int} {k : Nat} (h : findN vs id k) (hk : k < vs.length) (h1 : id ≤ vs[k].1) : findAt vs id = k ∧ hasAt vs id = (vs[k].1 == id) := by
  obtain ⟨e1, e2⟩ := h
  rw [drop_at hk] at e1 e2
  rw [findAt, if_pos h1] at e1
  rw [hasAt, if_pos h1] at e2
  exact ⟨by omega, e2⟩
theorem findN_step {vs : List Vl} {id : Int} {k : Nat} (h : findN vs id k) (hk : k < vs.length) (h1 : ¬ id ≤ vs[k].1) : findN vs id (k + 1) := by
  obtain ⟨e1, e2⟩ := h
  rw [drop_at hk] at e1 e2
  rw [findAt, if_neg h1] at e1
  rw [hasAt, if_neg h1] at e2
  exact ⟨by omega, e2⟩
theorem findN_end {vs : List Vl} {id : Int} {k : Nat} (h : findN vs id k) (hk : k = vs.length) : findAt vs id = k ∧ hasAt vs id = false := by
  obtain ⟨e1, e2⟩ := h
  rw [hk, List.drop_length] at e1 e2
  exact ⟨by rw [hk]; simpa [findAt] using e1, by simpa [hasAt] using e2⟩

set_option maxHeartbeats 800000 in
theorem find_any {w : World} {A : Option Addr} {c : Nat} {vs : List Vl} (h : VolsAt w w.heap.size A vs) (hl : vs.length ≤ 9223372036854775807) (id : Int) :
    Calls Try.prog 49 #[.slice A vs.length c, .int .i64 id] w fun e w' => e = .returned (.tuple #[.int .i64 (findAt vs id), .bool (hasAt vs id)]) ∧ Below w.heap.size w w' := by
  have HV := Lib.hid h
  obtain ⟨n, hn⟩ : ∃ n, vs.length = n := ⟨_, rfl⟩
  have HN := Lib.hid hn
  rw [hn] at hl ⊢
  clear h hn
  go_enter Try.func49, Try.ntmps49
  go_wp2
  go_loopw [10] (fun i wr => ∃ k : Nat, k ≤ n ∧ i = .int .i64 k ∧ Hid (findN vs id k) ∧ Hid (Below w.heap.size w wr)) (fun i _ => n - (intOf i).toNat)
  case atStart => exact ⟨0, Nat.zero_le _, rfl, Lib.hid ⟨rfl, rfl⟩, Lib.hid (Below.refl _ _)⟩
  case round =>
    obtain ⟨k, hk, rfl, HF, HB⟩ := hrel
    by_cases hlt : k < n
    · have hkl : k < vs.length := by rw [HN.out]; exact hlt
      obtain ⟨b, off, a, c', hA, hbl, c1, c2, hly⟩ := HV.out.at_ HB.out hkl
      clear hly
      have hbw : b < wr.heap.size := Nat.lt_of_lt_of_le hbl HB.out.size
      have hwz : w.heap.size ≤ wr.heap.size := HB.out.size
      subst hA
      have H1 := Lib.hid (fun h1 => findN_hit HF.out hkl h1)
      have H2 := Lib.hid (fun h1 => findN_step HF.out hkl h1)
      obtain ⟨i1, hi1⟩ : ∃ i1, vs[k].1 = i1 := ⟨_, rfl⟩
      obtain ⟨m1, hm1⟩ : ∃ m1, vs[k].2.length = m1 := ⟨_, rfl⟩
      rw [hi1] at c1 H1 H2
      rw [hm1] at c2
      clear hi1 hm1 hkl
      by_cases hid : id ≤ i1
      · have HE := Lib.hid (H1.out hid)
        clear H1 H2
        go_wp2
        go_quiet (fail)
        go_wp2
        go_ret2
        exact ⟨by rw [HE.out.1, HE.out.2, int_beq]; rfl, below_q (HB.out.alloc hwz _) _⟩
      · have HE := Lib.hid (H2.out hid)
        clear H1 H2
        have hid' : decide (id ≤ i1) = false := by simpa using hid
        go_wp2
        go_roundw
        case rel => exact ⟨k + 1, by omega, by go_num, HE, Lib.hid (HB.out.alloc hwz _)⟩
        case measure => simp [intOf]; omega
    · have HE := Lib.hid (findN_end HF.out (by rw [HN.out]; omega))
      have HK : Hid (k = n) := Lib.hid (by omega)
      go_wp2
      go_ret2
      exact ⟨by rw [HE.out.1, HE.out.2, HK.out]; rfl, HB.out⟩

theorem inB_iff (bs : List ByteArray) (block : Int) : inB bs block = true ↔ 0 ≤ block ∧ block < bs.length := by simp [inB]
theorem locE_none {vs : List Vl} {vol block : Int} (h : hasAt vs vol = false) : locE vs vol block = 8 ∧ locI vs vol block = 0 := by
  have e : locE vs vol block = 8 := by unfold locE; rw [if_neg (by simp [h])]
  exact ⟨e, by unfold locI; rw [e]; rfl⟩
theorem locE_some {vs : List Vl} {vol block : Int} {v : Vl} (h : hasAt vs vol = true) (hv : vs[findAt vs vol]? = some v) :
    locE vs vol block = (if inB v.2 block = true then 0 else 10) ∧ locI vs vol block = (if inB v.2 block = true then findAt vs vol else 0) := by
  have e : locE vs vol block = (if inB v.2 block = true then 0 else 10) := by
    unfold locE; rw [if_pos h, List.getD_eq_getElem?_getD, hv]; rfl
  refine ⟨e, ?_⟩
  unfold locI
  rw [e]
  by_cases h2 : inB v.2 block = true <;> simp [h2]

set_option maxHeartbeats 800000 in
theorem locate_any {w : World} {A : Option Addr} {c : Nat} {vs : List Vl} (h : VolsAt w w.heap.size A vs) (hl : vs.length ≤ 9223372036854775807) (vol block : Int) :
    Calls Try.prog 64 #[.slice A vs.length c, .int .i64 vol, .int .i64 block] w fun e w' => e = .returned (.tuple #[.int .i64 (locI vs vol block), .int .i64 (locE vs vol block)]) ∧ Below w.heap.size w w' := by
  have HV := Lib.hid h
  cases hh : hasAt vs vol with
  | false =>
    have HE := Lib.hid (locE_none (block := block) hh)
    have HH := Lib.hid hh
    rw [HE.out.1, HE.out.2]
    clear h hh
    go_enter Try.func64, Try.ntmps64
    go_wp2_with (go_at_call 49; refine (find_any HV.out hl _).mono ?_; rw [HH.out]; rintro e w1 ⟨rfl, hb⟩; replace hb := Lib.hid hb)
    go_ret2
    exact ⟨rfl, hb.out⟩
  | true =>
    have hlt := hasAt_lt hh
    obtain ⟨HE1, HE2⟩ := locE_some (block := block) hh (List.getElem?_eq_getElem hlt)
    have HH := Lib.hid hh
    rw [HE1, HE2]
    clear hh HE1 HE2
    have HC : Hid (∀ w1, Below w.heap.size w w1 → ∃ b off a c, A = some ⟨b, off, none⟩ ∧ w1.cell? ⟨b, off + findAt vs vol * 2 + 1, none⟩ = some (.slice a vs[findAt vs vol].2.length c)) := Lib.hid (fun w1 hb => by
      obtain ⟨b, off, a, c', hA, _, _, c2, _⟩ := h.at_ hb hlt
      exact ⟨b, off, a, c', hA, c2⟩)
    clear h
    have hI := Lib.hid (inB_iff vs[findAt vs vol].2 block)
    obtain ⟨k, hk⟩ : ∃ k, findAt vs vol = k := ⟨_, rfl⟩
    have HK := Lib.hid hk
    obtain ⟨bs, hbs⟩ : ∃ bs, vs[findAt vs vol].2 = bs := ⟨_, rfl⟩
    rw [hbs] at HC hI ⊢
    obtain ⟨m, hm⟩ : ∃ m, bs.length = m := ⟨_, rfl⟩
    rw [hm] at HC hI
    rw [hk] at HC hlt ⊢
    clear hbs hk hm
    obtain ⟨n, hn⟩ : ∃ n, vs.length = n := ⟨_, rfl⟩
    have HN := Lib.hid hn
    rw [hn] at hlt hl ⊢
    clear hn
    have HFC : Hid (∀ (c : Nat), Calls Try.prog 49 #[.slice A n c, .int .i64 vol] w fun e w' => e = .returned (.tuple #[.int .i64 k, .bool true]) ∧ Below w.heap.size w w') := Lib.hid (fun c => by
      have := find_any (c := c) HV.out (by rw [HN.out]; exact hl) vol
      rw [HN.out, HK.out, HH.out] at this
      exact this)
    by_cases h0 : 0 ≤ block
    · by_cases h1 : block < m
      · rw [if_pos (hI.out.2 ⟨h0, h1⟩), if_pos (hI.out.2 ⟨h0, h1⟩)]
        clear hI
        have h2 : decide ((m : Int) ≤ block) = false := by rw [decide_eq_false_iff_not]; omega
        have h3 : decide (block < 0) = false := by rw [decide_eq_false_iff_not]; omega
        go_enter Try.func64, Try.ntmps64
        go_wp2_with (go_at_call 49; refine (HFC.out _).mono ?_; rintro e w1 ⟨rfl, hb⟩; obtain ⟨b, off, a, c', hA, c2⟩ := HC.out w1 hb; subst hA; replace hb := Lib.hid hb)
        go_ret2
        exact ⟨rfl, hb.out⟩
      · rw [if_neg (fun h => h1 (hI.out.1 h).2), if_neg (fun h => h1 (hI.out.1 h).2)]
        clear hI
        have h2 : decide ((m : Int) ≤ block) = true := by rw [decide_eq_true_iff]; omega
        have h3 : decide (block < 0) = false := by rw [decide_eq_false_iff_not]; omega
        go_enter Try.func64, Try.ntmps64
        go_wp2_with (go_at_call 49; refine (HFC.out _).mono ?_; rintro e w1 ⟨rfl, hb⟩; obtain ⟨b, off, a, c', hA, c2⟩ := HC.out w1 hb; subst hA; replace hb := Lib.hid hb)
        go_ret2
        exact ⟨rfl, hb.out⟩
    · rw [if_neg (fun h => h0 (hI.out.1 h).1), if_neg (fun h => h0 (hI.out.1 h).1)]
      clear hI
      have h3 : decide (block < 0) = true := by rw [decide_eq_true_iff]; omega
      go_enter Try.func64, Try.ntmps64
      go_wp2_with (go_at_call 49; refine (HFC.out _).mono ?_; rintro e w1 ⟨rfl, hb⟩; replace hb := Lib.hid hb)
      go_ret2
      exact ⟨rfl, hb.out⟩
end Go.Proofs.Ythajgoigmkkbgaa

namespace Go.Proofs.Ythajgoigmkkbgaa
open Go.RowKit

/-- What the loop of Right keeps: the answer is that of what is left. -/
def lastOf (vs : List Vl) (k : Nat) : Int := if k = 0 then 0 else (vs.getD (k - 1) (0, [])).1
def goodN (vs : List Vl) (k : Nat) : Prop := goodFrom 0 vs = goodFrom (lastOf vs k) (vs.drop k)
theorem lastOf_succ {vs : List Vl} {k : Nat} (hk : k < vs.length) : lastOf vs (k + 1) = vs[k].1 := by
  unfold lastOf
  rw [if_neg (by omega), Nat.add_sub_cancel, List.getD_eq_getElem?_getD, List.getElem?_eq_getElem hk]
  rfl
theorem goodN_step {vs : List Vl} {k : Nat} (h : goodN vs k) (hk : k < vs.length) : goodFrom 0 vs = (decide (lastOf vs k < vs[k].1) && (volOk vs[k] && goodFrom (lastOf vs (k + 1)) (vs.drop (k + 1)))) := by
  rw [lastOf_succ hk]
  have := h
  unfold goodN at this
  rw [this, drop_at hk, goodFrom]
theorem goodN_end {vs : List Vl} {k : Nat} (h : goodN vs k) (hk : k = vs.length) : goodFrom 0 vs = true := by
  have := h
  unfold goodN at this
  rw [this, hk, List.drop_length]
  rfl
theorem rightB_of {vs : List Vl} {b : Bool} (h : vs.length ≤ 4) (hg : goodFrom 0 vs = b) : rightB vs = b := by simp [rightB, h, hg]

set_option maxHeartbeats 1600000 in
theorem Right_any {w : World} {A : Option Addr} {c : Nat} {vs : List Vl} (h : VolsAt w w.heap.size A vs) (hf : VolsFit vs) :
    Calls Try.prog 44 #[.slice A vs.length c] w fun e w' => e = .returned (.bool (rightB vs)) ∧ Below w.heap.size w w' := by
  have hl := hf.1
  by_cases h4 : vs.length ≤ 4
  · have HV := Lib.hid h
    have HF := Lib.hid hf
    have HR : Hid (∀ b, goodFrom 0 vs = b → rightB vs = b) := Lib.hid (fun b hb => rightB_of h4 hb)
    obtain ⟨n, hn⟩ : ∃ n, vs.length = n := ⟨_, rfl⟩
    have HN := Lib.hid hn
    rw [hn] at hl h4 ⊢
    have h4' : decide (4 < (n : Int)) = false := by rw [decide_eq_false_iff_not]; omega
    clear h hf hn
    go_enter Try.func44, Try.ntmps44
    go_wp2_with fail
    go_loopw [3, 11] (fun l i wr => ∃ k : Nat, k ≤ n ∧ i = .int .i64 k ∧ l = .int .i64 (lastOf vs k) ∧ Hid (goodN vs k) ∧ Hid (Below w.heap.size w wr)) (fun _ i _ => n - (intOf i).toNat)
    case atStart => exact ⟨0, Nat.zero_le _, rfl, rfl, Lib.hid rfl, Lib.hid (Below.refl _ _)⟩
    case round =>
      obtain ⟨k, hk, rfl, rfl, HG, HB⟩ := hrel
      by_cases hlt : k < n
      · have hkl : k < vs.length := by rw [HN.out]; exact hlt
        obtain ⟨b, off, a, c', hA, hbl, c1, c2, hly⟩ := HV.out.at_ HB.out hkl
        have hbw : b < wr.heap.size := Nat.lt_of_lt_of_le hbl HB.out.size
        have hwz : w.heap.size ≤ wr.heap.size := HB.out.size
        subst hA
        have hml := HF.out.2 _ (List.getElem_mem hkl)
        have hst := goodN_step HG.out hkl
        have HL := Lib.hid (lastOf_succ hkl)
        have hly' : ∀ o, Lies (wr.alloc o) (wr.alloc o).heap.size a (vs[k].2.map Value.string) := fun o => (hly.more hwz).next ((Below.refl _ _).alloc (Nat.le_refl _) o)
        have HLY := Lib.hid hly'
        obtain ⟨i1, hi1⟩ : ∃ i1, vs[k].1 = i1 := ⟨_, rfl⟩
        obtain ⟨bs, hbs⟩ : ∃ bs, vs[k].2 = bs := ⟨_, rfl⟩
        unfold volOk at hst
        rw [hi1, hbs] at hst
        rw [hi1] at c1 HL
        rw [hbs] at c2 HLY hml
        have HST := Lib.hid hst
        clear hi1 hbs hkl hly hly' hst
        obtain ⟨last, hlast⟩ : ∃ last, lastOf vs k = last := ⟨_, rfl⟩
        rw [hlast] at HST ⊢
        clear hlast
        have HSz := Lib.hid (HB.out.alloc hwz (.cells #[.int .i64 i1, .slice a bs.length c'] 83))
        by_cases h1 : last < i1
        · have h1' : decide (i1 ≤ last) = false := by rw [decide_eq_false_iff_not]; omega
          cases hs : shapeB i1 bs.length with
          | false =>
            have HS := Lib.hid hs
            clear hs
            go_wp2_with (go_at_call 59; refine (isShape_any _ _ _).mono ?_; rw [HS.out]; rintro e w' ⟨rfl, rfl⟩)
            go_ret
            exact ⟨by rw [HR.out false (by rw [HST.out, HS.out]; simp)]; rfl, HSz.out⟩
          | true =>
            have HS := Lib.hid hs
            clear hs
            cases ha : bs.all shortB with
            | false =>
              have HAl := Lib.hid ha
              clear ha
              go_wp2_with (first
                | (go_at_call 59; refine (isShape_any _ _ _).mono ?_; rw [HS.out]; rintro e w' ⟨rfl, rfl⟩)
                | (go_at_call 60; refine (ContainsFunc_any (HLY.out _) hml).mono ?_; rw [HAl.out]; rintro e w' ⟨rfl, rfl⟩))
              go_ret
              exact ⟨by rw [HR.out false (by rw [HST.out, HAl.out]; simp)]; rfl, HSz.out⟩
            | true =>
              have HAl := Lib.hid ha
              have HG2 : Hid (goodN vs (k + 1)) := Lib.hid (by
                show _ = _
                rw [HST.out, HS.out, ha, decide_eq_true h1]; simp)
              clear ha
              go_wp2_with (first
                | (go_at_call 59; refine (isShape_any _ _ _).mono ?_; rw [HS.out]; rintro e w' ⟨rfl, rfl⟩)
                | (go_at_call 60; refine (ContainsFunc_any (HLY.out _) hml).mono ?_; rw [HAl.out]; rintro e w' ⟨rfl, rfl⟩))
              go_roundw
              case rel => exact ⟨k + 1, by omega, by go_num, by rw [HL.out], HG2, HSz⟩
              case measure => simp [intOf]; omega
        · have h1' : decide (i1 ≤ last) = true := by rw [decide_eq_true_iff]; omega
          have H1 : Hid (decide (last < i1) = false) := Lib.hid (by rw [decide_eq_false_iff_not]; exact h1)
          go_wp2_with fail
          go_ret
          exact ⟨by rw [HR.out false (by rw [HST.out, H1.out]; simp)]; rfl, HSz.out⟩
      · have HE := Lib.hid (goodN_end HG.out (by rw [HN.out]; omega))
        go_wp2_with fail
        go_ret
        exact ⟨by rw [HR.out true HE.out]; rfl, HB.out⟩
  · have h4' : decide (4 < (vs.length : Int)) = true := by rw [decide_eq_true_iff]; omega
    rw [show rightB vs = false from by simp [rightB]; omega]
    clear h hf
    go_enter Try.func44, Try.ntmps44
    go_wp2_with fail
    go_ret
    exact ⟨rfl, Below.refl _ _⟩

theorem rightB_good {vs : List Vl} (h : rightB vs = true) : goodFrom 0 vs = true := ((rightB_iff vs).1 h).2
theorem gt_not {vs : List Vl} {vol block : Int} (h : rightB vs = false) : gtE vs vol block = 1 ∧ gtS vs vol block = ByteArray.empty := by
  unfold gtE gtS; rw [h]; exact ⟨rfl, rfl⟩
theorem gt_ok {vs : List Vl} {vol block : Int} (h : rightB vs = true) : gtE vs vol block = locE vs vol block ∧ gtS vs vol block = (if locE vs vol block = 0 then (vs.getD (findAt vs vol) (0, [])).2.getD block.toNat ByteArray.empty else ByteArray.empty) := by
  unfold gtE gtS
  rw [if_pos h, if_pos h]
  exact ⟨gotE_loc (rightB_good h) _ _, gotS_loc (rightB_good h) _ _⟩
/-- A block that is found. -/
theorem locE_zero {vs : List Vl} {vol block : Int} (h : locE vs vol block = 0) : hasAt vs vol = true ∧ ∃ hf : findAt vs vol < vs.length, 0 ≤ block ∧ block < (vs[findAt vs vol]'hf).2.length := by
  cases hh : hasAt vs vol with
  | false => rw [(locE_none hh).1] at h; exact absurd h (by decide)
  | true =>
    have hlt := hasAt_lt hh
    rw [(locE_some hh (List.getElem?_eq_getElem hlt)).1] at h
    by_cases h2 : inB (vs[findAt vs vol]).2 block = true
    · exact ⟨rfl, hlt, (inB_iff _ _).1 h2⟩
    · rw [if_neg h2] at h; exact absurd h (by decide)

theorem str_empty : (⟨#[]⟩ : ByteArray) = ByteArray.empty := rfl

set_option maxHeartbeats 1600000 in
theorem Get_any {w : World} {A : Option Addr} {c : Nat} {vs : List Vl} (h : VolsAt w w.heap.size A vs) (hf : VolsFit vs) (vol block : Int) :
    Calls Try.prog 46 #[.slice A vs.length c, .int .i64 vol, .int .i64 block] w fun e w' => e = .returned (.tuple #[.string (gtS vs vol block), .int .i64 (gtE vs vol block)]) ∧ Below w.heap.size w w' := by
  have HV := Lib.hid h
  have HF := Lib.hid hf
  have hl := hf.1
  cases hr : rightB vs with
  | false =>
    rw [(gt_not hr).1, (gt_not hr).2]
    have HR := Lib.hid hr
    clear h hf hr
    go_enter Try.func46, Try.ntmps46
    go_wp2_with (go_at_call 44; refine (Right_any HV.out HF.out).mono ?_; rw [HR.out]; rintro e w1 ⟨rfl, hb⟩; replace hb := Lib.hid hb)
    go_ret2
    exact ⟨rfl, hb.out⟩
  | true =>
    rw [(gt_ok hr).1, (gt_ok hr).2]
    have HR := Lib.hid hr
    have HLC : Hid (∀ (c : Nat) (w1 : World), Below w.heap.size w w1 → Calls Try.prog 64 #[.slice A vs.length c, .int .i64 vol, .int .i64 block] w1 fun e w' => e = .returned (.tuple #[.int .i64 (locI vs vol block), .int .i64 (locE vs vol block)]) ∧ Below w1.heap.size w1 w') := Lib.hid (fun c w1 hb => locate_any (h.next hb) hl vol block)
    by_cases h0 : locE vs vol block = 0
    · obtain ⟨_, hlt, hb0, hb1⟩ := locE_zero h0
      rw [if_pos h0]
      have hI : locI vs vol block = findAt vs vol := by unfold locI; rw [if_pos h0]
      rw [h0, hI] at HLC
      have e9 : vs.getD (findAt vs vol) (0, []) = vs[findAt vs vol] := by rw [List.getD_eq_getElem?_getD, List.getElem?_eq_getElem hlt]; rfl
      rw [h0, e9]
      clear e9
      obtain ⟨j, rfl⟩ := Int.eq_ofNat_of_zero_le hb0
      rw [Int.toNat_natCast]
      have hj : j < vs[findAt vs vol].2.length := by omega
      rw [List.getD_eq_getElem?_getD, List.getElem?_eq_getElem hj, Option.getD_some]
      have HC : Hid (∀ w2, Below w.heap.size w w2 → ∃ b off a c b2 off2, A = some ⟨b, off, none⟩ ∧ w2.cell? ⟨b, off + findAt vs vol * 2 + 1, none⟩ = some (.slice a vs[findAt vs vol].2.length c) ∧ a = some ⟨b2, off2, none⟩ ∧ w2.cell? ⟨b2, off2 + j, none⟩ = some (.string (vs[findAt vs vol].2[j]))) := Lib.hid (fun w2 hb => by
        obtain ⟨b, off, a, c', hA, _, _, c2, hly⟩ := h.at_ hb hlt
        obtain ⟨b2, off2, hA2, _, c3⟩ := hly.text (Below.refl _ _) hj
        exact ⟨b, off, a, c', b2, off2, hA, c2, hA2, c3⟩)
      clear h hf hr h0 hI
      obtain ⟨s, hs⟩ : ∃ s, vs[findAt vs vol].2[j] = s := ⟨_, rfl⟩
      rw [hs] at HC ⊢
      clear hs
      obtain ⟨m, hm⟩ : ∃ m, vs[findAt vs vol].2.length = m := ⟨_, rfl⟩
      rw [hm] at HC hj hb1
      clear hm
      obtain ⟨k, hk⟩ : ∃ k, findAt vs vol = k := ⟨_, rfl⟩
      rw [hk] at HC HLC hlt
      clear hk
      have hRC : Hid (∀ (c : Nat), Calls Try.prog 44 #[.slice A vs.length c] w fun e w' => e = .returned (.bool true) ∧ Below w.heap.size w w') := Lib.hid (fun c => by have := Right_any (c := c) HV.out HF.out; rw [HR.out] at this; exact this)
      obtain ⟨n, hn⟩ : ∃ n, vs.length = n := ⟨_, rfl⟩
      rw [hn] at HLC hRC hlt hl ⊢
      clear hn
      go_enter Try.func46, Try.ntmps46
      go_wp2_with (first
        | (go_at_call 44; refine (hRC.out _).mono ?_; rintro e w1 ⟨rfl, hb⟩; replace hb := Lib.hid hb)
        | (go_at_call 64; refine (HLC.out _ _ hb.out).mono ?_; rintro e w2 ⟨rfl, hb2⟩; have HB2 := Lib.hid (below_next hb.out hb2); clear hb2; obtain ⟨b, off, a, c', b2, off2, hA, c2, ha, c3⟩ := HC.out w2 HB2.out; subst hA; subst ha))
      go_ret2
      exact ⟨rfl, HB2.out⟩
    · rw [if_neg h0]
      have h0' : (locE vs vol block != 0) = true := by rw [bne_iff_ne]; exact h0
      clear h hf hr h0
      obtain ⟨e8, he8⟩ : ∃ e8, locE vs vol block = e8 := ⟨_, rfl⟩
      rw [he8] at HLC h0' ⊢
      clear he8
      go_enter Try.func46, Try.ntmps46
      go_wp2_with (first
        | (go_at_call 44; refine (Right_any HV.out HF.out).mono ?_; rw [HR.out]; rintro e w1 ⟨rfl, hb⟩; replace hb := Lib.hid hb)
        | (go_at_call 64; refine (HLC.out _ _ hb.out).mono ?_; rintro e w2 ⟨rfl, hb2⟩; have HB2 := Lib.hid (below_next hb.out hb2); clear hb2))
      go_ret2
      exact ⟨rfl, HB2.out⟩
end Go.Proofs.Ythajgoigmkkbgaa

namespace Go.Proofs.Ythajgoigmkkbgaa
open Go.RowKit

/-! ### The cells of a row of volumes -/

def volCells : List Vl → List Value → List Value
  | v :: vs, u :: us => .int .i64 v.1 :: u :: volCells vs us
  | _, _ => []
theorem volCells_length {vs : List Vl} {us : List Value} (h : us.length = vs.length) : (volCells vs us).length = vs.length * 2 := by
  induction vs generalizing us with
  | nil => simp [volCells]
  | cons v vs ih =>
    cases us with
    | nil => simp at h
    | cons u us => have := ih (us := us) (by simpa using h); simp [volCells, this]; omega
theorem volCells_fst {vs : List Vl} {us : List Value} (h : us.length = vs.length) {k : Nat} (hk : k < vs.length) : (volCells vs us)[k * 2]? = some (.int .i64 vs[k].1) := by
  induction vs generalizing us k with
  | nil => simp at hk
  | cons v vs ih =>
    cases us with
    | nil => simp at h
    | cons u us =>
      cases k with
      | zero => rfl
      | succ k => rw [show (k + 1) * 2 = k * 2 + 1 + 1 from by omega]; simpa [volCells] using ih (us := us) (by simpa using h) (by simpa using hk)
theorem volCells_snd {vs : List Vl} {us : List Value} (h : us.length = vs.length) {k : Nat} (hk : k < vs.length) : (volCells vs us)[k * 2 + 1]? = us[k]? := by
  induction vs generalizing us k with
  | nil => simp at hk
  | cons v vs ih =>
    cases us with
    | nil => simp at h
    | cons u us =>
      cases k with
      | zero => rfl
      | succ k => rw [show (k + 1) * 2 + 1 = k * 2 + 1 + 1 + 1 from by omega]; simpa [volCells] using ih (us := us) (by simpa using h) (by simpa using hk)
theorem volCells_set {vs : List Vl} {us : List Value} (h : us.length = vs.length) (k : Nat) (x : Value) : (volCells vs us).set (k * 2 + 1) x = volCells vs (us.set k x) := by
  induction vs generalizing us k with
  | nil => simp [volCells]
  | cons v vs ih =>
    cases us with
    | nil => simp at h
    | cons u us =>
      cases k with
      | zero => rfl
      | succ k => rw [show (k + 1) * 2 + 1 = k * 2 + 1 + 1 + 1 from by omega]; simp [volCells, ih (us := us) (by simpa using h) k]
theorem volCells_id {vs : List Vl} {us : List Value} (h : us.length = vs.length) (k : Nat) (v : Vl) : (volCells vs us).set (k * 2) (.int .i64 v.1) = volCells (vs.set k v) us := by
  induction vs generalizing us k with
  | nil => simp [volCells]
  | cons u vs ih =>
    cases us with
    | nil => simp at h
    | cons x us =>
      cases k with
      | zero => rfl
      | succ k => rw [show (k + 1) * 2 = k * 2 + 1 + 1 from by omega]; simp [volCells, ih (us := us) (by simpa using h) k]
theorem volCells_append {vs vs' : List Vl} {us us' : List Value} (h : us.length = vs.length) : volCells (vs ++ vs') (us ++ us') = volCells vs us ++ volCells vs' us' := by
  induction vs generalizing us with
  | nil => cases us with
    | nil => rfl
    | cons u us => simp at h
  | cons v vs ih =>
    cases us with
    | nil => simp at h
    | cons u us => simp [volCells, ih (us := us) (by simpa using h)]
theorem volCells_take {vs : List Vl} {us : List Value} (h : us.length = vs.length) (k : Nat) : (volCells vs us).take (k * 2) = volCells (vs.take k) (us.take k) := by
  induction vs generalizing us k with
  | nil => simp [volCells]
  | cons v vs ih =>
    cases us with
    | nil => simp at h
    | cons u us =>
      cases k with
      | zero => simp [volCells]
      | succ k => rw [show (k + 1) * 2 = k * 2 + 1 + 1 from by omega]; simp [volCells, ih (us := us) (by simpa using h) k]
theorem volCells_drop {vs : List Vl} {us : List Value} (h : us.length = vs.length) (k : Nat) : (volCells vs us).drop (k * 2) = volCells (vs.drop k) (us.drop k) := by
  induction vs generalizing us k with
  | nil => cases us with
    | nil => simp [volCells]
    | cons u us => simp at h
  | cons v vs ih =>
    cases us with
    | nil => simp at h
    | cons u us =>
      cases k with
      | zero => simp [volCells]
      | succ k => rw [show (k + 1) * 2 = k * 2 + 1 + 1 from by omega]; simp [volCells, ih (us := us) (by simpa using h) k]

/-- u is a slice of the texts bs, below block B. -/
def IsTexts (w : World) (B : Nat) (u : Value) (bs : List ByteArray) : Prop := ∃ a c, u = .slice a bs.length c ∧ Lies w B a (bs.map Value.string)
theorem IsTexts.below {w w' : World} {B : Nat} {u : Value} {bs : List ByteArray} (h : IsTexts w B u bs) (hb : Below B w w') : IsTexts w' B u bs := by
  obtain ⟨a, c, h1, h2⟩ := h; exact ⟨a, c, h1, h2.below hb⟩
theorem IsTexts.more {w : World} {B B' : Nat} {u : Value} {bs : List ByteArray} (h : IsTexts w B u bs) (hB : B ≤ B') : IsTexts w B' u bs := by
  obtain ⟨a, c, h1, h2⟩ := h; exact ⟨a, c, h1, h2.more hB⟩
theorem IsTexts.one {w : World} {B : Nat} {u : Value} {bs : List ByteArray} (h : IsTexts w B u bs) : u.oneCell' = true := by
  obtain ⟨a, c, rfl, _⟩ := h; rfl

theorem volCells_one {vs : List Vl} {us : List Value} (h : ∀ u ∈ us, u.oneCell' = true) : ∀ u ∈ volCells vs us, u.oneCell' = true := by
  induction vs generalizing us with
  | nil => intro u hu; simp [volCells] at hu
  | cons v vs ih =>
    cases us with
    | nil => intro u hu; simp [volCells] at hu
    | cons x us =>
      intro u hu
      simp only [volCells, List.mem_cons] at hu
      rcases hu with rfl | rfl | hu
      · rfl
      · exact h _ List.mem_cons_self
      · exact ih (fun y hy => h y (List.mem_cons_of_mem _ hy)) u hu

/-- Volumes, taken apart: the row, and the slice of each one's blocks. -/
theorem VolsAt.rows {w : World} {B : Nat} {A : Option Addr} {vs : List Vl} (h : VolsAt w B A vs) :
    ∃ us : List Value, us.length = vs.length ∧ Lies w B A (volCells vs us) ∧ ∀ i (h1 : i < vs.length) (h2 : i < us.length), IsTexts w B us[i] vs[i].2 := by
  rcases h with rfl | ⟨b, off, hA, hlt, hc⟩
  · exact ⟨[], rfl, .inl rfl, fun i h1 => by simp at h1⟩
  · have : ∀ n, n ≤ vs.length → ∃ us : List Value, us.length = n ∧ ∀ i (h1 : i < vs.length) (h2 : i < us.length), w.cell? ⟨b, off + i * 2 + 1, none⟩ = some us[i] ∧ IsTexts w B us[i] vs[i].2 := by
      intro n
      induction n with
      | zero => intro _; exact ⟨[], rfl, fun i _ h2 => by simp at h2⟩
      | succ n ih =>
        intro hn
        obtain ⟨us, hl, hu⟩ := ih (by omega)
        obtain ⟨a, c, _, h2, h3⟩ := hc n (by omega)
        refine ⟨us ++ [.slice a vs[n].2.length c], by simp [hl], fun i h1 h2' => ?_⟩
        by_cases e : i < us.length
        · rw [List.getElem_append_left e]; exact hu i h1 e
        · have e2 : i = us.length := by simp at h2'; omega
          subst e2
          rw [List.getElem_append_right (Nat.le_refl _)]
          simp only [Nat.sub_self, List.getElem_singleton]
          subst hl
          exact ⟨h2, a, c, rfl, h3⟩
    obtain ⟨us, hl, hu⟩ := this vs.length (Nat.le_refl _)
    refine ⟨us, hl, .inr ⟨b, off, hA, hlt, fun i hi => ?_⟩, fun i h1 h2 => (hu i h1 h2).2⟩
    rw [volCells_length hl] at hi
    have hk : i / 2 < vs.length := by omega
    have e : (volCells vs us)[i]? = some (volCells vs us)[i] := List.getElem?_eq_getElem _
    rcases Nat.mod_two_eq_zero_or_one i with h0 | h0
    · have ei : i = i / 2 * 2 := by omega
      have h1 := volCells_fst hl hk
      rw [← ei, e] at h1
      obtain ⟨a, c, h2, _, _⟩ := hc (i / 2) hk
      rw [h1, show off + i = off + i / 2 * 2 from by omega]
      exact h2
    · have ei : i = i / 2 * 2 + 1 := by omega
      have h1 := volCells_snd hl hk
      rw [← ei, e, List.getElem?_eq_getElem (by omega)] at h1
      rw [h1, show off + i = off + i / 2 * 2 + 1 from by omega]
      exact (hu (i / 2) hk (by omega)).1

theorem VolsAt.of_rows {w : World} {B : Nat} {A : Option Addr} {vs : List Vl} {us : List Value} (hl : us.length = vs.length) (h : Lies w B A (volCells vs us)) (hu : ∀ i (h1 : i < vs.length) (h2 : i < us.length), IsTexts w B us[i] vs[i].2) : VolsAt w B A vs := by
  rcases h with h | ⟨b, off, hA, hlt, hc⟩
  · have := volCells_length hl
    rw [h] at this
    exact .inl (List.eq_nil_of_length_eq_zero (by simp at this; omega))
  · refine .inr ⟨b, off, hA, hlt, fun i hi => ?_⟩
    obtain ⟨a, c, h1, h2⟩ := hu i hi (by omega)
    have hlen := volCells_length hl
    refine ⟨a, c, ?_, ?_, h2⟩
    · rw [hc (i * 2) (by omega)]
      have := volCells_fst hl hi
      rw [List.getElem?_eq_getElem (by omega)] at this
      exact this
    · rw [Nat.add_assoc, hc (i * 2 + 1) (by omega)]
      have := volCells_snd hl hi
      rw [List.getElem?_eq_getElem (by omega), List.getElem?_eq_getElem (by omega)] at this
      rw [this, h1]

/-! ### slices.Clone -/

theorem Try.infoVol : (Try.prog.info? 83).map (fun i => (i.zero, i.size, i.bytes)) = some (some (.agg #[.int .i64 0, .slice none 0 0]), 2, 32) := by kernel_rfl
theorem Try.infoStrV : (Try.prog.info? 9).map (fun i => (i.zero, i.size, i.bytes)) = some (some (.string ByteArray.empty), 1, 16) := by kernel_rfl

/-- A row of the call's own comes back. -/
def OwnEnd (t : TypeId) (size n : Nat) (cs : List Value) (w : World) (e : Ending) (w' : World) : Prop :=
  ∃ v, e = .returned v ∧ w'.ownsRow w.heap.size t size v n cs ∧ Below w.heap.size w w'

set_option maxHeartbeats 800000 in
theorem CloneV_any {w : World} {A : Option Addr} {n c : Nat} {cs : List Value} (h : Lies w w.heap.size A cs) (hl : cs.length = n * 2) (hn : n ≤ 1000) (h1 : ∀ u ∈ cs, u.oneCell' = true) :
    Calls Try.prog 65 #[.slice A n c] w (OwnEnd 83 2 n cs w) := by
  obtain ⟨i0, hi0, hz0, hz1, hz2⟩ := info_parts Try.infoVol
  have hnil := run_eql_slice_nil (P := Try.prog) w 47 83 A n c Try.underlying47
  have HL := Lib.hid h
  have HLen := Lib.hid hl
  cases A with
  | none =>
    have h0 : cs = [] := by
      rcases h with h | ⟨b, off, hA, _⟩
      · exact h
      · cases hA
    have h00 : n = 0 := by rw [h0] at hl; simp at hl; omega
    have HE : Hid (OwnEnd 83 2 n cs w (.returned (.slice none 0 0)) w) := Lib.hid ⟨_, rfl, by rw [h0, h00]; exact World.ownsRow_nil _ _ _ _, Below.refl _ _⟩
    clear h hl h0 h00 hi0 hz0 hz1 hz2
    go_enter Try.func65, Try.ntmps65
    go_wp2
    go_ret
    exact HE.out
  | some x =>
    have HC : Hid (∀ j u, cs[j]? = some u → (w.alloc (.cells #[] 83)).cell? (x.add j) = some u) := Lib.hid (fun j u hj => by
      rcases h with h | ⟨b, off, hA, hb, hc⟩
      · rw [h] at hj; simp at hj
      · cases hA
        obtain ⟨hj1, hj2⟩ := List.getElem?_eq_some_iff.1 hj
        rw [WideShapes.add_plain, ((Below.refl w.heap.size w).alloc (Nat.le_refl _) _).cell (p := ⟨b, off + j, none⟩) hb, hc j hj1, hj2])
    clear h hl
    go_enter Try.func65, Try.ntmps65
    go_wp2_with (at_builtin; refine wpList_append_own _ rfl (.tmp 5) (.tmp 6) 47 rfl w.heap.size 83 i0 (.agg #[.int .i64 0, .slice none 0 0]) 2 32 Try.underlying47 hi0 hz0 hz1 hz2 rfl (by decide) (.slice (some ⟨w.heap.size, 0, none⟩) 0 0) 0 [] rfl (World.ownsRow_made w #[] 0 (Nat.le_refl _) (Nat.zero_le _) rfl) x n c cs rfl HLen.out HC.out h1 ?c4 ?c5 ?c6 ?_)
    case c4 => unfold maxLen; omega
    case c5 => omega
    case c6 => simp
    intro v' w2 hown hg _
    have HE : Hid (OwnEnd 83 2 n cs w (.returned v') w2) := by
      refine Lib.hid ⟨_, rfl, by simpa using hown, ?_⟩
      refine ((Below.refl w.heap.size w).alloc (Nat.le_refl _) _).grown hg (by simp) (fun k hk => ?_)
      simp only [Value.ownBlock, Option.some.injEq] at hk
      omega
    clear hown hg
    go_wp2
    go_ret
    exact HE.out

set_option maxHeartbeats 800000 in
theorem CloneS_any {w : World} {A : Option Addr} {n c : Nat} {cs : List Value} (h : Lies w w.heap.size A cs) (hl : cs.length = n * 1) (hn : n ≤ 1000) (h1 : ∀ u ∈ cs, u.oneCell' = true) :
    Calls Try.prog 66 #[.slice A n c] w (OwnEnd 9 1 n cs w) := by
  obtain ⟨i0, hi0, hz0, hz1, hz2⟩ := info_parts Try.infoStrV
  have hnil := run_eql_slice_nil (P := Try.prog) w 81 9 A n c Try.underlying81
  have HL := Lib.hid h
  have HLen := Lib.hid hl
  cases A with
  | none =>
    have h0 : cs = [] := by
      rcases h with h | ⟨b, off, hA, _⟩
      · exact h
      · cases hA
    have h00 : n = 0 := by rw [h0] at hl; simp at hl; omega
    have HE : Hid (OwnEnd 9 1 n cs w (.returned (.slice none 0 0)) w) := Lib.hid ⟨_, rfl, by rw [h0, h00]; exact World.ownsRow_nil _ _ _ _, Below.refl _ _⟩
    clear h hl h0 h00 hi0 hz0 hz1 hz2
    go_enter Try.func66, Try.ntmps66
    go_wp2
    go_ret
    exact HE.out
  | some x =>
    have HC : Hid (∀ j u, cs[j]? = some u → (w.alloc (.cells #[] 9)).cell? (x.add j) = some u) := Lib.hid (fun j u hj => by
      rcases h with h | ⟨b, off, hA, hb, hc⟩
      · rw [h] at hj; simp at hj
      · cases hA
        obtain ⟨hj1, hj2⟩ := List.getElem?_eq_some_iff.1 hj
        rw [WideShapes.add_plain, ((Below.refl w.heap.size w).alloc (Nat.le_refl _) _).cell (p := ⟨b, off + j, none⟩) hb, hc j hj1, hj2])
    clear h hl
    go_enter Try.func66, Try.ntmps66
    go_wp2_with (at_builtin; refine wpList_append_own _ rfl (.tmp 5) (.tmp 6) 81 rfl w.heap.size 9 i0 (.string ByteArray.empty) 1 16 Try.underlying81 hi0 hz0 hz1 hz2 rfl (by decide) (.slice (some ⟨w.heap.size, 0, none⟩) 0 0) 0 [] rfl (World.ownsRow_made w #[] 0 (Nat.le_refl _) (Nat.zero_le _) rfl) x n c cs rfl HLen.out HC.out h1 ?c4 ?c5 ?c6 ?_)
    case c4 => unfold maxLen; omega
    case c5 => omega
    case c6 => simp
    intro v' w2 hown hg _
    have HE : Hid (OwnEnd 9 1 n cs w (.returned v') w2) := by
      refine Lib.hid ⟨_, rfl, by simpa using hown, ?_⟩
      refine ((Below.refl w.heap.size w).alloc (Nat.le_refl _) _).grown hg (by simp) (fun k hk => ?_)
      simp only [Value.ownBlock, Option.some.injEq] at hk
      omega
    clear hown hg
    go_wp2
    go_ret
    exact HE.out
end Go.Proofs.Ythajgoigmkkbgaa

namespace Go.Proofs.Ythajgoigmkkbgaa
open Go.RowKit

/-- The volumes vs lie in rows of the call's own, from block base on: the row of the volumes is v, the rows of their blocks are us. -/
structure OwnV (w : World) (base : Nat) (v : Value) (vs : List Vl) (us : List Value) : Prop where
  len : us.length = vs.length
  row : w.ownsRow base 83 2 v vs.length (volCells vs us)
  each : ∀ i (h1 : i < vs.length) (h2 : i < us.length), w.ownsRow base 9 1 us[i] vs[i].2.length (vs[i].2.map Value.string)
  gap : ∀ i (h2 : i < us.length) k, us[i].ownBlock = some k → v.ownBlock ≠ some k
  apart : ∀ i j (hi : i < us.length) (hj : j < us.length) k, i ≠ j → us[i].ownBlock = some k → us[j].ownBlock ≠ some k

theorem own_texts {w : World} {base : Nat} {u : Value} {bs : List ByteArray} (h : w.ownsRow base 9 1 u bs.length (bs.map Value.string)) : IsTexts w w.heap.size u bs := by
  obtain ⟨A, c, rfl, _, hl⟩ := own_lies h
  exact ⟨A, c, rfl, hl⟩
theorem own_base {w : World} {base base' : Nat} {t : TypeId} {size : Nat} {v : Value} {n : Nat} {xs : List Value} (h : w.ownsRow base t size v n xs) (hb : base' ≤ base) : w.ownsRow base' t size v n xs := by
  refine ⟨h.1, h.2.imp id ?_⟩
  rintro ⟨g, cap, cur, h1, h2, h3⟩
  exact ⟨g, cap, cur, h1, by omega, h3⟩
theorem OwnV.vols {w : World} {base : Nat} {v : Value} {vs : List Vl} {us : List Value} (h : OwnV w base v vs us) : ∃ A c, v = .slice A vs.length c ∧ VolsAt w w.heap.size A vs := by
  obtain ⟨A, c, rfl, _, hl⟩ := own_lies h.row
  exact ⟨A, c, rfl, VolsAt.of_rows h.len hl (fun i h1 h2 => own_texts (h.each i h1 h2))⟩

/-- What the loop of clone keeps. -/
structure CloneSt (w wr : World) (v : Value) (vs : List Vl) (us : List Value) (k : Nat) : Prop where
  len : us.length = vs.length
  row : wr.ownsRow w.heap.size 83 2 v vs.length (volCells vs us)
  done : ∀ i (h1 : i < vs.length) (h2 : i < us.length), i < k → wr.ownsRow w.heap.size 9 1 us[i] vs[i].2.length (vs[i].2.map Value.string)
  todo : ∀ i (h1 : i < vs.length) (h2 : i < us.length), k ≤ i → IsTexts wr w.heap.size us[i] vs[i].2
  gap : ∀ i (h2 : i < us.length) b, i < k → us[i].ownBlock = some b → v.ownBlock ≠ some b
  apart : ∀ i j (hi : i < us.length) (hj : j < us.length) b, i < k → j < k → i ≠ j → us[i].ownBlock = some b → us[j].ownBlock ≠ some b
  bel : Below w.heap.size w wr

theorem CloneSt.own {w wr : World} {v : Value} {vs : List Vl} {us : List Value} {k : Nat} (h : CloneSt w wr v vs us k) (hk : k = vs.length) : OwnV wr w.heap.size v vs us :=
  ⟨h.len, h.row, fun i h1 h2 => h.done i h1 h2 (by omega), fun i h2 b => h.gap i h2 b (by have := h.len; omega), fun i j hi hj b => h.apart i j hi hj b (by have := h.len; omega) (by have := h.len; omega)⟩

/-- One volume's blocks are copied, and the copy laid down. -/
theorem CloneSt.step {w wr w2 : World} {g cap : Nat} {vs : List Vl} {us : List Value} {k : Nat} {u : Value} (h : CloneSt w wr (.slice (some ⟨g, 0, none⟩) vs.length cap) vs us k) (hk : k < vs.length)
    (ho : w2.ownsRow wr.heap.size 9 1 u vs[k].2.length (vs[k].2.map Value.string)) (hb : Below wr.heap.size wr w2) :
    CloneSt w (w2.setCell ⟨g, k * 2 + 1, none⟩ u) (.slice (some ⟨g, 0, none⟩) vs.length cap) vs (us.set k u) (k + 1) := by
  have hg := h.row.lt g rfl
  have hz := h.bel.size
  have hro : w2.ownsRow w.heap.size 83 2 (.slice (some ⟨g, 0, none⟩) vs.length cap) vs.length (volCells vs us) := own_kept h.row hb
  have hub : ∀ b, u.ownBlock = some b → wr.heap.size ≤ b := fun b hb' => (ho.lt b hb').1
  have hst := hro.stored (k * 2 + 1) u
  rw [volCells_set h.len] at hst
  have hgr := hst.2
  have hbel : Below w.heap.size w (w2.setCell ⟨g, k * 2 + 1, none⟩ u) := (h.bel.trans (hb.mono hz)).setCell (by exact hg.1) _
  have hbel2 : Below w.heap.size wr (w2.setCell ⟨g, k * 2 + 1, none⟩ u) := (hb.mono hz).setCell (by exact hg.1) _
  have hold : ∀ i (h2 : i < us.length) b, i < k → us[i].ownBlock = some b → b < wr.heap.size := fun i h2 b hi hb' => ((h.done i (by have := h.len; omega) h2 hi).lt b hb').2
  refine ⟨by simp [h.len], hst.1, fun i h1 h2 hi => ?_, fun i h1 h2 hi => ?_, fun i h2 b hi => ?_, fun i j hi hj b hik hjk hij => ?_, hbel⟩
  · by_cases e : k = i
    · subst e
      rw [List.getElem_set_self]
      exact (own_base ho hz).kept hgr (Or.inr (fun e => by have := hub g e; omega))
    · rw [List.getElem_set_ne e]
      have h2' : i < us.length := by simpa using h2
      have h3 := own_kept (h.done i h1 h2' (by omega)) hb
      refine h3.kept hgr (Or.inr (fun e => ?_))
      exact h.gap i h2' g (by omega) e rfl
  · have h2' : i < us.length := by simpa using h2
    rw [List.getElem_set_ne (by omega)]
    exact (h.todo i h1 h2' (by omega)).below hbel2
  · by_cases e : k = i
    · subst e
      rw [List.getElem_set_self]
      intro h3 h4
      simp only [Value.ownBlock, Option.some.injEq] at h4
      have := hub b h3; omega
    · rw [List.getElem_set_ne e]
      exact h.gap i (by simpa using h2) b (by omega)
  · have hi' : i < us.length := by simpa using hi
    have hj' : j < us.length := by simpa using hj
    by_cases e : k = i
    · subst e
      rw [List.getElem_set_self, List.getElem_set_ne hij]
      intro h3 h4
      have := hub b h3
      have := hold j hj' b (by omega) h4
      omega
    · rw [List.getElem_set_ne e]
      by_cases e2 : k = j
      · subst e2
        rw [List.getElem_set_self]
        intro h3 h4
        have := hub b h4
        have := hold i hi' b (by omega) h3
        omega
      · rw [List.getElem_set_ne e2]
        exact h.apart i j hi' hj' b (by omega) (by omega) hij

def CloneEnd (vs : List Vl) (w : World) (e : Ending) (w' : World) : Prop := ∃ v us, e = .returned v ∧ OwnV w' w.heap.size v vs us ∧ Below w.heap.size w w'

set_option maxHeartbeats 1600000 in
theorem clone_any {w : World} {A : Option Addr} {c : Nat} {vs : List Vl} (h : VolsAt w w.heap.size A vs) (hn : vs.length ≤ 1000) (hbs : ∀ v ∈ vs, v.2.length ≤ 1000) :
    Calls Try.prog 48 #[.slice A vs.length c] w (CloneEnd vs w) := by
  obtain ⟨us, hul, hrow, htx⟩ := h.rows
  have HB := Lib.hid hbs
  have hone : ∀ u ∈ us, u.oneCell' = true := fun u hu => by
    obtain ⟨i, hi, rfl⟩ := List.getElem_of_mem hu
    exact (htx i (by omega) hi).one
  have HC : Hid (∀ c, Calls Try.prog 65 #[.slice A vs.length c] w (OwnEnd 83 2 vs.length (volCells vs us) w)) := Lib.hid (fun c => CloneV_any hrow (volCells_length hul) hn (volCells_one hone))
  have H0 : Hid (∀ v w1, w1.ownsRow w.heap.size 83 2 v vs.length (volCells vs us) → Below w.heap.size w w1 → CloneSt w w1 v vs us 0) := Lib.hid (fun v w1 ho hb =>
    ⟨hul, ho, fun i _ _ h => by omega, fun i h1 h2 _ => (htx i h1 h2).below hb, fun i _ _ h => by omega, fun i j _ _ _ h => by omega, hb⟩)
  clear h hrow htx hone hbs
  go_enter Try.func48, Try.ntmps48
  go_wp2_with (go_at_call 65; refine (HC.out _).mono ?_; rintro e w1 ⟨v, rfl, ho, hb⟩; have HS := Lib.hid (H0.out v w1 ho hb); obtain ⟨A1, c1, hv, hxx⟩ := own_lies ho; clear ho hb hxx; subst hv)
  clear HC H0
  obtain ⟨n, hn'⟩ : ∃ n, vs.length = n := ⟨_, rfl⟩
  have HN := Lib.hid hn'
  rw [hn'] at hn HS ⊢
  clear hn' hul
  go_loopw [9] (fun i wr => ∃ k : Nat, k ≤ n ∧ i = .int .i64 k ∧ ∃ us, Hid (CloneSt w wr (.slice A1 n c1) vs us k)) (fun i _ => n - (intOf i).toNat)
  case atStart => exact ⟨0, Nat.zero_le _, rfl, us, HS⟩
  case round =>
    clear HS us
    obtain ⟨k, hk, rfl, us, HS⟩ := hrel
    by_cases hlt : k < n
    · have hkl : k < vs.length := by rw [HN.out]; exact hlt
      have hS := HS.out
      rw [← HN.out] at hS
      obtain ⟨g, cap, hv, hg1, hg2⟩ := hS.row.form (by omega)
      simp only [Value.slice.injEq] at hv
      obtain ⟨rfl, _, rfl⟩ := hv
      have hku : k < us.length := by rw [hS.len]; exact hkl
      obtain ⟨a, ca, hua, hla⟩ := hS.todo k hkl hku (Nat.le_refl _)
      have hcell : ∀ w2, Below wr.heap.size wr w2 → w2.cell? ⟨g, k * 2 + 1, none⟩ = some (.slice a vs[k].2.length ca) ∧ w2.frozen? ⟨g, k * 2 + 1, none⟩ = false := fun w2 hb => by
        have h2 := own_kept hS.row hb
        rw [h2.cellAt _ (by omega), h2.frozenAt, volCells_snd hS.len hkl, List.getElem?_eq_getElem hku, hua]
        exact ⟨rfl, rfl⟩
      have HCell := Lib.hid hcell
      obtain ⟨hc1, _⟩ := hcell wr (Below.refl _ _)
      have hlw : Lies wr wr.heap.size a (vs[k].2.map Value.string) := hla.more hS.bel.size
      have hm := HB.out _ (List.getElem_mem hkl)
      have HST : Hid (∀ u w2, w2.ownsRow wr.heap.size 9 1 u vs[k].2.length (vs[k].2.map Value.string) → Below wr.heap.size wr w2 → CloneSt w (w2.setCell ⟨g, k * 2 + 1, none⟩ u) (.slice (some ⟨g, 0, none⟩) n c1) vs (us.set k u) (k + 1)) := Lib.hid (fun u w2 h1 h2 => by
        have := hS.step hkl h1 h2
        rw [HN.out] at this
        exact this)
      have HCl : Hid (∀ c, Calls Try.prog 66 #[.slice a vs[k].2.length c] wr (OwnEnd 9 1 vs[k].2.length (vs[k].2.map Value.string) wr)) := Lib.hid (fun c => CloneS_any hlw (by simp) hm (by intro u hu; obtain ⟨s, _, rfl⟩ := List.mem_map.1 hu; rfl))
      obtain ⟨bs, hbs⟩ : ∃ bs, vs[k].2 = bs := ⟨_, rfl⟩
      rw [hbs] at HCell hc1 HST HCl
      clear hbs hS hua hla hcell hlw hm hku hkl hg1 HS
      obtain ⟨m, hm⟩ : ∃ m, bs.length = m := ⟨_, rfl⟩
      rw [hm] at HCell hc1 HST HCl
      clear hm
      go_wp2_with (go_at_call 66; refine (HCl.out _).mono ?_; rintro e w2 ⟨u, rfl, ho, hb⟩; have HS2 := Lib.hid (HST.out u w2 ho hb); obtain ⟨hc2, hf2⟩ := HCell.out w2 hb; obtain ⟨A2, c2, hu, hxx⟩ := own_lies ho; clear ho hb hxx; subst hu)
      go_roundw
      case rel => exact ⟨k + 1, by omega, by go_num, _, HS2⟩
      case measure => simp [intOf]; omega
    · have HE : Hid (CloneEnd vs w (.returned (.slice A1 n c1)) wr) := Lib.hid ⟨_, us, rfl, HS.out.own (by rw [HN.out]; omega), HS.out.bel⟩
      go_wp2
      go_ret
      exact HE.out
end Go.Proofs.Ythajgoigmkkbgaa

namespace Go.Proofs.Ythajgoigmkkbgaa
open Go.RowKit

section
variable {P : Program}
/-- copy, of elements of k cells. -/
theorem run_copy_k (w : World) (k : Nat) (dT sT ty elem : TypeId) (b o dLen dCap : Nat) (a : Addr) (sLen sCap : Nat) (cs : List Value)
    (hu : P.underlying dT = some (.slice elem)) (hs : (P.info? elem).map (·.size) = some k) (hn : cs.length = Nat.min sLen dLen * k)
    (hsrc : ∀ j v, cs[j]? = some v → w.cell? (a.add j) = some v) (hc : ∀ j, j < cs.length → (w.cell? ⟨b, o + j, none⟩).isSome = true) (hf : ∀ j, j < cs.length → w.frozen? ⟨b, o + j, none⟩ = false) (h1 : ∀ v ∈ cs, v.oneCell' = true) :
    (Builtin.copy_ #[dT, sT] ty #[.slice (some ⟨b, o, none⟩) dLen dCap, .slice (some a) sLen sCap]).run P w = .ok (goInt (Nat.min sLen dLen)) (w.setCells b o cs) := by
  have hl := run_loadCells_list (P := P) w a cs hsrc
  have hst := run_storeCells_cells (P := P) b o cs 0 w (by simpa using hc) (by simpa using hf) h1
  cases hq : P.info? elem with
  | none => simp [hq] at hs
  | some i =>
    have hi : i.size = k := by simpa [hq] using hs
    rw [hn] at hl
    simp [Builtin.copy_, run_underlying hu, Builtin.lenOf, Builtin.firstCells, sizeOf, typeInfo, hq, hi, hl, hst]

theorem wpList_copy_run (w : World) {ops : Array Oper} {rest : List Oper} {o : Oper} {a : Act} {Q : Exit → Act → World → Prop} (hgd : o.guard = none) (d s : Operand) (t t' : TypeId)
    (ho : o.op = .call { callee := .builtin .copy, args := #[d, s], argTypes := #[t, t'] }) (v u : Value) (hd : a.eval d = v) (hs : a.eval s = u) {v' : Value} {w' : World}
    (hr : (Builtin.copy_ #[t, t'] o.type #[v, u]).run P w = .ok v' w') (h : wpList P ops Q rest (a.put o.dst v') w') : wpList P ops Q (o :: rest) a w := by
  refine wpList_plain hgd fun _ hK => ?_
  unfold Oper.wp execOp
  simp only [ho, resolve, invoke, builtin, Sem.run_bind, Sem.run_pure, Result.andThen_ok, List.map_toArray, List.map_cons, List.map_nil, hd, hs, hr]
  exact hK _ _ h

theorem step_copy_run {ops : Array Oper} {o : Oper} {a : Act} {w : World} {K : Act → World → Prop} {Q : Exit → Act → World → Prop} {E : Prop}
    (hg : o.guard = none) (d x : Operand) (dT sT : TypeId) (hop : o.op = Op.call { callee := Callee.builtin Builtin.copy, args := #[d, x], argTypes := #[dT, sT] })
    (v u : Value) (hd : a.eval d = v) (hx : a.eval x = u) {v' : Value} {w' : World} (hr : (Builtin.copy_ #[dT, sT] o.type #[v, u]).run P w = .ok v' w') (hK : K (a.put o.dst v') w') :
    if Region.wanted o (yielded ops a.tmps) = true then Oper.wp P o a w K Q else E := by
  have hw : Region.wanted o (yielded ops a.tmps) = true := by simp [Region.wanted, hg]
  rw [if_pos hw]
  unfold Oper.wp
  simp [execOp, hop, resolve, invoke, builtin, hd, hx, hr, Result.andThen]
  exact hK
end

theorem blankB_length (n : Nat) : (blankB n).length = n := by simp [blankB]
theorem madeB (n : Nat) : (madeCells #[Value.string ByteArray.empty] n).toList = (blankB n).map Value.string := by
  rw [toList_madeCells_one]; simp [blankB]

/-- A new volume of n empty blocks. -/
def BlankEnd (id : Int) (n : Nat) (w : World) (e : Ending) (w' : World) : Prop :=
  ∃ g, e = .returned (.agg #[.int .i64 id, .slice (some ⟨g, 0, none⟩) n n]) ∧ w'.ownsRow w.heap.size 9 1 (.slice (some ⟨g, 0, none⟩) n n) n ((blankB n).map Value.string) ∧ Below w.heap.size w w' ∧ g < w'.heap.size

set_option maxHeartbeats 800000 in
theorem blank_any (id : Int) (n : Nat) (w : World) (hn : n ≤ 1000) :
    Calls Try.prog 63 #[.int .i64 id, .int .i64 n] w (BlankEnd id n w) := by
  obtain ⟨i0, hi0, hz0, hz1, hz2⟩ := info_parts Try.infoStrV
  have hmk : ∀ W : World, (Instr.makeSlice 81 (.int .i64 (n : Int)) (.int .i64 (n : Int))).run Try.prog W = .ok (.slice (some ⟨W.heap.size, 0, none⟩) n n) (W.alloc (.cells (madeCells #[Value.string ByteArray.empty] n) 9)) :=
    run_make_row 81 9 i0 (.string ByteArray.empty) Try.underlying81 hi0 hz0 hz1 rfl .i64 .i64 n (by rw [hz2]; omega) (by omega)
  have HMB : Hid ((madeCells #[Value.string ByteArray.empty] n).toList = (blankB n).map Value.string) := Lib.hid (madeB n)
  have HMS : Hid ((madeCells #[Value.string ByteArray.empty] n).size = n * 1) := Lib.hid (by rw [← Array.length_toList, madeB, List.length_map, blankB_length, Nat.mul_one])
  generalize madeCells #[Value.string ByteArray.empty] n = M at *
  go_enter Try.func63, Try.ntmps63
  go_wp2_with fail
  refine bodyPost_ret (v := .agg #[.int .i64 id, .slice (some ⟨w.heap.size + 1, 0, none⟩) n n]) (by simp [results, Try.results63, go_sem]) rfl ⟨w.heap.size + 1, rfl, ?_, ?_, by simp⟩
  · have := World.ownsRow_lit (base := w.heap.size) (e := 9) (size := 1) (w.alloc (.cells #[.int .i64 id, .slice (some ⟨w.heap.size + 1, 0, none⟩) n n] 83)) M n (by simp) (by unfold maxLen; omega) HMS.out
    rw [HMB.out] at this
    simpa using this
  · exact ((Below.refl _ _).alloc (Nat.le_refl _) _).alloc (by simp) _

/-! ### slices.Insert of one volume -/

/-- A row with x0, x1 laid in ahead of place i. -/
def InsEnd (xs : List Value) (i : Nat) (news : List Value) (n : Nat) (v : Value) (w : World) (e : Ending) (w' : World) : Prop :=
  ∃ A cap, e = .returned (.slice A (n + 1) cap) ∧ Lies w' w'.heap.size A (xs.take (i * 2) ++ news ++ xs.drop (i * 2)) ∧ w.grownBy w' v.ownBlock

set_option maxHeartbeats 1600000 in
set_option maxRecDepth 100000 in
theorem Insert_end {w : World} {v : Value} {n vb : Nat} {xs news : List Value} (hown : w.ownsRow 0 83 2 v n xs) (hn : n ≤ 1000)
    (hvl : news.length = 1 * 2) (hvs : ∀ j u, news[j]? = some u → w.cell? ((⟨vb, 0, none⟩ : Addr).add j) = some u) (h1v : ∀ u ∈ news, u.oneCell' = true) :
    Calls Try.prog 62 #[v, .int .i64 n, .slice (some ⟨vb, 0, none⟩) 1 1] w (InsEnd xs n news n v w) := by
  obtain ⟨i0, hi0, hz0, hz1, hz2⟩ := info_parts Try.infoVol
  have HE : Hid (∀ v' w', w'.ownsRow 0 83 2 v' (n + 1) (xs ++ news) → w.grownBy w' v.ownBlock → InsEnd xs n news n v w (.returned v') w') := Lib.hid (fun v' w' h1 h2 => by
    obtain ⟨A, c, rfl, _, hl⟩ := own_lies h1
    refine ⟨A, c, rfl, ?_, h2⟩
    rw [List.take_of_length_le (by rw [hown.1]; exact Nat.le_refl _), List.drop_of_length_le (by rw [hown.1]; exact Nat.le_refl _), List.append_nil]
    exact hl)
  have HV := Lib.hid hvs
  have HL := Lib.hid hvl
  have HO := Lib.hid hown
  clear hvs hvl
  rcases hown.2 with ⟨rfl, rfl⟩ | ⟨g, cap, cur, rfl, _, hg, hnc, hcm, _, _⟩
  · clear hown
    go_enter Try.func62, Try.ntmps62
    go_wp2_with (at_builtin; refine wpList_append_own _ rfl (.tmp 23) (.tmp 24) 47 rfl 0 83 i0 (.agg #[.int .i64 0, .slice none 0 0]) 2 32 Try.underlying47 hi0 hz0 hz1 hz2 rfl (by decide) (.slice none 0 0) 0 xs rfl HO.out ⟨vb, 0, none⟩ 1 1 news rfl HL.out HV.out h1v ?c4 ?c5 ?c6 ?_)
    case c4 => unfold maxLen; omega
    case c5 => omega
    case c6 => omega
    intro v' w2 ho2 hg2 _
    have HF := Lib.hid (HE.out v' w2 ho2 hg2)
    clear ho2 hg2 HE
    go_wp2_with fail
    go_ret
    exact HF.out
  · clear hown hg
    unfold maxLen at hcm
    by_cases hcn : cap = n
    · subst hcn
      go_enter Try.func62, Try.ntmps62
      go_wp2_with (at_builtin; refine wpList_append_own _ rfl (.tmp 23) (.tmp 24) 47 rfl 0 83 i0 (.agg #[.int .i64 0, .slice none 0 0]) 2 32 Try.underlying47 hi0 hz0 hz1 hz2 rfl (by decide) (.slice (some ⟨g, 0, none⟩) cap cap) cap xs rfl HO.out ⟨vb, 0, none⟩ 1 1 news rfl HL.out HV.out h1v ?c4 ?c5 ?c6 ?_)
      case c4 => unfold maxLen; omega
      case c5 => omega
      case c6 => omega
      intro v' w2 ho2 hg2 _
      have HF := Lib.hid (HE.out v' w2 ho2 hg2)
      clear ho2 hg2 HE
      go_wp2_with fail
      go_ret
      exact HF.out
    · go_enter Try.func62, Try.ntmps62
      go_wp2_with (at_builtin; refine wpList_append_own _ rfl (.tmp 23) (.tmp 24) 47 rfl 0 83 i0 (.agg #[.int .i64 0, .slice none 0 0]) 2 32 Try.underlying47 hi0 hz0 hz1 hz2 rfl (by decide) (.slice (some ⟨g, 0, none⟩) n cap) n xs rfl HO.out ⟨vb, 0, none⟩ 1 1 news rfl HL.out HV.out h1v ?c4 ?c5 ?c6 ?_)
      case c4 => unfold maxLen; omega
      case c5 => omega
      case c6 => omega
      intro v' w2 ho2 hg2 _
      have HF := Lib.hid (HE.out v' w2 ho2 hg2)
      clear ho2 hg2 HE
      go_wp2_with fail
      go_ret
      exact HF.out
end Go.Proofs.Ythajgoigmkkbgaa

namespace Go.Proofs.Ythajgoigmkkbgaa
open Go.RowKit

theorem size_setCells (g : Nat) : ∀ (vs : List Value) (o : Nat) (w : World), (w.setCells g o vs).heap.size = w.heap.size
  | [], _, _ => rfl
  | v :: r, o, w => by
    rw [World.setCells, size_setCells g r]
    simp [World.setCell]
theorem block_setCells {g k : Nat} (h : k ≠ g) : ∀ (vs : List Value) (o : Nat) (w : World), (w.setCells g o vs).heap[k]? = w.heap[k]?
  | [], _, _ => rfl
  | v :: r, o, w => by
    rw [World.setCells, block_setCells h r, Below.heap_setCell _ _ _ _ h]
theorem os_setCells (g : Nat) : ∀ (vs : List Value) (o : Nat) (w : World), (w.setCells g o vs).os = w.os ∧ (w.setCells g o vs).tape = w.tape ∧ (w.setCells g o vs).output = w.output
  | [], _, _ => ⟨rfl, rfl, rfl⟩
  | v :: r, o, w => by rw [World.setCells]; exact os_setCells g r _ _
theorem grown_setCells {w w' : World} {g : Nat} (h : w.grownBy w' (some g)) (o : Nat) (vs : List Value) : w.grownBy (w'.setCells g o vs) (some g) :=
  ⟨(os_setCells g vs o w').1.trans h.os, (os_setCells g vs o w').2.1.trans h.tape, (os_setCells g vs o w').2.2.trans h.output, by rw [size_setCells]; exact h.size,
   fun k hk hne => (block_setCells (fun e => hne (by rw [e])) vs o w').trans (h.block k hk hne)⟩
theorem grown_drew {w w' : World} {row : Option Nat} (h : w.grownBy w' row) : w.grownBy w'.drew row := ⟨h.os, h.tape, h.output, h.size, h.block⟩
theorem grown_refl (w : World) (row : Option Nat) : w.grownBy w row := ⟨rfl, rfl, rfl, Nat.le_refl _, fun _ _ _ => rfl⟩

/-- A row of which the tail is moved up, and news laid in. -/
theorem row_shift {w : World} {g i : Nat} {xs news : List Value} (hx : ∀ j u, xs[j]? = some u → w.cell? ⟨g, j, none⟩ = some u) (hs : ∀ j, j < xs.length + news.length → (w.cell? ⟨g, j, none⟩).isSome = true) (hi : i ≤ xs.length) :
    ∀ j u, (xs.take i ++ news ++ xs.drop i)[j]? = some u → ((w.setCells g (i + news.length) (xs.drop i)).setCells g i news).cell? ⟨g, j, none⟩ = some u := by
  intro j u hu
  have h1 : ∀ t, t < (xs.drop i).length → (w.cell? ⟨g, i + news.length + t, none⟩).isSome = true := fun t ht => hs _ (by rw [List.length_drop] at ht; omega)
  have hlen : (xs.take i).length = i := by rw [List.length_take]; omega
  by_cases c1 : j < i
  · rw [World.cell?_setCells_out g news i _ ⟨g, j, none⟩ (fun _ _ => Or.inl c1), World.cell?_setCells_out g _ _ _ ⟨g, j, none⟩ (fun _ _ => Or.inl (by show j < i + news.length; omega))]
    rw [List.append_assoc, List.getElem?_append_left (by omega), List.getElem?_take, if_pos c1] at hu
    exact hx j u hu
  · by_cases c2 : j < i + news.length
    · have := World.cell?_setCells_in g news i (w.setCells g (i + news.length) (xs.drop i)) (fun t ht => by
        rw [World.cell?_setCells_out g _ _ _ ⟨g, i + t, none⟩ (fun _ _ => Or.inl (by show i + t < i + news.length; omega))]
        exact hs _ (by omega)) (j - i) (by omega)
      rw [show i + (j - i) = j from by omega] at this
      rw [this]
      rw [List.append_assoc, List.getElem?_append_right (by omega), hlen, List.getElem?_append_left (by omega)] at hu
      rw [← hu, List.getElem?_eq_getElem]
    · rw [World.cell?_setCells_out g news i _ ⟨g, j, none⟩ (fun _ _ => Or.inr (by show i + news.length ≤ j; omega))]
      rw [List.getElem?_append_right (by rw [List.length_append, hlen]; omega), List.length_append, hlen] at hu
      have hj := (List.getElem?_eq_some_iff.1 hu).1
      have := World.cell?_setCells_in g (xs.drop i) (i + news.length) w h1 (j - (i + news.length)) hj
      rw [show i + news.length + (j - (i + news.length)) = j from by omega] at this
      rw [this, ← hu, List.getElem?_eq_getElem]

set_option maxHeartbeats 4000000 in
set_option maxRecDepth 100000 in
theorem Insert_shift {w : World} {g n cap i vb : Nat} {xs news : List Value} (hown : w.ownsRow 0 83 2 (.slice (some ⟨g, 0, none⟩) n cap) n xs) (hn : n ≤ 1000) (hi : i < n) (hroom : n + 1 ≤ cap)
    (hvb : vb ≠ g) (hvh : w.heap[vb]? = some (.cells news.toArray 83 (0, 0)))
    (hvl : news.length = 1 * 2) (h1v : ∀ u ∈ news, u.oneCell' = true) (h1x : ∀ u ∈ xs, u.oneCell' = true) :
    Calls Try.prog 62 #[.slice (some ⟨g, 0, none⟩) n cap, .int .i64 i, .slice (some ⟨vb, 0, none⟩) 1 1] w (InsEnd xs i news n (.slice (some ⟨g, 0, none⟩) n cap) w) := by
  have hz2 : ((i : Int) == (n : Int)) = false := by rw [beq_eq_false_iff_ne]; omega
  have hz3 : decide ((cap : Int) < (n : Int) + 1) = false := by rw [decide_eq_false_iff_not]; omega
  have hb4 : ¬ (cap = i) := by omega
  have hb2 : ¬ (cap = i + 1) := by omega
  have hcm : cap ≤ 9223372036854775807 := by
    rcases hown.2 with ⟨h0, _⟩ | ⟨g', cap', cur, h0, _, hg, hnc, hcm, _, _⟩
    · cases h0
    · simp only [Value.slice.injEq] at h0; unfold maxLen at hcm; omega
  have hgb : ∃ cur, w.heap[g]? = some (.cells cur 83 (0, 0)) ∧ cur.size = cap * 2 := by
    rcases hown.2 with ⟨h0, _⟩ | ⟨g', cap', cur, h0, _, hg, _, _, hs, _⟩
    · cases h0
    · simp only [Value.slice.injEq, Option.some.injEq, Addr.mk.injEq, and_true, true_and] at h0
      obtain ⟨rfl, rfl⟩ := h0
      exact ⟨cur, hg, hs⟩
  obtain ⟨cur, hgh, hgs⟩ := hgb
  have hxl : xs.length = n * 2 := hown.1
  have hxs : ∀ j u, xs[j]? = some u → w.cell? ⟨g, j, none⟩ = some u := fun j u hu => by
    have := hown.cells (g := g) rfl j u hu
    rwa [WideShapes.add_plain, Nat.zero_add] at this
  have hsp : ∀ j, j < cap * 2 → (w.cell? ⟨g, j, none⟩).isSome = true := fun j hj => by rw [Lib.cell_of_heap hgh, Array.getElem?_eq_getElem (by omega)]; rfl
  have hfz : ∀ j, w.frozen? ⟨g, j, none⟩ = false := fun j => Lib.frozen_of_heap hgh j
  have hvs : ∀ j u, news[j]? = some u → w.cell? ⟨vb, j, none⟩ = some u := fun j u hu => by rw [Lib.cell_of_heap hvh]; simpa using hu
  have hsz : (Try.prog.info? 83).map (·.size) = some 2 := by kernel_rfl
  have hov : ∀ lb cb, (callFunc 76 #[.slice (some ⟨vb, 0, none⟩) 1 1, .slice (some ⟨g, (i + 1) * 2, none⟩) lb cb]).run Try.prog w = .ok (.value (.bool false)) w := fun lb cb => by
    rw [run_callFunc_extern Try.func76 (by kernel_rfl) (by kernel_rfl) (by kernel_rfl) (e := Extern.SlicesOverlaps.overlaps #[47, 47] #[4]) (by kernel_rfl),
      Lib.run_overlaps_apart w 47 4 83 Try.underlying47 2 (fun w => by kernel_rfl) ⟨vb, 0, none⟩ ⟨g, (i + 1) * 2, none⟩ 1 1 lb cb hvb 83 83 news.toArray.size cur.size (by simp [World.shape?, hvh]) (by simp [World.shape?, hgh]) (by omega) (Lib.frozen_of_heap hvh _) (Lib.frozen_of_heap hvh _)]
    rfl
  have hcp1 : ∀ ty dc sc, (Builtin.copy_ #[47, 47] ty #[.slice (some ⟨g, (i + 1) * 2, none⟩) (n - i) dc, .slice (some ⟨g, i * 2, none⟩) (n + 1 - i) sc]).run Try.prog w.drew = .ok (goInt (Nat.min (n + 1 - i) (n - i))) (w.drew.setCells g ((i + 1) * 2) (xs.drop (i * 2))) := fun ty dc sc =>
    run_copy_k w.drew 2 _ _ ty 83 g ((i + 1) * 2) (n - i) dc ⟨g, i * 2, none⟩ (n + 1 - i) sc (xs.drop (i * 2)) Try.underlying47 hsz (by rw [List.length_drop, hxl]; simp only [Nat.min_def]; split <;> omega)
      (fun j v hj => by rw [WideShapes.add_plain]; exact hxs _ v (by rwa [List.getElem?_drop] at hj))
      (fun j hj => hsp _ (by rw [List.length_drop, hxl] at hj; omega)) (fun j _ => hfz _) (fun v hv => h1x v (List.mem_of_mem_drop hv))
  obtain ⟨W1, hW1⟩ : ∃ W1, W1 = w.drew.setCells g ((i + 1) * 2) (xs.drop (i * 2)) := ⟨_, rfl⟩
  have hcp2 : ∀ ty dc, (Builtin.copy_ #[47, 47] ty #[.slice (some ⟨g, i * 2, none⟩) (n + 1 - i) dc, .slice (some ⟨vb, 0, none⟩) 1 1]).run Try.prog W1 = .ok (goInt (Nat.min 1 (n + 1 - i))) (W1.setCells g (i * 2) news) := fun ty dc =>
    run_copy_k W1 2 _ _ ty 83 g (i * 2) (n + 1 - i) dc ⟨vb, 0, none⟩ 1 1 news Try.underlying47 hsz (by rw [hvl]; simp only [Nat.min_def]; split <;> omega)
      (fun j v hj => by
        rw [WideShapes.add_plain, Nat.zero_add, hW1, World.cell?_setCells_out g _ _ _ _ (fun h _ => absurd h hvb)]
        exact hvs j v hj)
      (fun j hj => by rw [hW1, World.cell?_setCells_out g _ _ _ _ (fun _ _ => Or.inl (by show i * 2 + j < (i + 1) * 2; omega))]; exact hsp _ (by omega)) (fun j hj => by rw [hW1, World.frozen?_setCells]; exact hfz _) h1v
  rw [← hW1] at hcp1
  have HE : Hid (InsEnd xs i news n (.slice (some ⟨g, 0, none⟩) n cap) w (.returned (.slice (some ⟨g, 0, none⟩) (n + 1) cap)) (W1.setCells g (i * 2) news)) := by
    refine Lib.hid ⟨_, cap, rfl, .inr ⟨g, 0, rfl, ?_, fun j hj => ?_⟩, ?_⟩
    · rw [size_setCells, hW1, size_setCells]; exact (hown.lt g rfl).2
    · rw [Nat.zero_add, hW1]
      have := row_shift (w := w.drew) (g := g) (i := i * 2) (xs := xs) (news := news) hxs (fun j hj => hsp j (by omega)) (by omega) j _ (List.getElem?_eq_getElem hj)
      rw [show i * 2 + news.length = (i + 1) * 2 from by omega] at this
      exact this
    · rw [hW1]
      exact grown_setCells (grown_setCells (grown_drew (grown_refl w (some g))) _ _) _ _
  have hw1 : IntKind.i64.wrap ((i : Int) + 1) = (i : Int) + 1 := by rw [IntKind.wrap_i64]; omega
  have hb1 : (0 : Int) ≤ (i : Int) + 1 := by omega
  have hin : i ≤ n := by omega
  have htn : ((i : Int) + 1).toNat = i + 1 := by omega
  have hb3 : (i : Int) ≤ (n : Int) + 1 := by omega
  have hb5 : (i : Int) + 1 ≤ (n : Int) + 1 := by omega
  clear hown hvh hvl h1v h1x hW1 hxs hsp hfz hvs hsz hgh hgs hxl
  go_enter Try.func62, Try.ntmps62
  go_wp2_with (simp only [hov])
  clear hov
  have mixed : Try.prog.follows Departure.mixedOrders = true := by kernel_rfl
  go_region_law_o (refine step_copy_run rfl _ _ 47 47 rfl _ _ (by simp [Act.eval, Act.put]) (by simp [Act.eval, Act.put]) (hcp1 _ _ _) ?_)
  go_wp2_with (at_builtin; refine wpList_copy_run _ rfl _ _ 47 47 rfl _ _ rfl rfl (hcp2 _ _) ?_)
  all_goals (go_ret; exact HE.out)
end Go.Proofs.Ythajgoigmkkbgaa

namespace Go.Proofs.Ythajgoigmkkbgaa
open Go.RowKit

set_option maxHeartbeats 4000000 in
set_option maxRecDepth 100000 in
theorem Insert_grow {w : World} {g n cap i vb : Nat} {xs news : List Value} (hown : w.ownsRow 0 83 2 (.slice (some ⟨g, 0, none⟩) n cap) n xs) (hn : n ≤ 1000) (hi : i < n) (hroom : cap < n + 1)
    (hvh : w.heap[vb]? = some (.cells news.toArray 83 (0, 0)))
    (hvl : news.length = 1 * 2) (h1v : ∀ u ∈ news, u.oneCell' = true) (h1x : ∀ u ∈ xs, u.oneCell' = true) :
    Calls Try.prog 62 #[.slice (some ⟨g, 0, none⟩) n cap, .int .i64 i, .slice (some ⟨vb, 0, none⟩) 1 1] w (InsEnd xs i news n (.slice (some ⟨g, 0, none⟩) n cap) w) := by
  obtain ⟨i0, hi0, hz0, hzs, hzb⟩ := info_parts Try.infoVol
  have hz2 : ((i : Int) == (n : Int)) = false := by rw [beq_eq_false_iff_ne]; omega
  have hz3 : decide ((cap : Int) < (n : Int) + 1) = true := by rw [decide_eq_true_iff]; omega
  have hnc : n ≤ cap := by
    rcases hown.2 with ⟨h0, _⟩ | ⟨g', cap', cur, h0, _, hg, hnc, hcm, _, _⟩
    · cases h0
    · simp only [Value.slice.injEq] at h0; omega
  have hgw : g < w.heap.size := (hown.lt g rfl).2
  have hvw : vb < w.heap.size := (Array.getElem?_eq_some_iff.1 hvh).1
  have hxl : xs.length = n * 2 := hown.1
  have hxs : ∀ j u, xs[j]? = some u → w.cell? ⟨g, j, none⟩ = some u := fun j u hu => by
    have := hown.cells (g := g) rfl j u hu
    rwa [WideShapes.add_plain, Nat.zero_add] at this
  have hvs : ∀ j u, news[j]? = some u → w.cell? ⟨vb, j, none⟩ = some u := fun j u hu => by rw [Lib.cell_of_heap hvh]; simpa using hu
  have hsz : (Try.prog.info? 83).map (·.size) = some 2 := by kernel_rfl
  have hkk : (n : Int) + 1 - (i : Int) = ((n + 1 - i : Nat) : Int) := by omega
  have hik : i + (n + 1 - i) = n + 1 := by omega
  have hold : (Builtin.firstCells i0.size i (.slice (some ⟨g, 0, none⟩) i cap)).run Try.prog w.drew = .ok (xs.take (i * 2)).toArray w.drew := by
    rw [hzs]
    exact run_firstCells_some w.drew 2 i ⟨g, 0, none⟩ i cap (xs.take (i * 2)) (by rw [List.length_take]; omega) (fun j v hj => by
      rw [WideShapes.add_plain, Nat.zero_add]
      rw [List.getElem?_take] at hj
      split at hj
      · exact hxs j v hj
      · cases hj)
  have hrz : ∀ ty, (Builtin.append_ #[47, 3] ty #[.slice (some ⟨g, 0, none⟩) i cap, .int .i64 ((n : Int) + 1 - (i : Int))]).run Try.prog w =
      .ok (.slice (some ⟨w.heap.size, 0, none⟩) (n + 1) (grownCap w (n + 1) cap 83)) (w.drew.alloc (.cells ((xs.take (i * 2)).toArray ++ Builtin.zeroCells (Value.agg #[.int .i64 0, .slice none 0 0]).cells (n + 1 - i) ++ Builtin.zeroCells (Value.agg #[.int .i64 0, .slice none 0 0]).cells (grownCap w (n + 1) cap 83 - (n + 1))) 83)) := fun ty => by
    have h := Lib.run_append_grow_zeros w 47 3 ty 83 i0 _ .i64 .i64 Try.underlying47 Try.underlying3 hi0 hz0 (some ⟨g, 0, none⟩) i cap (xs.take (i * 2)) hold (n + 1 - i) (by omega) (by omega) (by omega) (by omega) (by rw [hzb]; omega) (by rw [hzb, hik]; exact growslice_fits hroom (by omega))
    rw [hik] at h
    rw [hkk]
    exact h
  obtain ⟨G, hG⟩ : ∃ G, G = grownCap w (n + 1) cap 83 := ⟨_, rfl⟩
  obtain ⟨ROW, hROW⟩ : ∃ ROW : Array Value, ROW = (xs.take (i * 2)).toArray ++ Builtin.zeroCells (Value.agg #[.int .i64 0, .slice none 0 0]).cells (n + 1 - i) ++ Builtin.zeroCells (Value.agg #[.int .i64 0, .slice none 0 0]).cells (G - (n + 1)) := ⟨_, rfl⟩
  rw [← hG] at hrz
  rw [← hROW] at hrz
  have hRl : (n + 1) * 2 ≤ ROW.size := by
    rw [hROW]
    simp [Builtin.zeroCells, Value.cells]
    omega
  have hRt : ∀ j u, j < i * 2 → xs[j]? = some u → ROW[j]? = some u := fun j u hj hu => by
    rw [hROW, Array.append_assoc, Array.getElem?_append_left (by simp; omega)]
    simp [hj, hu]
  obtain ⟨W1, hW1⟩ : ∃ W1, W1 = w.drew.alloc (.cells ROW 83) := ⟨_, rfl⟩
  rw [← hW1] at hrz
  have hN : ∀ j, j < (n + 1) * 2 → (W1.cell? ⟨w.heap.size, j, none⟩).isSome = true := fun j hj => by
    rw [hW1, World.cell?_alloc_at (w := w.drew) ROW _ w.heap.size j rfl, Array.getElem?_eq_getElem (by omega)]; rfl
  have hNx : ∀ j u, j < i * 2 → xs[j]? = some u → W1.cell? ⟨w.heap.size, j, none⟩ = some u := fun j u hj hu => by
    rw [hW1, World.cell?_alloc_at (w := w.drew) ROW _ w.heap.size j rfl]; exact hRt j u hj hu
  have hNf : ∀ j, W1.frozen? ⟨w.heap.size, j, none⟩ = false := fun j => by rw [hW1]; exact World.frozen?_alloc_at (w := w.drew) ROW _ w.heap.size j rfl
  have hOb : ∀ j v, w.cell? ⟨g, j, none⟩ = some v → W1.cell? ⟨g, j, none⟩ = some v := fun j v h => by rw [hW1, World.cell?_alloc_past (w := w.drew) _ g j hgw]; exact h
  have hOv : ∀ j v, w.cell? ⟨vb, j, none⟩ = some v → W1.cell? ⟨vb, j, none⟩ = some v := fun j v h => by rw [hW1, World.cell?_alloc_past (w := w.drew) _ vb j hvw]; exact h
  have hcpA : ∀ (W : World), (∀ x, W.cell? x = W1.cell? x) → (∀ x, W.frozen? x = W1.frozen? x) → ∀ ty dc, (Builtin.copy_ #[47, 47] ty #[.slice (some ⟨w.heap.size, i * 2, none⟩) (n + 1 - i) dc, .slice (some ⟨vb, 0, none⟩) 1 1]).run Try.prog W = .ok (goInt (Nat.min 1 (n + 1 - i))) (W.setCells w.heap.size (i * 2) news) := fun W hWc hWf ty dc =>
    run_copy_k W 2 _ _ ty 83 w.heap.size (i * 2) (n + 1 - i) dc ⟨vb, 0, none⟩ 1 1 news Try.underlying47 hsz (by rw [hvl]; simp only [Nat.min_def]; split <;> omega)
      (fun j v hj => by rw [WideShapes.add_plain, Nat.zero_add, hWc]; exact hOv _ v (hvs j v hj))
      (fun j hj => by rw [hWc]; exact hN _ (by omega)) (fun j hj => by rw [hWf]; exact hNf _) h1v
  have hGn : n + 1 ≤ G := by rw [hG]; exact grownCap_ge w _ _ _
  have hG63 : G ≤ 9223372036854775807 := by
    have := grownCap_le_maxLen w (n + 1) cap 83 (by unfold maxLen; omega)
    rw [← hG] at this
    unfold maxLen at this
    omega
  have hGi : ¬ (G = i) := by omega
  have hGim : ¬ (G = i + 1) := by omega
  have hci : ¬ (cap = i) := by omega
  have hbN : g ≠ w.heap.size := by omega
  have hcpB : ∀ (W : World), (∀ x, W.cell? x = (W1.setCells w.heap.size (i * 2) news).cell? x) → (∀ x, W.frozen? x = (W1.setCells w.heap.size (i * 2) news).frozen? x) → ∀ ty dc sc, (Builtin.copy_ #[47, 47] ty #[.slice (some ⟨w.heap.size, (i + 1) * 2, none⟩) (n - i) dc, .slice (some ⟨g, i * 2, none⟩) (n - i) sc]).run Try.prog W = .ok (goInt (Nat.min (n - i) (n - i))) (W.setCells w.heap.size ((i + 1) * 2) (xs.drop (i * 2))) := fun W hWc hWf ty dc sc =>
    run_copy_k W 2 _ _ ty 83 w.heap.size ((i + 1) * 2) (n - i) dc ⟨g, i * 2, none⟩ (n - i) sc (xs.drop (i * 2)) Try.underlying47 hsz (by rw [List.length_drop, hxl]; simp only [Nat.min_def]; split <;> omega)
      (fun j v hj => by
        rw [WideShapes.add_plain, hWc, World.cell?_setCells_out _ _ _ _ _ (fun h _ => absurd h hbN)]
        exact hOb _ v (hxs _ v (by rwa [List.getElem?_drop] at hj)))
      (fun j hj => by
        rw [List.length_drop, hxl] at hj
        rw [hWc, World.cell?_setCells_out _ _ _ _ _ (fun _ _ => Or.inr (by show i * 2 + news.length ≤ (i + 1) * 2 + j; omega))]; exact hN _ (by omega))
      (fun j hj => by rw [hWf, World.frozen?_setCells]; exact hNf _) (fun v hv => h1x v (List.mem_of_mem_drop hv))
  have HE : Hid (InsEnd xs i news n (.slice (some ⟨g, 0, none⟩) n cap) w (.returned (.slice (some ⟨w.heap.size, 0, none⟩) (n + 1) G)) (((W1.setCells w.heap.size (i * 2) news).drew).setCells w.heap.size ((i + 1) * 2) (xs.drop (i * 2)))) := by
    refine Lib.hid ⟨_, G, rfl, .inr ⟨w.heap.size, 0, rfl, ?_, fun j hj => ?_⟩, ?_⟩
    · rw [size_setCells]; show w.heap.size < (W1.setCells _ _ _).heap.size; rw [size_setCells, hW1]; show w.heap.size < (w.drew.alloc _).heap.size; simp
    · rw [Nat.zero_add]
      obtain ⟨u, hu⟩ : ∃ u, (xs.take (i * 2) ++ news ++ xs.drop (i * 2))[j]? = some u := ⟨_, List.getElem?_eq_getElem hj⟩
      have hu' := hu
      rw [List.getElem?_eq_getElem hj] at hu'
      rw [hu']
      have hlen : (xs.take (i * 2)).length = i * 2 := by rw [List.length_take]; omega
      by_cases c1 : j < (i + 1) * 2
      · rw [World.cell?_setCells_out w.heap.size _ _ _ ⟨w.heap.size, j, none⟩ (fun _ _ => Or.inl (by show j < (i + 1) * 2; omega))]
        show (W1.setCells w.heap.size (i * 2) news).cell? _ = _
        by_cases c2 : j < i * 2
        · rw [World.cell?_setCells_out w.heap.size _ _ _ ⟨w.heap.size, j, none⟩ (fun _ _ => Or.inl c2)]
          rw [List.append_assoc, List.getElem?_append_left (by omega), List.getElem?_take, if_pos c2] at hu
          exact hNx j u c2 hu
        · have := World.cell?_setCells_in w.heap.size news (i * 2) W1 (fun t ht => hN _ (by omega)) (j - i * 2) (by omega)
          rw [show i * 2 + (j - i * 2) = j from by omega] at this
          rw [this]
          rw [List.append_assoc, List.getElem?_append_right (by omega), hlen, List.getElem?_append_left (by omega)] at hu
          rw [← hu, List.getElem?_eq_getElem]
      · rw [List.getElem?_append_right (by rw [List.length_append, hlen]; omega), List.length_append, hlen] at hu
        have hj2 := (List.getElem?_eq_some_iff.1 hu).1
        have := World.cell?_setCells_in w.heap.size (xs.drop (i * 2)) ((i + 1) * 2) (W1.setCells w.heap.size (i * 2) news).drew (fun t ht => by
          show ((W1.setCells w.heap.size (i * 2) news).cell? _).isSome = true
          rw [List.length_drop, hxl] at ht
          rw [World.cell?_setCells_out _ _ _ _ _ (fun _ _ => Or.inr (by show i * 2 + news.length ≤ (i + 1) * 2 + t; omega))]; exact hN _ (by omega)) (j - (i + 1) * 2) (by rw [hvl] at hj2; omega)
        rw [show (i + 1) * 2 + (j - (i + 1) * 2) = j from by omega] at this
        rw [this, ← hu, ← List.getElem?_eq_getElem, hvl, show i * 2 + 1 * 2 = (i + 1) * 2 from by omega]
    · have h0 : w.grownBy W1 (some w.heap.size) := by rw [hW1]; exact ⟨rfl, rfl, rfl, by show w.heap.size ≤ (w.drew.alloc _).heap.size; simp, fun k hk _ => Below.heap_alloc w.drew _ k hk⟩
      have h1 := grown_setCells (grown_drew (grown_setCells h0 (i * 2) news)) ((i + 1) * 2) (xs.drop (i * 2))
      exact ⟨h1.os, h1.tape, h1.output, h1.size, fun k hk _ => h1.block k hk (by simp; omega)⟩
  subst hW1
  have hE1 : ∀ x, ((w.alloc (.cells ROW 83)).drew).cell? x = (w.drew.alloc (.cells ROW 83)).cell? x := fun x => rfl
  have hE2 : ∀ x, ((w.alloc (.cells ROW 83)).drew).frozen? x = (w.drew.alloc (.cells ROW 83)).frozen? x := fun x => rfl
  have hF1 : ∀ x, (((w.alloc (.cells ROW 83)).drew.setCells w.heap.size (i * 2) news).drew).cell? x = ((w.drew.alloc (.cells ROW 83)).setCells w.heap.size (i * 2) news).cell? x := fun x => rfl
  have hF2 : ∀ x, (((w.alloc (.cells ROW 83)).drew.setCells w.heap.size (i * 2) news).drew).frozen? x = ((w.drew.alloc (.cells ROW 83)).setCells w.heap.size (i * 2) news).frozen? x := fun x => rfl
  have hw1 : IntKind.i64.wrap ((i : Int) + 1) = (i : Int) + 1 := by rw [IntKind.wrap_i64]; omega
  have hb1 : (0 : Int) ≤ (i : Int) + 1 := by omega
  have hin : i ≤ n := by omega
  have htn : ((i : Int) + 1).toNat = i + 1 := by omega
  have hb3 : (i : Int) ≤ (n : Int) := by omega
  have hb5 : (i : Int) + 1 ≤ (n : Int) + 1 := by omega
  have mixed : Try.prog.follows Departure.mixedOrders = true := by kernel_rfl
  clear hkk hik hold hROW hG hRl hRt hown hvh hvl hxs hvs hN hNx hNf hOb hOv hxl h1v h1x hi0 hz0 hzs hzb hsz
  go_enter Try.func62, Try.ntmps62
  go_wp2_with (first
    | (at_builtin; refine Lib.wpList_append_run _ rfl _ _ _ _ rfl _ _ rfl rfl _ _ (hrz _) ?_)
    | (at_builtin; refine wpList_copy_run _ rfl _ _ 47 47 rfl _ _ rfl rfl (hcpA _ hE1 hE2 _ _) ?_))
  go_region_law_o (refine step_copy_run rfl _ _ 47 47 rfl (.slice (some ⟨w.heap.size, (i + 1) * 2, none⟩) (n - i) (G - (i + 1))) (.slice (some ⟨g, i * 2, none⟩) (n - i) (cap - i)) (by simp [Act.eval, Act.put]) (by simp [Act.eval, Act.put]) (hcpB _ hF1 hF2 3 (G - (i + 1)) (cap - i)) ?_)
  go_wp2_with fail
  go_ret
  exact HE.out

/-- slices.Insert of one volume. -/
theorem Insert_any {w : World} {v : Value} {n i vb : Nat} {xs news : List Value} (hown : w.ownsRow 0 83 2 v n xs) (hn : n ≤ 1000) (hi : i ≤ n)
    (hvb : v.ownBlock ≠ some vb) (hvh : w.heap[vb]? = some (.cells news.toArray 83 (0, 0)))
    (hvl : news.length = 1 * 2) (h1v : ∀ u ∈ news, u.oneCell' = true) (h1x : ∀ u ∈ xs, u.oneCell' = true) :
    Calls Try.prog 62 #[v, .int .i64 i, .slice (some ⟨vb, 0, none⟩) 1 1] w (InsEnd xs i news n v w) := by
  by_cases h : i = n
  · subst h
    exact Insert_end hown hn hvl (fun j u hu => by rw [WideShapes.add_plain, Nat.zero_add, Lib.cell_of_heap hvh]; simpa using hu) h1v
  · obtain ⟨g, cap, rfl, _⟩ := hown.form (by omega)
    have hne : vb ≠ g := fun e => hvb (by simp [Value.ownBlock, e])
    by_cases h2 : n + 1 ≤ cap
    · exact Insert_shift hown hn (by omega) h2 hne hvh hvl h1v h1x
    · exact Insert_grow hown hn (by omega) (by omega) hvh hvl h1v h1x
end Go.Proofs.Ythajgoigmkkbgaa

namespace Go.Proofs.Ythajgoigmkkbgaa
open Go.RowKit

theorem mem_zip_take {α β : Type} {l : List α} {m : List β} {k : Nat} {p : α × β} (h : p ∈ (l.take k).zip (m.take k)) : p ∈ l.zip m := by
  induction l generalizing m k with
  | nil => simp at h
  | cons a l ih =>
    cases m with
    | nil => simp at h
    | cons b m =>
      cases k with
      | zero => simp at h
      | succ k =>
        simp only [List.take_succ_cons, List.zip_cons_cons, List.mem_cons] at h ⊢
        exact h.imp id ih
theorem mem_zip_drop {α β : Type} {l : List α} {m : List β} {k : Nat} {p : α × β} (h : p ∈ (l.drop k).zip (m.drop k)) : p ∈ l.zip m := by
  induction l generalizing m k with
  | nil => simp at h
  | cons a l ih =>
    cases m with
    | nil => simp at h
    | cons b m =>
      cases k with
      | zero => simpa using h
      | succ k =>
        simp only [List.drop_succ_cons] at h
        simp only [List.zip_cons_cons, List.mem_cons]
        exact Or.inr (ih h)
theorem mem_zip_at {α β : Type} {l : List α} {m : List β} {p : α × β} (h : p ∈ l.zip m) : ∃ i, ∃ (h1 : i < l.length) (h2 : i < m.length), p = (l[i], m[i]) := by
  obtain ⟨i, hi, rfl⟩ := List.getElem_of_mem h
  simp only [List.length_zip] at hi
  exact ⟨i, by omega, by omega, by simp⟩
theorem zip_mem_at {α β : Type} {l : List α} {m : List β} {i : Nat} (h1 : i < l.length) (h2 : i < m.length) : (l[i], m[i]) ∈ l.zip m := by
  have h : i < (l.zip m).length := by rw [List.length_zip]; omega
  have := List.getElem_mem h
  rwa [List.getElem_zip] at this
theorem VolsAt.of_zip {w : World} {B : Nat} {A : Option Addr} {vs : List Vl} {us : List Value} (hl : us.length = vs.length) (h : Lies w B A (volCells vs us)) (hu : ∀ p ∈ vs.zip us, IsTexts w B p.2 p.1.2) : VolsAt w B A vs :=
  VolsAt.of_rows hl h (fun _ h1 h2 => hu _ (zip_mem_at h1 h2))

theorem right_small {vs : List Vl} (h : rightB vs = true) : vs.length ≤ 4 ∧ ∀ v ∈ vs, v.2.length ≤ 32 := by
  refine ⟨((rightB_iff vs).1 h).1, fun v hv => ?_⟩
  have := (volOk_iff v).1 (goodFrom_ok (rightB_good h) v hv)
  omega
theorem right_fit {vs : List Vl} (h : rightB vs = true) : VolsFit vs := by
  obtain ⟨h1, h2⟩ := right_small h
  exact ⟨by omega, fun v hv => by have := h2 v hv; omega⟩

/-- What is left behind Insert. -/
theorem add_end {w w3 w4 w5 : World} {base at_ g0 n cap : Nat} {id : Int} {v : Value} {vs : List Vl} {us : List Value} {A : Option Addr} (hO : OwnV w3 base v vs us)
    (ho : w4.ownsRow w3.heap.size 9 1 (.slice (some ⟨g0, 0, none⟩) n n) n ((blankB n).map Value.string)) (hb : Below w3.heap.size w3 w4)
    (hl : Lies w5 w5.heap.size A ((volCells vs us).take (at_ * 2) ++ [.int .i64 id, .slice (some ⟨g0, 0, none⟩) n n] ++ (volCells vs us).drop (at_ * 2)))
    (hg : (w4.alloc (.cells #[.int .i64 id, .slice (some ⟨g0, 0, none⟩) n n] 83)).grownBy w5 v.ownBlock) (hat : at_ ≤ vs.length)
    (hbw : Below w.heap.size w w3) (hbase : w.heap.size ≤ base) :
    VolsEnd (vs.take at_ ++ (id, blankB n) :: vs.drop at_) 0 w (.returned (.tuple #[.slice A (vs.length + 1) cap, .int .i64 0])) w5 := by
  have hlen : (vs.take at_ ++ (id, blankB n) :: vs.drop at_).length = vs.length + 1 := by simp; omega
  refine ⟨A, cap, by rw [hlen], ?_, ?_⟩
  · have htk : (us.take at_).length = (vs.take at_).length := by rw [List.length_take, List.length_take, hO.len]
    refine VolsAt.of_zip (us := us.take at_ ++ (.slice (some ⟨g0, 0, none⟩) n n) :: us.drop at_) (by simp [hO.len]) ?_ (fun p hp => ?_)
    · rw [volCells_append htk, volCells, ← volCells_take hO.len, ← volCells_drop hO.len]
      simpa using hl
    · have hkeep : ∀ p ∈ vs.zip us, IsTexts w5 w5.heap.size p.2 p.1.2 := fun p hp => by
        obtain ⟨i, h1, h2, rfl⟩ := mem_zip_at hp
        have h3 := (own_kept (hO.each i h1 h2) hb).alloc (.cells #[.int .i64 id, .slice (some ⟨g0, 0, none⟩) n n] 83)
        refine own_texts (h3.kept hg ?_)
        cases hq : us[i].ownBlock with
        | none => exact Or.inl rfl
        | some k => exact Or.inr (fun e => hO.gap i h2 k hq e.symm)
      rw [List.zip_append (by rw [List.length_take, List.length_take, hO.len]), List.zip_cons_cons] at hp
      rcases List.mem_append.1 hp with hp | hp
      · exact hkeep p (mem_zip_take hp)
      · rcases List.mem_cons.1 hp with rfl | hp
        · have h3 := ho.alloc (.cells #[.int .i64 id, .slice (some ⟨g0, 0, none⟩) n n] 83)
          have h4 := h3.kept hg (Or.inr (fun e => by
            have h5 := (ho.lt g0 rfl).1
            have h6 := (hO.row.lt g0 e.symm).2
            omega))
          have h5 : (blankB n).length = n := blankB_length n
          refine own_texts (base := w3.heap.size) ?_
          show World.ownsRow _ _ _ _ _ (blankB n).length _
          rw [h5]
          exact h4
        · exact hkeep p (mem_zip_drop hp)
  · have h1 : Below w.heap.size w (w4.alloc (.cells #[.int .i64 id, .slice (some ⟨g0, 0, none⟩) n n] 83)) := (hbw.trans (hb.mono hbw.size)).alloc (by have := hbw.size; have := hb.size; omega) _
    exact h1.grown hg h1.size (fun k hk => by have := (hO.row.lt k hk).1; omega)

theorem OwnV.oneCells {w : World} {base : Nat} {v : Value} {vs : List Vl} {us : List Value} (h : OwnV w base v vs us) : ∀ u ∈ volCells vs us, u.oneCell' = true :=
  volCells_one (fun u hu => by
    obtain ⟨i, hi, rfl⟩ := List.getElem_of_mem hu
    exact (own_texts (h.each i (by rw [← h.len]; exact hi) hi)).one)

/-- slices.Insert, as Add calls it. -/
theorem insert_add {w w3 w4 : World} {base at_ g0 n : Nat} {id : Int} {v : Value} {vs : List Vl} {us : List Value} (hO : OwnV w3 base v vs us)
    (ho : w4.ownsRow w3.heap.size 9 1 (.slice (some ⟨g0, 0, none⟩) n n) n ((blankB n).map Value.string)) (hb : Below w3.heap.size w3 w4) (hat : at_ ≤ vs.length) (hn : vs.length ≤ 1000)
    (hbw : Below w.heap.size w w3) (hbase : w.heap.size ≤ base) :
    Calls Try.prog 62 #[v, .int .i64 at_, .slice (some ⟨w4.heap.size, 0, none⟩) 1 1] (w4.alloc (.cells #[.int .i64 id, .slice (some ⟨g0, 0, none⟩) n n] 83))
      (fun e w5 => ∃ A cap, e = .returned (.slice A (vs.length + 1) cap) ∧ VolsEnd (vs.take at_ ++ (id, blankB n) :: vs.drop at_) 0 w (.returned (.tuple #[.slice A (vs.length + 1) cap, .int .i64 0])) w5) := by
  refine (Insert_any (xs := volCells vs us) (news := [.int .i64 id, .slice (some ⟨g0, 0, none⟩) n n]) (n := vs.length) (own_base ((own_kept hO.row hb).alloc _) (Nat.zero_le _)) hn hat (fun e => ?_) (heap_alloc_new _ _) rfl (fun u hu => ?_) hO.oneCells).mono ?_
  · have := (hO.row.lt _ e).2
    have := hb.size
    omega
  · simp only [List.mem_cons, List.not_mem_nil, or_false] at hu
    rcases hu with rfl | rfl <;> rfl
  · rintro e w5 ⟨A5, cap5, rfl, hl5, hg5⟩
    exact ⟨A5, cap5, rfl, add_end hO ho hb hl5 hg5 hat hbw hbase⟩

theorem addE_arg {vs : List Vl} {id n : Int} (h : ¬ (rightB vs = true ∧ shapeB id n = true)) : addE vs id n = 1 ∧ addV vs id n = [] := by
  have e : addE vs id n = 1 := by unfold addE; rw [if_neg h]
  exact ⟨e, by unfold addV; rw [e]; rfl⟩
theorem addE_there {vs : List Vl} {id n : Int} (h : rightB vs = true ∧ shapeB id n = true) (h2 : hasAt vs id = true) : addE vs id n = 9 ∧ addV vs id n = [] := by
  have e : addE vs id n = 9 := by unfold addE; rw [if_pos h, if_pos h2]
  exact ⟨e, by unfold addV; rw [e]; rfl⟩
theorem addE_full {vs : List Vl} {id n : Int} (h : rightB vs = true ∧ shapeB id n = true) (h2 : hasAt vs id = false) (h3 : vs.length = 4) : addE vs id n = 6 ∧ addV vs id n = [] := by
  have e : addE vs id n = 6 := by unfold addE; rw [if_pos h, if_neg (by simp [h2]), if_pos h3]
  exact ⟨e, by unfold addV; rw [e]; rfl⟩
theorem addE_ok {vs : List Vl} {id n : Int} (h : rightB vs = true ∧ shapeB id n = true) (h2 : hasAt vs id = false) (h3 : vs.length ≠ 4) : addE vs id n = 0 ∧ addV vs id n = vs.take (findAt vs id) ++ (id, blankB n.toNat) :: vs.drop (findAt vs id) := by
  have e : addE vs id n = 0 := by unfold addE; rw [if_pos h, if_neg (by simp [h2]), if_neg h3]
  exact ⟨e, by unfold addV; rw [if_pos e]⟩

set_option maxHeartbeats 4000000 in
set_option maxRecDepth 100000 in
theorem Add_any {w : World} {A : Option Addr} {c : Nat} {vs : List Vl} (h : VolsAt w w.heap.size A vs) (hf : VolsFit vs) (id n : Int) :
    Calls Try.prog 45 #[.slice A vs.length c, .int .i64 id, .int .i64 n] w (VolsEnd (addV vs id n) (addE vs id n) w) := by
  have HV := Lib.hid h
  have HF := Lib.hid hf
  have hl := hf.1
  cases hr : rightB vs with
  | false =>
    rw [(addE_arg (fun hh => by rw [hr] at hh; exact absurd hh.1 (by simp))).1, (addE_arg (fun hh => by rw [hr] at hh; exact absurd hh.1 (by simp))).2]
    have HR := Lib.hid hr
    clear h hf hr
    go_enter Try.func45, Try.ntmps45
    go_wp2_with (go_at_call 44; refine (Right_any HV.out HF.out).mono ?_; rw [HR.out]; rintro e w1 ⟨rfl, hb⟩; replace hb := Lib.hid hb)
    go_ret2
    exact VolsEnd.none_ _ hb.out
  | true =>
    have HR := Lib.hid hr
    obtain ⟨hs4, hs32⟩ := right_small hr
    cases hs : shapeB id n with
    | false =>
      rw [(addE_arg (fun hh => by rw [hs] at hh; exact absurd hh.2 (by simp))).1, (addE_arg (fun hh => by rw [hs] at hh; exact absurd hh.2 (by simp))).2]
      have HS := Lib.hid hs
      clear h hf hr hs
      go_enter Try.func45, Try.ntmps45
      go_wp2_with (first
        | (go_at_call 44; refine (Right_any HV.out HF.out).mono ?_; rw [HR.out]; rintro e w1 ⟨rfl, hb⟩; replace hb := Lib.hid hb)
        | (go_at_call 59; refine (isShape_any _ _ _).mono ?_; rw [HS.out]; rintro e w' ⟨rfl, rfl⟩))
      go_ret2
      exact VolsEnd.none_ _ hb.out
    | true =>
      have HS := Lib.hid hs
      cases hh : hasAt vs id with
      | true =>
        rw [(addE_there ⟨hr, hs⟩ hh).1, (addE_there ⟨hr, hs⟩ hh).2]
        have HH := Lib.hid hh
        clear h hf hr hs hh
        go_enter Try.func45, Try.ntmps45
        go_wp2_with (first
          | (go_at_call 44; refine (Right_any HV.out HF.out).mono ?_; rw [HR.out]; rintro e w1 ⟨rfl, hb⟩; replace hb := Lib.hid hb)
          | (go_at_call 59; refine (isShape_any _ _ _).mono ?_; rw [HS.out]; rintro e w' ⟨rfl, rfl⟩)
          | (go_at_call 49; refine (find_any (HV.out.next hb.out) hl _).mono ?_; rw [HH.out]; rintro e w2 ⟨rfl, hb2⟩; have HB2 := Lib.hid (below_next hb.out hb2); clear hb2))
        go_ret2
        exact VolsEnd.none_ _ HB2.out
      | false =>
        have HH := Lib.hid hh
        by_cases h4 : vs.length = 4
        · rw [(addE_full ⟨hr, hs⟩ hh h4).1, (addE_full ⟨hr, hs⟩ hh h4).2]
          have h4' : ((vs.length : Int) == 4) = true := by simp [h4]
          clear h hf hr hs hh h4
          go_enter Try.func45, Try.ntmps45
          go_wp2_with (first
            | (go_at_call 44; refine (Right_any HV.out HF.out).mono ?_; rw [HR.out]; rintro e w1 ⟨rfl, hb⟩; replace hb := Lib.hid hb)
            | (go_at_call 59; refine (isShape_any _ _ _).mono ?_; rw [HS.out]; rintro e w' ⟨rfl, rfl⟩)
            | (go_at_call 49; refine (find_any (HV.out.next hb.out) hl _).mono ?_; rw [HH.out]; rintro e w2 ⟨rfl, hb2⟩; have HB2 := Lib.hid (below_next hb.out hb2); clear hb2))
          go_ret2
          exact VolsEnd.none_ _ HB2.out
        · rw [(addE_ok ⟨hr, hs⟩ hh h4).1, (addE_ok ⟨hr, hs⟩ hh h4).2]
          have h4' : ((vs.length : Int) == 4) = false := by rw [beq_eq_false_iff_ne]; omega
          have hn := ((shapeB_iff id n).1 hs).2.2
          obtain ⟨m, rfl⟩ := Int.eq_ofNat_of_zero_le (show 0 ≤ n by omega)
          rw [Int.toNat_natCast]
          have hat := findAt_le vs id
          have HC : Hid (∀ w2 c, Below w.heap.size w w2 → Calls Try.prog 48 #[.slice A vs.length c] w2 (CloneEnd vs w2)) := Lib.hid (fun w2 c hb => clone_any (h.next hb) (by omega) (fun v hv => by have := hs32 v hv; omega))
          clear h hf hr hs hh h4 hs32
          obtain ⟨k, hk⟩ : ∃ k, findAt vs id = k := ⟨_, rfl⟩
          have HK := Lib.hid hk
          rw [hk] at hat ⊢
          clear hk
          go_enter Try.func45, Try.ntmps45
          go_wp2_with (first
            | (go_at_call 44; refine (Right_any HV.out HF.out).mono ?_; rw [HR.out]; rintro e w1 ⟨rfl, hb⟩; replace hb := Lib.hid hb)
            | (go_at_call 59; refine (isShape_any _ _ _).mono ?_; rw [HS.out]; rintro e w' ⟨rfl, rfl⟩)
            | (go_at_call 49; refine (find_any (HV.out.next hb.out) hl _).mono ?_; rw [HH.out, HK.out]; rintro e w2 ⟨rfl, hb2⟩; have HB2 := Lib.hid (below_next hb.out hb2); clear hb2)
            | (go_at_call 48; refine (HC.out _ _ HB2.out).mono ?_; rintro e w3 ⟨v, us, rfl, hO, hb3⟩; have HO := Lib.hid hO; have HB3 := Lib.hid (below_next HB2.out hb3); clear hO hb3)
            | (go_at_call 63; refine (blank_any _ _ _ (by omega)).mono ?_; rintro e w4 ⟨g0, rfl, ho4, hb4, hg4⟩; have HO4 := Lib.hid ho4; have HB4 := Lib.hid hb4; clear ho4 hb4)
            | (go_at_call 62; refine (insert_add (w := w) HO.out HO4.out HB4.out hat (by omega) HB3.out HB2.out.size).mono ?_; rintro e w5 ⟨A5, cap5, rfl, hE⟩; have HE := Lib.hid hE; clear hE))
          go_ret2
          exact HE.out
end Go.Proofs.Ythajgoigmkkbgaa
