/- Contracts of find, locate and Right of the package vols. -/
import Derived.Test.YtpmllckfijfehaaVolA
namespace Go.Proofs.Ytpmllckfijfehaa
open Go.RowKit

theorem below_q {B : Nat} {w w' : World} (h : Below B w w') (n : Nat) : Below B w (w'.drewN n) := ⟨h.os, h.tape, h.output, h.size, h.block⟩

theorem int_beq (a b : Int) : (a == b) = decide (a = b) := by by_cases h : a = b <;> simp [h]
theorem drop_at {α : Type} {l : List α} {k : Nat} (h : k < l.length) : l.drop k = l[k] :: l.drop (k + 1) := List.drop_eq_getElem_cons h

def findN (vs : List Vl) (id : Int) (k : Nat) : Prop := findAt vs id = findAt (vs.drop k) id + k ∧ hasAt vs id = hasAt (vs.drop k) id
theorem findN_hit {vs : List Vl} {id : Int} {k : Nat} (h : findN vs id k) (hk : k < vs.length) (h1 : id ≤ vs[k].1) : findAt vs id = k ∧ hasAt vs id = (vs[k].1 == id) := by
  obtain ⟨e1, e2⟩ := h
  rw [drop_at hk] at e1 e2
  rw [findAt, if_pos h1] at e1
  rw [hasAt, if_pos h1] at e2
  exact ⟨by omega, e2⟩
theorem findN_step {vs : List Vl} {id : Int} {k : Nat} (h : findN vs id k) (hk : k < vs.length) (h1 : ¬ id ≤ vs[k].1) : findN vs id (k + 1) := by
  obtain ⟨e1, e2⟩ := h
  rw [drop_at hk] at e1 e2
  rw [findAt, if_neg h1] at e1
  rw [hasAt, if_neg h1] at e2
  exact ⟨by omega, e2⟩
theorem findN_end {vs : List Vl} {id : Int} {k : Nat} (h : findN vs id k) (hk : k = vs.length) : findAt vs id = k ∧ hasAt vs id = false := by
  obtain ⟨e1, e2⟩ := h
  rw [hk, List.drop_length] at e1 e2
  exact ⟨by rw [hk]; simpa [findAt] using e1, by simpa [hasAt] using e2⟩

set_option maxHeartbeats 800000 in
theorem find_any {w : World} {A : Option Addr} {c : Nat} {vs : List Vl} (h : VolsAt w w.heap.size A vs) (hl : vs.length ≤ 9223372036854775807) (id : Int) :
    Calls Try.prog 47 #[.slice A vs.length c, .int .i64 id] w fun e w' => e = .returned (.tuple #[.int .i64 (findAt vs id), .bool (hasAt vs id)]) ∧ Below w.heap.size w w' := by
  have HV := Lib.hid h
  obtain ⟨n, hn⟩ : ∃ n, vs.length = n := ⟨_, rfl⟩
  have HN := Lib.hid hn
  rw [hn] at hl ⊢
  clear h hn
  go_enter Try.func47, Try.ntmps47
  go_wp2
  go_loopw [10] (fun i wr => ∃ k : Nat, k ≤ n ∧ i = .int .i64 k ∧ Hid (findN vs id k) ∧ Hid (Below w.heap.size w wr)) (fun i _ => n - (intOf i).toNat)
  case atStart => exact ⟨0, Nat.zero_le _, rfl, Lib.hid ⟨rfl, rfl⟩, Lib.hid (Below.refl _ _)⟩
  case round =>
    obtain ⟨k, hk, rfl, HF, HB⟩ := hrel
    by_cases hlt : k < n
    · have hkl : k < vs.length := by rw [HN.out]; exact hlt
      obtain ⟨b, off, a, c', hA, hbl, c1, c2, hly⟩ := HV.out.at_ HB.out hkl
      clear hly
      have hbw : b < wr.heap.size := Nat.lt_of_lt_of_le hbl HB.out.size
      have hwz : w.heap.size ≤ wr.heap.size := HB.out.size
      subst hA
      have H1 := Lib.hid (fun h1 => findN_hit HF.out hkl h1)
      have H2 := Lib.hid (fun h1 => findN_step HF.out hkl h1)
      obtain ⟨i1, hi1⟩ : ∃ i1, vs[k].1 = i1 := ⟨_, rfl⟩
      obtain ⟨m1, hm1⟩ : ∃ m1, vs[k].2.length = m1 := ⟨_, rfl⟩
      rw [hi1] at c1 H1 H2
      rw [hm1] at c2
      clear hi1 hm1 hkl
      by_cases hid : id ≤ i1
      · have HE := Lib.hid (H1.out hid)
        clear H1 H2
        go_wp2
        go_quiet (fail)
        go_wp2
        go_ret2
        exact ⟨by rw [HE.out.1, HE.out.2, int_beq]; rfl, below_q (HB.out.alloc hwz _) _⟩
      · have HE := Lib.hid (H2.out hid)
        clear H1 H2
        have hid' : decide (id ≤ i1) = false := by simpa using hid
        go_wp2
        go_roundw
        case rel => exact ⟨k + 1, by omega, by go_num, HE, Lib.hid (HB.out.alloc hwz _)⟩
        case measure => simp [intOf]; omega
    · have HE := Lib.hid (findN_end HF.out (by rw [HN.out]; omega))
      have HK : Hid (k = n) := Lib.hid (by omega)
      go_wp2
      go_ret2
      exact ⟨by rw [HE.out.1, HE.out.2, HK.out]; rfl, HB.out⟩

theorem inB_iff (bs : List ByteArray) (block : Int) : inB bs block = true ↔ 0 ≤ block ∧ block < bs.length := by simp [inB]
theorem locE_none {vs : List Vl} {vol block : Int} (h : hasAt vs vol = false) : locE vs vol block = 8 ∧ locI vs vol block = 0 := by
  have e : locE vs vol block = 8 := by unfold locE; rw [if_neg (by simp [h])]
  exact ⟨e, by unfold locI; rw [e]; rfl⟩
theorem locE_some {vs : List Vl} {vol block : Int} {v : Vl} (h : hasAt vs vol = true) (hv : vs[findAt vs vol]? = some v) :
    locE vs vol block = (if inB v.2 block = true then 0 else 10) ∧ locI vs vol block = (if inB v.2 block = true then findAt vs vol else 0) := by
  have e : locE vs vol block = (if inB v.2 block = true then 0 else 10) := by
    unfold locE; rw [if_pos h, List.getD_eq_getElem?_getD, hv]; rfl
  refine ⟨e, ?_⟩
  unfold locI
  rw [e]
  by_cases h2 : inB v.2 block = true <;> simp [h2]

set_option maxHeartbeats 800000 in
theorem locate_any {w : World} {A : Option Addr} {c : Nat} {vs : List Vl} (h : VolsAt w w.heap.size A vs) (hl : vs.length ≤ 9223372036854775807) (vol block : Int) :
    Calls Try.prog 56 #[.slice A vs.length c, .int .i64 vol, .int .i64 block] w fun e w' => e = .returned (.tuple #[.int .i64 (locI vs vol block), .int .i64 (locE vs vol block)]) ∧ Below w.heap.size w w' := by
  have HV := Lib.hid h
  cases hh : hasAt vs vol with
  | false =>
    have HE := Lib.hid (locE_none (block := block) hh)
    have HH := Lib.hid hh
    rw [HE.out.1, HE.out.2]
    clear h hh
    go_enter Try.func56, Try.ntmps56
    go_wp2_with (go_at_call 47; refine (find_any HV.out hl _).mono ?_; rw [HH.out]; rintro e w1 ⟨rfl, hb⟩; replace hb := Lib.hid hb)
    go_ret2
    exact ⟨rfl, hb.out⟩
  | true =>
    have hlt := hasAt_lt hh
    obtain ⟨HE1, HE2⟩ := locE_some (block := block) hh (List.getElem?_eq_getElem hlt)
    have HH := Lib.hid hh
    rw [HE1, HE2]
    clear hh HE1 HE2
    have HC : Hid (∀ w1, Below w.heap.size w w1 → ∃ b off a c, A = some ⟨b, off, none⟩ ∧ w1.cell? ⟨b, off + findAt vs vol * 2 + 1, none⟩ = some (.slice a vs[findAt vs vol].2.length c)) := Lib.hid (fun w1 hb => by
      obtain ⟨b, off, a, c', hA, _, _, c2, _⟩ := h.at_ hb hlt
      exact ⟨b, off, a, c', hA, c2⟩)
    clear h
    have hI := Lib.hid (inB_iff vs[findAt vs vol].2 block)
    obtain ⟨k, hk⟩ : ∃ k, findAt vs vol = k := ⟨_, rfl⟩
    have HK := Lib.hid hk
    obtain ⟨bs, hbs⟩ : ∃ bs, vs[findAt vs vol].2 = bs := ⟨_, rfl⟩
    rw [hbs] at HC hI ⊢
    obtain ⟨m, hm⟩ : ∃ m, bs.length = m := ⟨_, rfl⟩
    rw [hm] at HC hI
    rw [hk] at HC hlt ⊢
    clear hbs hk hm
    obtain ⟨n, hn⟩ : ∃ n, vs.length = n := ⟨_, rfl⟩
    have HN := Lib.hid hn
    rw [hn] at hlt hl ⊢
    clear hn
    have HFC : Hid (∀ (c : Nat), Calls Try.prog 47 #[.slice A n c, .int .i64 vol] w fun e w' => e = .returned (.tuple #[.int .i64 k, .bool true]) ∧ Below w.heap.size w w') := Lib.hid (fun c => by
      have := find_any (c := c) HV.out (by rw [HN.out]; exact hl) vol
      rw [HN.out, HK.out, HH.out] at this
      exact this)
    by_cases h0 : 0 ≤ block
    · by_cases h1 : block < m
      · rw [if_pos (hI.out.2 ⟨h0, h1⟩), if_pos (hI.out.2 ⟨h0, h1⟩)]
        clear hI
        have h2 : decide ((m : Int) ≤ block) = false := by rw [decide_eq_false_iff_not]; omega
        have h3 : decide (block < 0) = false := by rw [decide_eq_false_iff_not]; omega
        go_enter Try.func56, Try.ntmps56
        go_wp2_with (go_at_call 47; refine (HFC.out _).mono ?_; rintro e w1 ⟨rfl, hb⟩; obtain ⟨b, off, a, c', hA, c2⟩ := HC.out w1 hb; subst hA; replace hb := Lib.hid hb)
        go_ret2
        exact ⟨rfl, hb.out⟩
      · rw [if_neg (fun h => h1 (hI.out.1 h).2), if_neg (fun h => h1 (hI.out.1 h).2)]
        clear hI
        have h2 : decide ((m : Int) ≤ block) = true := by rw [decide_eq_true_iff]; omega
        have h3 : decide (block < 0) = false := by rw [decide_eq_false_iff_not]; omega
        go_enter Try.func56, Try.ntmps56
        go_wp2_with (go_at_call 47; refine (HFC.out _).mono ?_; rintro e w1 ⟨rfl, hb⟩; obtain ⟨b, off, a, c', hA, c2⟩ := HC.out w1 hb; subst hA; replace hb := Lib.hid hb)
        go_ret2
        exact ⟨rfl, hb.out⟩
    · rw [if_neg (fun h => h0 (hI.out.1 h).1), if_neg (fun h => h0 (hI.out.1 h).1)]
      clear hI
      have h3 : decide (block < 0) = true := by rw [decide_eq_true_iff]; omega
      go_enter Try.func56, Try.ntmps56
      go_wp2_with (go_at_call 47; refine (HFC.out _).mono ?_; rintro e w1 ⟨rfl, hb⟩; replace hb := Lib.hid hb)
      go_ret2
      exact ⟨rfl, hb.out⟩
end Go.Proofs.Ytpmllckfijfehaa
