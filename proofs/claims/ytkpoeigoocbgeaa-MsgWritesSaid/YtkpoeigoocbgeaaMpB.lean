/- Contracts of the small tests of the package msg: isLine, isAnchor, areSizes, isWrong, areWrites, areNums, flag, and of slices.IndexFunc, ContainsFunc of writes and of numbers. -/
import Derived.Test.YtkpoeigoocbgeaaMpA
import Derived.Test.YtkpoeigoocbgeaaMpLine
import Derived.Test.YtkpoeigoocbgeaaMpVol
import Derived.Test.YtkpoeigoocbgeaaMpDir
namespace Go.Proofs.Ytkpoeigoocbgeaa
open Go.RowKit

theorem isLine_any {w : World} {A : Option Addr} {c : Nat} {l : List Br} (h : BrsAt w w.heap.size A l) (hl : l.length ≤ 9223372036854775807) :
    Calls Try.prog 30 #[.slice A l.length c] w fun e w' => e = .returned (.bool (lined l)) ∧ Below w.heap.size w w' := by
  have HR := Lib.hid (LnRight_any (c := c) h hl)
  cases l with
  | nil =>
    clear HR
    go_enter Try.func30, Try.ntmps30
    go_wp2_with fail
    go_ret
    exact ⟨rfl, Below.refl _ _⟩
  | cons x r =>
    have e : lined (x :: r) = lineOk (x :: r) := rfl
    rw [e]
    generalize lineOk (x :: r) = q at HR ⊢
    have hz : (((x :: r).length : Int) == 0) = false := by rw [beq_eq_false_iff_ne]; simp; omega
    generalize (x :: r).length = n at HR hz hl ⊢
    clear e h
    go_enter Try.func30, Try.ntmps30
    go_wp2_with (go_at_call 64; (with_reducible refine HR.out.mono ?_); rintro e w1 ⟨rfl, hb⟩; have HB := Lib.hid hb; clear hb)
    go_ret
    exact ⟨rfl, HB.out⟩

set_option maxHeartbeats 1000000 in
theorem isAnchor_any {w : World} {A : Option Addr} {c : Nat} {l : List Br} {q : Int} (h : BrsAt w w.heap.size A l) (hl : l.length ≤ 9223372036854775807) :
    Calls Try.prog 52 #[.agg #[.slice A l.length c, .int .i64 q]] w fun e w' => e = .returned (.bool (noneB l q || placedB l q)) ∧ Below w.heap.size w w' := by
  have hb0 := below_one w (.cells #[.slice A l.length c, .int .i64 q] 46)
  have HB0 := Lib.hid hb0
  have HP := Lib.hid (Placed_any (c := c) (q := q) (h.next hb0) hl)
  have hn := noneB_iff l q
  obtain ⟨b1, hb1⟩ : ∃ b, noneB l q = b := ⟨_, rfl⟩
  obtain ⟨b2, hb2⟩ : ∃ b, placedB l q = b := ⟨_, rfl⟩
  rw [hb1] at hn ⊢
  rw [hb2] at HP ⊢
  obtain ⟨n, hnn⟩ : ∃ n, l.length = n := ⟨_, rfl⟩
  rw [hnn] at hn HP HB0 ⊢
  have HI := Lib.hid hn
  clear h hl hb0 hb1 hb2 hnn hn
  by_cases h0 : n = 0
  · subst h0
    by_cases h1 : q = 0
    · subst h1
      have HE : Hid (b1 = true) := Lib.hid (HI.out.2 ⟨rfl, rfl⟩)
      go_enter Try.func52, Try.ntmps52
      go_wp2_with fail
      go_ret
      rw [HE.out]
      exact ⟨rfl, HB0.out⟩
    · have HE : Hid (b1 = false) := Lib.hid (by cases b1 with | false => rfl | true => exact absurd (HI.out.1 rfl).2 h1)
      have h2 : (q == 0) = false := beq_eq_false_iff_ne.2 h1
      go_enter Try.func52, Try.ntmps52
      go_wp2_with (go_at_call 83; (with_reducible refine HP.out.mono ?_); rintro e w1 ⟨rfl, hb⟩; have HB := Lib.hid hb; clear hb)
      go_ret
      rw [HE.out]
      exact ⟨rfl, below_next HB0.out HB.out⟩
  · have HE : Hid (b1 = false) := Lib.hid (by cases b1 with | false => rfl | true => exact absurd (HI.out.1 rfl).1 h0)
    have h2 : ((n : Int) == 0) = false := beq_eq_false_iff_ne.2 (by omega)
    have h3 : ¬ (n : Int) = 0 := by omega
    go_enter Try.func52, Try.ntmps52
    go_wp2_with (go_at_call 83; (with_reducible refine HP.out.mono ?_); rintro e w1 ⟨rfl, hb⟩; have HB := Lib.hid hb; clear hb)
    go_ret
    rw [HE.out]
    exact ⟨rfl, below_next HB0.out HB.out⟩

theorem areSizes_any {w : World} {A : Option Addr} {c : Nat} {l : List Int} (h : Lies w w.heap.size A (l.map (Value.int .i64))) (hl : l.length ≤ 9223372036854775807) :
    Calls Try.prog 54 #[.slice A l.length c] w fun e w' => e = .returned (.bool (blankOk l)) ∧ Below w.heap.size w w' := by
  have HB := Lib.hid (Blank_any (c := c) h hl)
  unfold VolsEnd blankEr at HB
  generalize blankVs l = vs at HB
  obtain ⟨n, hn⟩ : ∃ n, l.length = n := ⟨_, rfl⟩
  rw [hn] at HB ⊢
  clear h hn
  cases hq : blankOk l with
  | true =>
    rw [hq] at HB
    go_enter Try.func54, Try.ntmps54
    go_wp2_with (go_at_call 84; (with_reducible refine HB.out.mono ?_); rintro e w1 ⟨A2, c2, rfl, _, hb⟩; have HB2 := Lib.hid hb; clear hb)
    go_ret
    exact ⟨rfl, HB2.out⟩
  | false =>
    rw [hq] at HB
    go_enter Try.func54, Try.ntmps54
    go_wp2_with (go_at_call 84; (with_reducible refine HB.out.mono ?_); rintro e w1 ⟨A2, c2, rfl, _, hb⟩; have HB2 := Lib.hid hb; clear hb)
    go_ret
    exact ⟨rfl, HB2.out⟩

set_option maxHeartbeats 1000000 in
theorem isWrong17_any (v b : Int) (d : ByteArray) (w : World) :
    Calls Try.prog 74 #[.agg #[.int .i64 v, .int .i64 b, .string d]] w fun e w' => e = .returned (.bool (!mayW ⟨v, b, d⟩)) ∧ Below w.heap.size w w' := by
  have hb0 := below_one w (.cells #[.int .i64 v, .int .i64 b, .string d] 65)
  have HB0 := Lib.hid hb0
  have hm := mayW_iff ⟨v, b, d⟩
  dsimp only at hm
  obtain ⟨q, hq⟩ : ∃ q, mayW ⟨v, b, d⟩ = q := ⟨_, rfl⟩
  rw [hq] at hm ⊢
  have HI := Lib.hid hm
  clear hb0 hq hm
  by_cases h1 : v < 1
  · have HE : Hid (q = false) := Lib.hid (by cases q with | false => rfl | true => have := HI.out.1 rfl; omega)
    go_enter Try.func74, Try.ntmps74
    go_wp2_with fail
    go_ret
    rw [HE.out]
    exact ⟨rfl, HB0.out⟩
  by_cases h2 : 255 < v
  · have HE : Hid (q = false) := Lib.hid (by cases q with | false => rfl | true => have := HI.out.1 rfl; omega)
    go_enter Try.func74, Try.ntmps74
    go_wp2_with fail
    go_ret
    rw [HE.out]
    exact ⟨rfl, HB0.out⟩
  by_cases h3 : b < 0
  · have HE : Hid (q = false) := Lib.hid (by cases q with | false => rfl | true => have := HI.out.1 rfl; omega)
    go_enter Try.func74, Try.ntmps74
    go_wp2_with fail
    go_ret
    rw [HE.out]
    exact ⟨rfl, HB0.out⟩
  by_cases h4 : 32 ≤ b
  · have HE : Hid (q = false) := Lib.hid (by cases q with | false => rfl | true => have := HI.out.1 rfl; omega)
    go_enter Try.func74, Try.ntmps74
    go_wp2_with fail
    go_ret
    rw [HE.out]
    exact ⟨rfl, HB0.out⟩
  by_cases h5 : 8 < d.size
  · have HE : Hid (q = false) := Lib.hid (by cases q with | false => rfl | true => have := HI.out.1 rfl; omega)
    have h5' : (8 : Int) < (d.size : Int) := by omega
    go_enter Try.func74, Try.ntmps74
    go_wp2_with fail
    go_ret
    rw [HE.out]
    exact ⟨rfl, HB0.out⟩
  · have HE : Hid (q = true) := Lib.hid (HI.out.2 (by omega))
    have h5' : ¬ (8 : Int) < (d.size : Int) := by omega
    go_enter Try.func74, Try.ntmps74
    go_wp2_with fail
    go_ret
    rw [HE.out]
    exact ⟨rfl, HB0.out⟩

/-- The first of a list that is not as it should be, or -1. -/
def IdxM (ok : Bool) (w : World) (e : Ending) (w' : World) : Prop := ∃ k : Int, e = .returned (.int .i64 k) ∧ -1 ≤ k ∧ (0 ≤ k ↔ ok = false) ∧ Below w.heap.size w w'
theorem idxM_some {ok : Bool} {w w' : World} {k : Nat} (h : ok = false) (hb : Below w.heap.size w w') : IdxM ok w (.returned (.int .i64 k)) w' :=
  ⟨k, rfl, by omega, ⟨fun _ => h, fun _ => by omega⟩, hb⟩
theorem idxM_none {ok : Bool} {w w' : World} (h : ok = true) (hb : Below w.heap.size w w') : IdxM ok w (.returned (.int .i64 (-1))) w' :=
  ⟨-1, rfl, by omega, ⟨fun h => by omega, fun h' => by rw [h] at h'; exact absurd h' (by simp)⟩, hb⟩
theorem all_false17 {α : Type} {f : α → Bool} {l : List α} {x : α} (h : x ∈ l) (hx : f x = false) : l.all f = false := by
  rw [Bool.eq_false_iff]; intro e; rw [List.all_eq_true.1 e x h] at hx; cases hx

set_option maxHeartbeats 1000000 in
set_option maxRecDepth 100000 in
theorem MIndexW_any {w : World} {A : Option Addr} {c : Nat} {ws : List Wr} (h : WrsAt w w.heap.size A ws) (hl : ws.length ≤ 9223372036854775807) :
    Calls Try.prog 91 #[.slice A ws.length c, .func (.func 74) #[] #[]] w (IdxM (ws.all mayW) w) := by
  have HW := Lib.hid h
  obtain ⟨n, hn⟩ : ∃ n, ws.length = n := ⟨_, rfl⟩
  have HN := Lib.hid hn
  rw [hn] at hl ⊢
  clear h hn
  go_enter Try.func91, Try.ntmps91
  go_wp2_with fail
  go_loopw [5, 8] (fun _ i wr => ∃ k : Nat, k ≤ n ∧ i = .int .i64 k ∧ Hid ((ws.take k).all mayW = true) ∧ Hid (Below w.heap.size w wr)) (fun _ i _ => n - (intOf i).toNat)
  case atStart => exact ⟨0, Nat.zero_le _, rfl, Lib.hid (by simp), Lib.hid (Below.refl _ _)⟩
  case round =>
    obtain ⟨k, hk, rfl, HK, HB⟩ := hrel
    by_cases hlt : k < n
    · have hkl : k < ws.length := by rw [HN.out]; exact hlt
      obtain ⟨bb, off, rfl, hbl, hcs⟩ := HW.out.at_ HB.out hkl
      obtain ⟨x0, x1, x2⟩ := hcs
      have HM : Hid (ws[k] ∈ ws) := Lib.hid (List.getElem_mem hkl)
      have HT := Lib.hid (List.take_succ_eq_append_getElem hkl)
      obtain ⟨p, hp⟩ : ∃ p, ws[k] = p := ⟨_, rfl⟩
      rw [hp] at x0 x1 x2 HM HT
      obtain ⟨v, b, d⟩ := p
      dsimp only at x0 x1 x2
      have HR := Lib.hid (fun w => isWrong17_any v b d w)
      have hkn2 : (k : Int) < (n : Int) := by omega
      have hk0 : (0 : Int) ≤ (k : Int) := by omega
      clear hp hkl
      cases hq : mayW ⟨v, b, d⟩ with
      | true =>
        rw [hq] at HR
        have HQ := Lib.hid hq
        clear hq
        go_wp2_with (go_at_call 74; refine (HR.out _).mono ?_; rintro e w2 ⟨rfl, hb2⟩; have HB2 := Lib.hid hb2; clear hb2)
        go_roundw
        case rel => exact ⟨k + 1, by omega, by go_num, Lib.hid (by rw [HT.out, List.all_append, HK.out]; simp [HQ.out]), Lib.hid (below_next HB.out HB2.out)⟩
        case measure => simp [intOf]; omega
      | false =>
        rw [hq] at HR
        have HQ := Lib.hid hq
        clear hq
        go_wp2_with (go_at_call 74; refine (HR.out _).mono ?_; rintro e w2 ⟨rfl, hb2⟩; have HB2 := Lib.hid hb2; clear hb2)
        go_ret
        exact idxM_some (all_false17 HM.out HQ.out) (below_next HB.out HB2.out)
    · have HE : Hid (ws.all mayW = true) := Lib.hid (by have := HK.out; rwa [List.take_of_length_le (by rw [HN.out]; omega)] at this)
      have hkn2 : ¬ (k : Int) < (n : Int) := by omega
      go_wp2_with fail
      go_ret
      exact idxM_none HE.out HB.out

theorem MContainsW_any {w : World} {A : Option Addr} {c : Nat} {ws : List Wr} (h : WrsAt w w.heap.size A ws) (hl : ws.length ≤ 9223372036854775807) :
    Calls Try.prog 73 #[.slice A ws.length c, .func (.func 74) #[] #[]] w fun e w' => e = .returned (.bool (!ws.all mayW)) ∧ Below w.heap.size w w' := by
  have HI := Lib.hid (MIndexW_any (c := c) h hl)
  unfold IdxM at HI
  clear h
  go_enter Try.func73, Try.ntmps73
  cases hq : ws.all mayW with
  | true =>
    rw [hq] at HI
    clear hq
    go_wp2_with (go_at_call 91; refine HI.out.mono ?_; rintro e w2 ⟨k, rfl, hk, hi, hb2⟩; have h0 : decide (0 ≤ k) = false := (by rw [decide_eq_false_iff_not]; intro h0; exact absurd (hi.1 h0) (by simp)); have HB2 := Lib.hid hb2; clear hi hb2)
    go_ret
    exact ⟨rfl, HB2.out⟩
  | false =>
    rw [hq] at HI
    clear hq
    go_wp2_with (go_at_call 91; refine HI.out.mono ?_; rintro e w2 ⟨k, rfl, hk, hi, hb2⟩; have h0 : decide (0 ≤ k) = true := (by rw [decide_eq_true_iff]; exact hi.2 rfl); have HB2 := Lib.hid hb2; clear hi hb2)
    go_ret
    exact ⟨rfl, HB2.out⟩

theorem writable_is {ws : List Wr} : writable ws = (decide (ws.length ≤ 128) && (eqW ws (foldW ws) && ws.all mayW)) := by
  rw [Bool.eq_iff_iff, writable_iff, Bool.and_eq_true, Bool.and_eq_true, decide_eq_true_iff, List.all_eq_true]
  unfold Writable
  constructor
  · rintro ⟨h1, h2, h3⟩
    exact ⟨h1, by rw [← h2]; exact eqW_self ws, h3⟩
  · rintro ⟨h1, h2, h3⟩
    refine ⟨h1, ?_, h3⟩
    rcases Classical.em (ws = foldW ws) with h | h
    · exact h
    · rw [eqW_ne h] at h2; cases h2

set_option maxHeartbeats 1000000 in
theorem areWrites_any {w : World} {A : Option Addr} {c : Nat} {ws : List Wr} (h : WrsAt w w.heap.size A ws) (hl : ws.length ≤ 9223372036854775807) :
    Calls Try.prog 39 #[.slice A ws.length c] w fun e w' => e = .returned (.bool (writable ws)) ∧ Below w.heap.size w w' := by
  rw [writable_is]
  by_cases h1 : ws.length ≤ 128
  case neg =>
    rw [decide_eq_false h1, Bool.false_and]
    obtain ⟨n, hn⟩ : ∃ n, ws.length = n := ⟨_, rfl⟩
    rw [hn] at h1 ⊢
    have h1' : ¬ (n : Int) ≤ 128 := by omega
    clear h hl hn
    go_enter Try.func39, Try.ntmps39
    go_wp2_with fail
    go_ret
    exact ⟨rfl, Below.refl _ _⟩
  rw [decide_eq_true h1, Bool.true_and]
  have HF := Lib.hid (Folded_any (c := c) h (by omega))
  have HC := Lib.hid (fun W (hb : Below w.heap.size w W) => MContainsW_any (c := c) (h.next hb) hl)
  generalize ws.all mayW = q at HC ⊢
  generalize eqW ws (foldW ws) = p at HF ⊢
  obtain ⟨n, hn⟩ : ∃ n, ws.length = n := ⟨_, rfl⟩
  rw [hn] at h1 HF HC ⊢
  have h1' : (n : Int) ≤ 128 := by omega
  clear h hl hn
  cases p with
  | false =>
    go_enter Try.func39, Try.ntmps39
    go_wp2_with (go_at_call 72; (with_reducible refine HF.out.mono ?_); rintro e w1 ⟨rfl, hb⟩; have HB := Lib.hid hb; clear hb)
    go_ret
    exact ⟨rfl, HB.out⟩
  | true =>
    go_enter Try.func39, Try.ntmps39
    go_wp2_with (first
      | (go_at_call 72; (with_reducible refine HF.out.mono ?_); rintro e w1 ⟨rfl, hb⟩; have HB := Lib.hid hb; clear hb)
      | (go_at_call 73; (with_reducible refine (HC.out _ HB.out).mono ?_); rintro e w2 ⟨rfl, hb⟩; have HB2 := Lib.hid (below_next HB.out hb); clear hb))
    go_ret
    exact ⟨by cases q <;> rfl, HB2.out⟩

theorem areNum1_any (n : Int) (w : World) : Calls Try.prog 82 #[.int .i64 n] w fun e w' => e = .returned (.bool (!fitB n)) ∧ w = w' := by
  have hf := fitB_iff n
  obtain ⟨q, hq⟩ : ∃ q, fitB n = q := ⟨_, rfl⟩
  rw [hq] at hf ⊢
  have HI := Lib.hid hf
  clear hf hq
  by_cases h1 : n < 0
  · have HE : Hid (q = false) := Lib.hid (by cases q with | false => rfl | true => have := HI.out.1 rfl; omega)
    go_enter Try.func82, Try.ntmps82
    go_wp2_with fail
    go_ret
    rw [HE.out]
    exact ⟨rfl, rfl⟩
  by_cases h2 : 1099511627776 < n
  · have HE : Hid (q = false) := Lib.hid (by cases q with | false => rfl | true => have := HI.out.1 rfl; omega)
    go_enter Try.func82, Try.ntmps82
    go_wp2_with fail
    go_ret
    rw [HE.out]
    exact ⟨rfl, rfl⟩
  · have HE : Hid (q = true) := Lib.hid (HI.out.2 (by omega))
    go_enter Try.func82, Try.ntmps82
    go_wp2_with fail
    go_ret
    rw [HE.out]
    exact ⟨rfl, rfl⟩

set_option maxHeartbeats 1000000 in
set_option maxRecDepth 100000 in
theorem MIndexN_any {w : World} {A : Option Addr} {c : Nat} {l : List Int} (h : Lies w w.heap.size A (l.map (Value.int .i64))) (hl : l.length ≤ 9223372036854775807) :
    Calls Try.prog 92 #[.slice A l.length c, .func (.func 82) #[] #[]] w (IdxM (l.all fitB) w) := by
  have HW := Lib.hid h
  obtain ⟨n, hn⟩ : ∃ n, l.length = n := ⟨_, rfl⟩
  have HN := Lib.hid hn
  rw [hn] at hl ⊢
  clear h hn
  go_enter Try.func92, Try.ntmps92
  go_wp2_with fail
  go_loopw [5, 8] (fun _ i wr => ∃ k : Nat, k ≤ n ∧ i = .int .i64 k ∧ Hid ((l.take k).all fitB = true) ∧ Hid (Below w.heap.size w wr)) (fun _ i _ => n - (intOf i).toNat)
  case atStart => exact ⟨0, Nat.zero_le _, rfl, Lib.hid (by simp), Lib.hid (Below.refl _ _)⟩
  case round =>
    obtain ⟨k, hk, rfl, HK, HB⟩ := hrel
    by_cases hlt : k < n
    · have hkl : k < l.length := by rw [HN.out]; exact hlt
      obtain ⟨bb, off, rfl, hbl, x0⟩ := HW.out.numB HB.out (k := k) hkl
      have hgd : l.getD k 0 = l[k] := by rw [List.getD_eq_getElem?_getD, List.getElem?_eq_getElem hkl]; rfl
      rw [hgd] at x0
      have HM : Hid (l[k] ∈ l) := Lib.hid (List.getElem_mem hkl)
      have HT := Lib.hid (List.take_succ_eq_append_getElem hkl)
      obtain ⟨p, hp⟩ : ∃ p, l[k] = p := ⟨_, rfl⟩
      rw [hp] at x0 HM HT
      have HR := Lib.hid (fun w => areNum1_any p w)
      have hkn2 : (k : Int) < (n : Int) := by omega
      have hk0 : (0 : Int) ≤ (k : Int) := by omega
      clear hp hkl hgd
      cases hq : fitB p with
      | true =>
        rw [hq] at HR
        have HQ := Lib.hid hq
        clear hq
        go_wp2_with (go_at_call 82; refine (HR.out _).mono ?_; rintro e w2 ⟨rfl, rfl⟩)
        go_roundw
        case rel => exact ⟨k + 1, by omega, by go_num, Lib.hid (by rw [HT.out, List.all_append, HK.out]; simp [HQ.out]), HB⟩
        case measure => simp [intOf]; omega
      | false =>
        rw [hq] at HR
        have HQ := Lib.hid hq
        clear hq
        go_wp2_with (go_at_call 82; refine (HR.out _).mono ?_; rintro e w2 ⟨rfl, rfl⟩)
        go_ret
        exact idxM_some (all_false17 HM.out HQ.out) HB.out
    · have HE : Hid (l.all fitB = true) := Lib.hid (by have := HK.out; rwa [List.take_of_length_le (by rw [HN.out]; omega)] at this)
      have hkn2 : ¬ (k : Int) < (n : Int) := by omega
      go_wp2_with fail
      go_ret
      exact idxM_none HE.out HB.out

theorem MContainsN_any {w : World} {A : Option Addr} {c : Nat} {l : List Int} (h : Lies w w.heap.size A (l.map (Value.int .i64))) (hl : l.length ≤ 9223372036854775807) :
    Calls Try.prog 81 #[.slice A l.length c, .func (.func 82) #[] #[]] w fun e w' => e = .returned (.bool (!l.all fitB)) ∧ Below w.heap.size w w' := by
  have HI := Lib.hid (MIndexN_any (c := c) h hl)
  unfold IdxM at HI
  clear h
  go_enter Try.func81, Try.ntmps81
  cases hq : l.all fitB with
  | true =>
    rw [hq] at HI
    clear hq
    go_wp2_with (go_at_call 92; refine HI.out.mono ?_; rintro e w2 ⟨k, rfl, hk, hi, hb2⟩; have h0 : decide (0 ≤ k) = false := (by rw [decide_eq_false_iff_not]; intro h0; exact absurd (hi.1 h0) (by simp)); have HB2 := Lib.hid hb2; clear hi hb2)
    go_ret
    exact ⟨rfl, HB2.out⟩
  | false =>
    rw [hq] at HI
    clear hq
    go_wp2_with (go_at_call 92; refine HI.out.mono ?_; rintro e w2 ⟨k, rfl, hk, hi, hb2⟩; have h0 : decide (0 ≤ k) = true := (by rw [decide_eq_true_iff]; exact hi.2 rfl); have HB2 := Lib.hid hb2; clear hi hb2)
    go_ret
    exact ⟨rfl, HB2.out⟩

theorem areNums_any {w : World} {A : Option Addr} {c : Nat} {l : List Int} (h : Lies w w.heap.size A (l.map (Value.int .i64))) (hl : l.length ≤ 9223372036854775807) :
    Calls Try.prog 51 #[.slice A l.length c] w fun e w' => e = .returned (.bool (l.all fitB)) ∧ Below w.heap.size w w' := by
  have HC := Lib.hid (MContainsN_any (c := c) h hl)
  generalize l.all fitB = q at HC ⊢
  clear h
  go_enter Try.func51, Try.ntmps51
  go_wp2_with (go_at_call 81; (with_reducible refine HC.out.mono ?_); rintro e w2 ⟨rfl, hb2⟩; have HB2 := Lib.hid hb2; clear hb2)
  go_ret
  exact ⟨by cases q <;> rfl, HB2.out⟩

theorem flag1_any (b : Bool) (w : World) : Calls Try.prog 45 #[.bool b] w fun e w' => e = .returned (.int .i64 (fullN b : Nat)) ∧ w = w' := by
  cases b with
  | true =>
    go_enter Try.func45, Try.ntmps45
    go_wp2_with fail
    go_ret
    exact ⟨rfl, rfl⟩
  | false =>
    go_enter Try.func45, Try.ntmps45
    go_wp2_with fail
    go_ret
    exact ⟨rfl, rfl⟩
end Go.Proofs.Ytkpoeigoocbgeaa
