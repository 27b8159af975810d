/- Contracts of the reader's functions flag and sizes, and of take over lines, bits and writes. -/
import Derived.Test.YtkpoeigoocbgeaaMpF
namespace Go.Proofs.Ytkpoeigoocbgeaa
open Go.RowKit

def rFl (s : Rd) : Rd := ((rNum 1 s).1, (rNum 1 s).2 || decide (1 < numN s.1 1))
def rSz (s : Rd) : Rd := itN szStep (tlN s.1) (rNum 1 s)
def vSz (s : Rd) : List Int := elN szEl szStep (tlN s.1) (rNum 1 s)
def vLn (r : List UInt8) : List Br := if lnOk r = true then lnL r else []
def rLn (s : Rd) : Rd := (if lnOk s.1 = true then lnR s.1 else [], s.2 || !lnOk s.1)
def rBt (s : Rd) : Rd := (parR s.1, s.2 || decide (parE s.1 ≠ 0))
theorem vSz_length (s : Rd) : (vSz s).length = tlN s.1 := elN_length _ _ _ _
theorem szStep_le (s : Rd) : (szStep s).1.length ≤ s.1.length := rNum_le _ _
theorem rSz_le (s : Rd) : (rSz s).1.length ≤ s.1.length := Nat.le_trans (itN_le szStep_le _ _) (rNum_le _ _)
theorem rFl_le (s : Rd) : (rFl s).1.length ≤ s.1.length := rNum_le _ _
theorem lnR_le17 (r : List UInt8) : (lnR r).length ≤ r.length := by unfold lnR; rw [List.length_drop]; omega
theorem rLn_le (s : Rd) : (rLn s).1.length ≤ s.1.length := by
  unfold rLn
  dsimp only
  split
  · exact lnR_le17 _
  · simp
theorem rBt_le (s : Rd) : (rBt s).1.length ≤ s.1.length := parR_le _

set_option maxHeartbeats 1000000 in
theorem flag_any17 {w : World} {H : Nat} {s : Rd} (hr : RdAt w H s) (hs : s.1.length ≤ 9223372036854775807) :
    Calls Try.prog 56 #[.pointer (some ⟨H, 0, none⟩)] w (RdEnd H (rFl s) (.bool (decide (numN s.1 1 = 1))) w) := by
  have HN := Lib.hid (number_any17 hr hs 1)
  obtain ⟨n, hn⟩ : ∃ n, numN s.1 1 = n := ⟨_, rfl⟩
  have HF : Hid (rFl s = ((rNum 1 s).1, (rNum 1 s).2 || decide (1 < n))) := Lib.hid (by unfold rFl; rw [hn])
  rw [HF.out, hn]
  rw [hn] at HN
  obtain ⟨t, ht⟩ : ∃ t, rNum 1 s = t := ⟨_, rfl⟩
  rw [ht] at HN ⊢
  obtain ⟨r, b⟩ := t
  dsimp only at HN ⊢
  obtain ⟨d, hd⟩ : ∃ d, decide (n = 1) = d := ⟨_, rfl⟩
  obtain ⟨k, hk⟩ : ∃ k, (b || decide (1 < n)) = k := ⟨_, rfl⟩
  rw [hd, hk]
  have HD := Lib.hid hd
  have HK := Lib.hid hk
  clear hr hn ht HF hd hk
  go_enter Try.func56, Try.ntmps56
  go_upto_region 2 with (go_at_call 37; (with_reducible refine HN.out.mono ?_); rintro e w1 ⟨rfl, hr1, hb1, hc1⟩; have HR1 := Lib.hid hr1; have HB1 := Lib.hid hb1; have HC1 := Lib.hid hc1; clear hr1 hb1 hc1)
  have d1 := HR1.out.c1
  have f1 := HR1.out.fz 1
  dsimp only at d1
  have HE : Hid (∀ b2 d2, b2 = k → d2 = d → RdEnd H (r, k) (.bool d) w (.returned (.bool d2)) (w1.setCell ⟨H, 1, none⟩ (.bool b2))) := Lib.hid (fun b2 d2 hb2 hd2 => by
    subst hb2 hd2
    exact ⟨rfl, row_set HR1.out 1 _, HB1.out.set 1 _, HC1.out.setCell (Nat.le_refl _) _⟩)
  cases b with
  | true =>
    by_cases h1 : n = 1
    · subst h1
      go_wp2_with fail
      go_ret
      exact HE.out _ _ HK.out HD.out
    · have q : (n == 1) = false := beq_eq_false_iff_ne.2 h1
      rw [decide_eq_false h1] at HD
      clear h1
      go_wp2_with fail
      go_ret
      exact HE.out _ _ HK.out HD.out
  | false =>
    by_cases h1 : n = 1
    · subst h1
      go_wp2_with fail
      go_ret
      exact HE.out _ _ HK.out HD.out
    · have q : (n == 1) = false := beq_eq_false_iff_ne.2 h1
      rw [decide_eq_false h1] at HD
      clear h1
      by_cases h2 : 1 < n
      · rw [decide_eq_true h2] at HK
        go_wp2_with fail
        go_ret
        exact HE.out _ _ HK.out HD.out
      · rw [decide_eq_false h2] at HK
        go_wp2_with fail
        go_ret
        exact HE.out _ _ HK.out HD.out

/-- What the reader answers of a list: where it lies, that it is new, what is left. -/
def RdRow (H : Nat) (s' : Rd) (At : World → Option Addr → Prop) (n : Nat) (w : World) (e : Ending) (w' : World) : Prop :=
  ∃ A c, e = .returned (.slice A n c) ∧ At w' A ∧ (∀ b off, A = some ⟨b, off, none⟩ → w.heap.size ≤ b) ∧ RdAt w' H s' ∧ ButH H w w' ∧ Below H w w'

set_option maxHeartbeats 4000000 in
set_option maxRecDepth 100000 in
theorem sizes_any17 {w : World} {H : Nat} {s : Rd} (hr : RdAt w H s) (hs : s.1.length ≤ 9223372036854775807) :
    Calls Try.prog 59 #[.pointer (some ⟨H, 0, none⟩)] w (RdRow H (rSz s) (fun w' A => Lies w' w'.heap.size A ((vSz s).map (Value.int .i64))) (vSz s).length w) := by
  have hlt := hr.lt
  have HN1 := Lib.hid (number_any17 hr hs 1)
  have HNm := Lib.hid (fun (W : World) (t : Rd) (h : RdAt W H t) (hl : t.1.length ≤ 9223372036854775807) => number_any17 h hl 1)
  have HLe : Hid (∀ j, (itN szStep j (rNum 1 s)).1.length ≤ 9223372036854775807) := Lib.hid (fun j => Nat.le_trans (Nat.le_trans (itN_le szStep_le j _) (rNum_le _ _)) hs)
  have HIs := Lib.hid (fun j => itN_succ szStep j (rNum 1 s))
  have HEs := Lib.hid (fun j => elN_succ szEl szStep j (rNum 1 s))
  rw [vSz_length]
  unfold rSz vSz
  have hnn : numN s.1 1 = (tlN s.1 : Int) := by have := numN_bound s.1 1; unfold tlN; omega
  rw [hnn] at HN1
  have hn256 := tlN_lt s.1
  obtain ⟨n, hn⟩ : ∃ n, tlN s.1 = n := ⟨_, rfl⟩
  rw [hn] at HN1 hn256 ⊢
  obtain ⟨st, hst⟩ : ∃ st, rNum 1 s = st := ⟨_, rfl⟩
  rw [hst] at HN1 HLe HIs HEs ⊢
  obtain ⟨i0, hi0, hz0, hz1, hz2⟩ := info_parts Try.infoI17
  clear hr hnn hn hst hs
  go_enter Try.func59, Try.ntmps59
  go_upto_region 3 with (go_at_call 37; (with_reducible refine HN1.out.mono ?_); rintro e w2 ⟨rfl, hr2, hb2, hc2⟩; have HR2 := Lib.hid hr2; have HB2 := Lib.hid hb2; have HC2 := Lib.hid hc2; clear hr2 hb2 hc2)
  go_loopw [3, 6] (fun v i wr => ∃ (j : Nat) (A' : Option Addr) (c' : Nat), j ≤ n ∧ i = .int .i64 j ∧ v = .slice A' j c' ∧ Hid (RdAt wr H (itN szStep j st)) ∧ Hid (wr.ownsRow w.heap.size 3 1 (.slice A' j c') j ((elN szEl szStep j st).map (Value.int .i64))) ∧ Hid (ButH H w wr) ∧ Hid (Below H w wr)) (fun _ i _ => n - (intOf i).toNat)
  case atStart => exact ⟨0, none, 0, by omega, rfl, rfl, HR2, Lib.hid (World.ownsRow_nil _ _ _ _), HB2, HC2⟩
  case round =>
    clear HR2 HB2 HC2
    obtain ⟨j, A', c', hj, rfl, rfl, HR, HO, HB, HC⟩ := hrel
    by_cases hjn : j < n
    · have hjn2 : (j : Int) < (n : Int) := by omega
      have HA1 := Lib.hid (HNm.out wr _ HR.out (HLe.out j))
      have HI := Lib.hid (show rNum 1 (itN szStep j st) = itN szStep (j + 1) st from (HIs.out j).symm)
      rw [HI.out] at HA1
      have HCs : Hid ((elN szEl szStep (j + 1) st).map (Value.int .i64) = (elN szEl szStep j st).map (Value.int .i64) ++ [.int .i64 (numN (itN szStep j st).1 1)]) := Lib.hid (by rw [HEs.out, List.map_append]; rfl)
      obtain ⟨n1, hn1⟩ : ∃ x, numN (itN szStep j st).1 1 = x := ⟨_, rfl⟩
      rw [hn1] at HA1 HCs
      clear hn1 HI
      go_wp2_with (first
        | (go_at_call 37; (with_reducible refine HA1.out.mono ?_); rintro e w3 ⟨rfl, hr3, hb3, hc3⟩; have HR3 := Lib.hid hr3; have HO3 := Lib.hid (own_kept17 HO.out hlt hb3); have HB3 := Lib.hid (HB.out.trans hb3); have HC3 := Lib.hid (HC.out.trans hc3); clear hr3 hb3 hc3; have HNew := Lib.hid (cell_one17 w3 (.int .i64 n1) 3); have K5 := Lib.hid (below_one w3 (.cells #[.int .i64 n1] 3)); have HO5 := Lib.hid (HO3.out.alloc (.cells #[.int .i64 n1] 3)); have HSz5 := Lib.hid (show (w3.alloc (.cells #[.int .i64 n1] 3)).heap.size = w3.heap.size + 1 by simp))
        | (at_builtin; refine wpList_append_lies _ rfl (.tmp 8) (.tmp 11) 48 rfl w.heap.size 3 i0 (.int .i64 0) 1 8 Try.underlying48 hi0 hz0 hz1 hz2 rfl (by decide) (.slice A' j c') j ((elN szEl szStep j st).map (Value.int .i64)) rfl HO5.out ⟨w3.heap.size, 0, none⟩ 1 1 [.int .i64 n1] rfl rfl HNew.out (by simp [Value.oneCell']) (by omega) ?d1 ?d2 (by rw [HSz5.out]; have := HB3.out.size; omega) _ rfl ?_))
      case d1 => unfold maxLen; omega
      case d2 => omega
      intro g cap w7 hown hg7 hgb hgs
      have hrow : ∀ q, (Value.slice A' j c').ownBlock = some q → w.heap.size ≤ q := fun q hq => (HO5.out.lt q hq).1
      have HB7 := Lib.hid (grown_but17 HB3.out K5.out hg7 hrow)
      have HC7 := Lib.hid ((HC3.out.trans (K5.out.mono (by have := HB3.out.size; omega))).grown hg7 (by have := HB3.out.size; have := K5.out.size; omega) (fun q hq => by have := hrow q hq; omega))
      have hr7 : RdAt w7 H (itN szStep (j + 1) st) := by
        unfold RdAt
        exact grown_box17 (W := w) HR3.out hlt HB3.out K5.out hg7 hrow
      have HR7 := Lib.hid hr7
      rw [← HCs.out] at hown
      have HO7 := Lib.hid hown
      clear hown hg7 hr7 hrow hgb hgs HNew K5 HO5 HB3 HO3 HR3 HC3
      go_wp2_with fail
      go_roundw
      case rel => exact ⟨j + 1, some ⟨g, 0, none⟩, cap, by omega, by go_num, rfl, HR7, HO7, HB7, HC7⟩
      case measure => simp [intOf]; omega
    · obtain rfl : j = n := by omega
      have hjn2 : ¬ (j : Int) < (j : Int) := by omega
      go_wp2_with fail
      go_ret
      obtain ⟨A9, c9, he9, _, hl9⟩ := own_lies HO.out
      have hfr := own_fresh17 HO.out
      simp only [Value.slice.injEq] at he9
      obtain ⟨rfl, _, rfl⟩ := he9
      exact ⟨A', c', rfl, hl9, hfr, HR.out, HB.out, HC.out⟩

theorem brs_but17 {H : Nat} {W W' : World} {A : Option Addr} {l : List Br} (h : BrsAt W W.heap.size A l) (hne : ∀ b off, A = some ⟨b, off, none⟩ → b ≠ H) (hk : ButH H W W') : BrsAt W' W'.heap.size A l := by
  rcases h with h | ⟨b, off, rfl, hlt, hc⟩
  · exact .inl h
  · have hn := hne b off rfl
    exact .inr ⟨b, off, rfl, Nat.lt_of_lt_of_le hlt hk.size, fun i hi => ⟨(cell_kept hk hlt hn).trans (hc i hi).1, (cell_kept hk hlt hn).trans (hc i hi).2⟩⟩
theorem bts_but17 {H : Nat} {W W' : World} {A : Option Addr} {l : List Bt} (h : BtsAt W W.heap.size A l) (hne : ∀ b off, A = some ⟨b, off, none⟩ → l ≠ [] → b ≠ H) (hk : ButH H W W') : BtsAt W' W'.heap.size A l := by
  rcases h with h | ⟨b, off, rfl, hlt, hc⟩
  · exact .inl h
  · by_cases hl : l = []
    · exact .inl hl
    · have hn := hne b off rfl hl
      exact .inr ⟨b, off, rfl, Nat.lt_of_lt_of_le hlt hk.size, fun i hi => ⟨(cell_kept hk hlt hn).trans (hc i hi).1, (cell_kept hk hlt hn).trans (hc i hi).2⟩⟩
theorem wrs_but17 {H : Nat} {W W' : World} {A : Option Addr} {ws : List Wr} (h : WrsAt W W.heap.size A ws) (hne : ∀ b off, A = some ⟨b, off, none⟩ → b ≠ H) (hk : ButH H W W') : WrsAt W' W'.heap.size A ws := by
  rcases h with h | ⟨b, off, rfl, hlt, hc⟩
  · exact .inl h
  · have hn := hne b off rfl
    exact .inr ⟨b, off, rfl, Nat.lt_of_lt_of_le hlt hk.size, fun i hi => (hc i hi).imp (fun h => (cell_kept hk hlt hn).trans h) (fun h => h.imp (fun h => (cell_kept hk hlt hn).trans h) (fun h => (cell_kept hk hlt hn).trans h))⟩
theorem lies_but17 {H : Nat} {W W' : World} {A : Option Addr} {cs : List Value} (h : Lies W W.heap.size A cs) (hne : ∀ b off, A = some ⟨b, off, none⟩ → b ≠ H) (hk : ButH H W W') : Lies W' W'.heap.size A cs := by
  rcases h with h | ⟨b, off, rfl, hlt, hc⟩
  · exact .inl h
  · have hn := hne b off rfl
    exact .inr ⟨b, off, rfl, Nat.lt_of_lt_of_le hlt hk.size, fun i hi => (cell_kept hk hlt hn).trans (hc i hi)⟩
theorem but_sets17 (H : Nat) (w : World) (u v : Value) : ButH H w ((w.setCell ⟨H, 0, none⟩ u).setCell ⟨H, 1, none⟩ v) := ((ButH.refl H w).set 0 _).set 1 _

theorem takeLn_any {w : World} {H : Nat} {s : Rd} (hr : RdAt w H s) (hs : s.1.length ≤ 9223372036854775807) :
    Calls Try.prog 55 #[.pointer (some ⟨H, 0, none⟩), .func (.func 13) #[] #[]] w (RdRow H (rLn s) (fun w' A => BrsAt w' w'.heap.size A (vLn s.1)) (vLn s.1).length w) := by
  refine (takeBr_gen hr (Post := fun v R E w1 => R = (rLn s).1 ∧ (s.2 || decide (E ≠ 0)) = (rLn s).2 ∧ ∃ A c, v = .slice A (vLn s.1).length c ∧ BrsAt w1 w1.heap.size A (vLn s.1) ∧ ∀ b off, A = some ⟨b, off, none⟩ → w.heap.size < b) ?_).mono ?_
  · refine (takeLineF_any s.1 w hs).mono ?_
    rintro e w1 (⟨h, A, c, rfl, h1, h2, h3⟩ | ⟨h, rfl, h3⟩)
    · have e1 : vLn s.1 = lnL s.1 := by unfold vLn; rw [h]; rfl
      have e2 : rLn s = (lnR s.1, s.2) := by unfold rLn; rw [h]; simp
      exact ⟨_, _, _, rfl, ⟨by rw [e2], by rw [e2]; simp, A, c, by rw [e1], by rw [e1]; exact h1, h2⟩, h3⟩
    · have e1 : vLn s.1 = [] := by unfold vLn; rw [h]; rfl
      have e2 : rLn s = ([], true) := by unfold rLn; rw [h]; simp
      exact ⟨_, _, _, rfl, ⟨by rw [e2], by rw [e2]; simp, none, 0, by rw [e1]; rfl, by rw [e1]; exact .inl rfl, fun b off hA => by cases hA⟩, h3⟩
  · rintro e w' ⟨v, R, E, w1, rfl, ⟨h1, h2, A, c, rfl, h4, h5⟩, hb, hr1, hw⟩
    have hR := TakeEnd.rd hr1 hw
    rw [h2, h1] at hR
    refine ⟨A, c, rfl, ?_, fun b off hA => Nat.le_of_lt (h5 b off hA), hR, TakeEnd.but hb hw, TakeEnd.bel (Nat.le_of_lt hr.lt) hb hw⟩
    subst hw
    exact brs_but17 h4 (fun b off hA => by have := h5 b off hA; have := hr.lt; omega) (but_sets17 H w1 _ _)

theorem takeBt_any {w : World} {H : Nat} {s : Rd} (hr : RdAt w H s) (hs : s.1.length ≤ 9223372036854775807) :
    Calls Try.prog 57 #[.pointer (some ⟨H, 0, none⟩), .func (.func 58) #[] #[]] w fun e w' =>
      ∃ A c, e = .returned (.slice A (parM s.1).length c) ∧ BtsAt w' w'.heap.size A (parM s.1) ∧ RdAt w' H (rBt s) ∧ ButH H w w' ∧ Below H w w' := by
  refine (takeBt_gen hr (Post := fun v R E w1 => R = parR s.1 ∧ E = parE s.1 ∧ ∃ A c, v = .slice A (parM s.1).length c ∧ BtsAt w1 w1.heap.size A (parM s.1)) ?_).mono ?_
  · refine (DirParse_any s.1 w hs).mono ?_
    rintro e w1 ⟨A, c, rfl, h1, h2⟩
    exact ⟨_, _, _, rfl, ⟨rfl, rfl, A, c, rfl, h1⟩, h2⟩
  · rintro e w' ⟨v, R, E, w1, rfl, ⟨rfl, rfl, A, c, rfl, h4⟩, hb, hr1, hw⟩
    refine ⟨A, c, rfl, ?_, TakeEnd.rd hr1 hw, TakeEnd.but hb hw, TakeEnd.bel (Nat.le_of_lt hr.lt) hb hw⟩
    subst hw
    refine bts_but17 h4 (fun b off hA hl => ?_) (but_sets17 H w1 _ _)
    rintro rfl
    rcases h4 with h | ⟨b', off', hA', _, hc⟩
    · exact hl h
    · rw [hA'] at hA
      simp only [Option.some.injEq, Addr.mk.injEq, and_true] at hA
      obtain ⟨rfl, rfl⟩ := hA
      have h1 := (hc 0 (List.length_pos_iff.2 hl)).1
      unfold RdAt at hr1
      rw [Lib.cell_of_heap hr1] at h1
      rcases off' with _ | _ | k <;> simp at h1

theorem takeWr_any {w : World} {H : Nat} {s : Rd} (hr : RdAt w H s) (hs : s.1.length ≤ 9223372036854775807) :
    Calls Try.prog 60 #[.pointer (some ⟨H, 0, none⟩), .func (.func 19) #[] #[]] w fun e w' =>
      (∃ ws rest, wsAt s.1 = some (ws, rest) ∧ writable ws = true ∧ RdRow H (rest, s.2) (fun w' A => WrsAt w' w'.heap.size A ws) ws.length w e w') ∨
      ((∀ ws rest, wsAt s.1 = some (ws, rest) → writable ws = false) ∧ RdRow H ([], true) (fun _ _ => True) 0 w e w') := by
  refine (takeWr_gen hr (Post := fun v R E w1 => (∃ ws A c, wsAt s.1 = some (ws, R) ∧ writable ws = true ∧ E = 0 ∧ v = .slice A ws.length c ∧ WrsAt w1 w1.heap.size A ws ∧ ∀ b off, A = some ⟨b, off, none⟩ → w.heap.size < b) ∨
      ((∀ ws rest, wsAt s.1 = some (ws, rest) → writable ws = false) ∧ R = [] ∧ E = 3 ∧ v = .slice none 0 0)) ?_).mono ?_
  · refine (takeWritesF_any s.1 w hs).mono ?_
    rintro e w1 (⟨ws, rest, A, c, h1, h2, rfl, h3, h4, h5⟩ | ⟨h, rfl, h3⟩)
    · exact ⟨_, _, _, rfl, .inl ⟨ws, A, c, h1, h2, rfl, rfl, h3, h4⟩, h5⟩
    · exact ⟨_, [], _, rfl, .inr ⟨h, rfl, rfl, rfl⟩, h3⟩
  · rintro e w' ⟨v, R, E, w1, rfl, h, hb, hr1, hw⟩
    have hR := TakeEnd.rd hr1 hw
    have hB := TakeEnd.but hb hw
    have hC := TakeEnd.bel (Nat.le_of_lt hr.lt) hb hw
    rcases h with ⟨ws, A, c, h1, h2, rfl, rfl, h4, h5⟩ | ⟨h1, rfl, rfl, rfl⟩
    · refine .inl ⟨ws, R, h1, h2, A, c, rfl, ?_, fun b off hA => Nat.le_of_lt (h5 b off hA), by simpa using hR, hB, hC⟩
      subst hw
      exact wrs_but17 h4 (fun b off hA => by have := h5 b off hA; have := hr.lt; omega) (but_sets17 H w1 _ _)
    · refine .inr ⟨h1, none, 0, rfl, trivial, fun b off hA => ?_, by simpa using hR, hB, hC⟩
      cases hA
end Go.Proofs.Ytkpoeigoocbgeaa
