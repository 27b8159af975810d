/- Ends in memory; contracts of the small functions of the package link: isNum, isLong, next, Right, New. -/
import Derived.Test.YtdhmkcomngbmaaaLinkP
import Derived.Test.YtdhmkcomngbmaaaSegD
import Derived.Test.YtdhmkcomngbmaaaFrame
namespace Go.Proofs.Ytdhmkcomngbmaaa
open Go.RowKit

/-- A block of five cells. -/
structure Five (w : World) (H : Nat) (a b c d e : Value) (ty : TypeId) : Prop where
  blk : w.heap[H]? = some (.cells #[a, b, c, d, e] ty (0, 0))
section
variable {w w' V : World} {H : Nat} {a b c d e : Value} {ty : TypeId}
theorem Five.c0 (h : Five w H a b c d e ty) : w.cell? ⟨H, 0, none⟩ = some a := by rw [Lib.cell_of_heap h.blk]; rfl
theorem Five.c1 (h : Five w H a b c d e ty) : w.cell? ⟨H, 1, none⟩ = some b := by rw [Lib.cell_of_heap h.blk]; rfl
theorem Five.c2 (h : Five w H a b c d e ty) : w.cell? ⟨H, 2, none⟩ = some c := by rw [Lib.cell_of_heap h.blk]; rfl
theorem Five.c3 (h : Five w H a b c d e ty) : w.cell? ⟨H, 3, none⟩ = some d := by rw [Lib.cell_of_heap h.blk]; rfl
theorem Five.c4 (h : Five w H a b c d e ty) : w.cell? ⟨H, 4, none⟩ = some e := by rw [Lib.cell_of_heap h.blk]; rfl
theorem Five.fr (h : Five w H a b c d e ty) (j : Nat) : w.frozen? ⟨H, j, none⟩ = false := Lib.frozen_of_heap h.blk j
theorem Five.lt (h : Five w H a b c d e ty) : H < w.heap.size := heap_lt h.blk
theorem Five.set0 (h : Five w H a b c d e ty) (u : Value) : Five (w.setCell ⟨H, 0, none⟩ u) H u b c d e ty := ⟨row_set h.blk 0 _⟩
theorem Five.set1 (h : Five w H a b c d e ty) (u : Value) : Five (w.setCell ⟨H, 1, none⟩ u) H a u c d e ty := ⟨row_set h.blk 1 _⟩
theorem Five.set2 (h : Five w H a b c d e ty) (u : Value) : Five (w.setCell ⟨H, 2, none⟩ u) H a b u d e ty := ⟨row_set h.blk 2 _⟩
theorem Five.set3 (h : Five w H a b c d e ty) (u : Value) : Five (w.setCell ⟨H, 3, none⟩ u) H a b c u e ty := ⟨row_set h.blk 3 _⟩
theorem Five.set4 (h : Five w H a b c d e ty) (u : Value) : Five (w.setCell ⟨H, 4, none⟩ u) H a b c d u ty := ⟨row_set h.blk 4 _⟩
/-- All five cells written. -/
def fiveSet (w : World) (H : Nat) (a b c d e : Value) : World := ((((w.setCell ⟨H, 0, none⟩ a).setCell ⟨H, 1, none⟩ b).setCell ⟨H, 2, none⟩ c).setCell ⟨H, 3, none⟩ d).setCell ⟨H, 4, none⟩ e
theorem Five.set (h : Five w H a b c d e ty) (a' b' c' d' e' : Value) : Five (fiveSet w H a' b' c' d' e') H a' b' c' d' e' ty := ⟨row_set (row_set (row_set (row_set (row_set h.blk 0 _) 1 _) 2 _) 3 _) 4 _⟩
theorem Five.far (h : Five w H a b c d e ty) {p : Addr} (hp : H ≠ p.block) (v : Value) : Five (w.setCell p v) H a b c d e ty := ⟨(Below.heap_setCell _ _ _ _ hp).trans h.blk⟩
theorem Five.farSet (h : Five w H a b c d e ty) {K : Nat} (hp : H ≠ K) (a' b' c' d' e' : Value) : Five (fiveSet w K a' b' c' d' e') H a b c d e ty :=
  ((((h.far (p := ⟨K, 0, none⟩) hp _).far (p := ⟨K, 1, none⟩) hp _).far (p := ⟨K, 2, none⟩) hp _).far (p := ⟨K, 3, none⟩) hp _).far (p := ⟨K, 4, none⟩) hp _
theorem Five.new (w : World) (a b c d e : Value) (ty : TypeId) : Five (w.alloc (.cells #[a, b, c, d, e] ty (0, 0))) w.heap.size a b c d e ty := ⟨heap_new _ _⟩
theorem Five.below (h : Five w H a b c d e ty) (hb : Below w.heap.size w w') : Five w' H a b c d e ty := ⟨(hb.block H h.lt).trans h.blk⟩
theorem Five.lat (h : Five V H a b c d e ty) (z : LatW V) : Five z.wd H a b c d e ty := h.below z.bel
theorem below_five {B : Nat} (h : Below B w w') (hp : B ≤ H) (a b c d e : Value) : Below B w (fiveSet w' H a b c d e) :=
  ((((h.setCell (p := ⟨H, 0, none⟩) hp _).setCell (p := ⟨H, 1, none⟩) hp _).setCell (p := ⟨H, 2, none⟩) hp _).setCell (p := ⟨H, 3, none⟩) hp _).setCell (p := ⟨H, 4, none⟩) hp _
end

def isN (n : Int) : Bool := decide (1 ≤ n) && decide (n ≤ 1099511627776)
def fitB (p : List UInt8) : Bool := !decide (512 < p.length)
def okB (x : LEnd) : Bool := isN x.ep && (isN x.fi && (isN x.wa && ((x.ot == 0 || isN x.ot) && (decide (x.out.length ≤ 64) && x.out.all fitB))))
theorem isN_iff (n : Int) : isN n = true ↔ 1 ≤ n ∧ n ≤ 1099511627776 := by unfold isN; simp
theorem okB_iff (x : LEnd) : okB x = true ↔ x.Ok := by
  unfold okB
  simp only [Bool.and_eq_true, Bool.or_eq_true, isN_iff, beq_iff_eq, decide_eq_true_eq, List.all_eq_true]
  constructor
  · rintro ⟨a, b, c, d, e, f⟩
    refine ⟨a.1, a.2, by omega, by omega, b.1, b.2, c.1, c.2, e, fun p hp => ?_⟩
    have := f p hp
    simp [fitB] at this
    omega
  · intro h
    refine ⟨⟨h.e1, h.e2⟩, ⟨h.f1, h.f2⟩, ⟨h.w1, h.w2⟩, ?_, h.len, fun p hp => ?_⟩
    · have := h.o1; have := h.o2; omega
    · have := h.each p hp
      simp [fitB]
      omega

theorem isNum_any (n : Int) (w : World) : Calls Try.prog 36 #[.int .i64 n] w fun e w' => e = .returned (.bool (isN n)) ∧ w = w' := by
  unfold isN
  cases g1 : decide (1 ≤ n) with
  | false =>
    go_enter Try.func36, Try.ntmps36
    go_wp2
    go_ret
    exact ⟨rfl, rfl⟩
  | true =>
    cases g2 : decide (n ≤ 1099511627776) with
    | false =>
      go_enter Try.func36, Try.ntmps36
      go_wp2
      go_ret
      exact ⟨rfl, rfl⟩
    | true =>
      go_enter Try.func36, Try.ntmps36
      go_wp2
      go_ret
      exact ⟨rfl, rfl⟩
theorem isLong_any (s : List UInt8) (w : World) : Calls Try.prog 32 #[.string (str s)] w fun e w' => e = .returned (.bool (!fitB s)) ∧ w = w' := by
  unfold fitB
  rw [Bool.not_not]
  by_cases h : 512 < s.length
  · rw [decide_eq_true h]
    have h2 : decide (512 < (s.length : Int)) = true := by rw [decide_eq_true_iff]; omega
    go_enter Try.func32, Try.ntmps32
    go_wp2
    go_ret
    rw [str_size, h2]
    exact ⟨rfl, rfl⟩
  · rw [decide_eq_false h]
    have h2 : decide (512 < (s.length : Int)) = false := by rw [decide_eq_false_iff_not]; omega
    go_enter Try.func32, Try.ntmps32
    go_wp2
    go_ret
    rw [str_size, h2]
    exact ⟨rfl, rfl⟩

/-- An end as a value. -/
def LEnd.val (x : LEnd) (A : Option Addr) (c : Nat) : Value := .agg #[.int .i64 x.ep, .int .i64 x.ot, .int .i64 x.fi, .slice A x.out.length c, .int .i64 x.wa]
theorem next_any (x : LEnd) (A : Option Addr) (c : Nat) (w : World) (h : x.fi ≤ 1099511627777) (h1 : 0 ≤ x.fi) (hl : x.out.length ≤ 1000000) :
    Calls Try.prog 33 #[x.val A c] w fun e w' => e = .returned (.int .i64 (x.fi + x.out.length)) ∧ Below w.heap.size w w' := by
  obtain ⟨ep, ot, fi, wa, out⟩ := x
  unfold LEnd.val
  simp only at h h1 hl ⊢
  generalize out.length = n at *
  go_enter Try.func33, Try.ntmps33
  go_wp2
  go_ret
  exact ⟨rfl, below_one _ _⟩

/-- The first piece that is too long, or -1. -/
def IdxL (xs : List (List UInt8)) (w : World) (e : Ending) (w' : World) : Prop := ∃ k : Int, e = .returned (.int .i64 k) ∧ -1 ≤ k ∧ (0 ≤ k ↔ xs.all fitB = false) ∧ w = w'
theorem idxL_some {xs : List (List UInt8)} {w : World} {k : Nat} {s : List UInt8} (h : s ∈ xs) (hs : fitB s = false) : IdxL xs w (.returned (.int .i64 k)) w := by
  refine ⟨k, rfl, by omega, ⟨fun _ => ?_, fun _ => by omega⟩, rfl⟩
  rw [Bool.eq_false_iff]
  intro hall
  have := List.all_eq_true.1 hall s h
  rw [hs] at this
  exact absurd this (by simp)
theorem idxL_none {xs : List (List UInt8)} {w : World} (h : xs.all fitB = true) : IdxL xs w (.returned (.int .i64 (-1))) w :=
  ⟨-1, rfl, by omega, ⟨fun h => by omega, fun h' => by rw [h] at h'; exact absurd h' (by simp)⟩, rfl⟩

set_option maxHeartbeats 800000 in
theorem IndexL_any {w : World} {a : Option Addr} {c : Nat} {xs : List (List UInt8)} (h : Strs w w.heap.size a xs) (hl : xs.length ≤ 9223372036854775807) :
    Calls Try.prog 49 #[.slice a xs.length c, .func (.func 32) #[] #[]] w (IdxL xs w) := by
  have HA := Lib.hid h
  obtain ⟨n, hn⟩ : ∃ n, xs.length = n := ⟨_, rfl⟩
  have HN := Lib.hid hn
  rw [hn] at hl ⊢
  clear h hn
  go_enter Try.func49, Try.ntmps49
  go_wp2_with fail
  go_loop [5, 8] (fun _ i => ∃ k : Nat, k ≤ n ∧ i = .int .i64 k ∧ Hid ((xs.take k).all fitB = true)) (fun _ i => n - (intOf i).toNat)
  case atStart => exact ⟨0, Nat.zero_le _, rfl, Lib.hid (by simp)⟩
  case round =>
    obtain ⟨k, hk, rfl, HK⟩ := hrel
    by_cases hlt : k < n
    · have hkl : k < xs.length := by rw [HN.out]; exact hlt
      obtain ⟨b, off, hA, _, hc⟩ := HA.out.at_ hkl
      unfold txt at hc
      have hA' := hA
      subst hA
      have HT := Lib.hid (List.take_succ_eq_append_getElem hkl)
      obtain ⟨s, hs⟩ : ∃ s, xs[k] = s := ⟨_, rfl⟩
      have HM : Hid (s ∈ xs) := Lib.hid (by rw [← hs]; exact List.getElem_mem hkl)
      rw [hs] at hc HT
      clear hs hkl
      cases hq : fitB s with
      | true =>
        have HQ := Lib.hid hq
        clear hq
        go_wp2_with (go_at_call 32; refine (isLong_any _ _).mono ?_; rw [HQ.out]; rintro e w' ⟨rfl, rfl⟩)
        go_round
        case rel => exact ⟨k + 1, by omega, by go_num, Lib.hid (by rw [HT.out, List.all_append, HK.out]; simp [HQ.out])⟩
        case measure => simp [intOf]; omega
      | false =>
        have HQ := Lib.hid hq
        clear hq
        go_wp2_with (go_at_call 32; refine (isLong_any _ _).mono ?_; rw [HQ.out]; rintro e w' ⟨rfl, rfl⟩)
        go_ret
        exact idxL_some HM.out HQ.out
    · have HE : Hid (xs.all fitB = true) := Lib.hid (by have := HK.out; rwa [List.take_of_length_le (by rw [HN.out]; omega)] at this)
      go_wp2_with fail
      go_ret
      exact idxL_none HE.out

theorem ContainsL_any {w : World} {a : Option Addr} {c : Nat} {xs : List (List UInt8)} (h : Strs w w.heap.size a xs) (hl : xs.length ≤ 9223372036854775807) :
    Calls Try.prog 37 #[.slice a xs.length c, .func (.func 32) #[] #[]] w fun e w' => e = .returned (.bool (!xs.all fitB)) ∧ w = w' := by
  have HA := Lib.hid h
  clear h
  go_enter Try.func37, Try.ntmps37
  cases hq : xs.all fitB with
  | true =>
    have HQ := Lib.hid hq
    clear hq
    go_wp2_with (go_at_call 49; refine (IndexL_any HA.out hl).mono ?_; rintro e w' ⟨k, rfl, hk, hi, rfl⟩; have h0 : decide (0 ≤ k) = false := (by rw [decide_eq_false_iff_not]; intro h0; rw [hi, HQ.out] at h0; exact absurd h0 (by simp)); clear hi)
    go_ret
    exact ⟨rfl, rfl⟩
  | false =>
    have HQ := Lib.hid hq
    clear hq
    go_wp2_with (go_at_call 49; refine (IndexL_any HA.out hl).mono ?_; rintro e w' ⟨k, rfl, hk, hi, rfl⟩; have h0 : decide (0 ≤ k) = true := (by rw [decide_eq_true_iff]; exact hi.2 HQ.out); clear hi)
    go_ret
    exact ⟨rfl, rfl⟩

set_option maxHeartbeats 2000000 in
set_option maxRecDepth 100000 in
theorem LRight_any (x : LEnd) (A : Option Addr) (c : Nat) (w : World) (h : Strs w w.heap.size A x.out) (hl : x.out.length ≤ 9223372036854775807) :
    Calls Try.prog 14 #[x.val A c] w fun e w' => e = .returned (.bool (okB x)) ∧ Below w.heap.size w w' := by
  obtain ⟨ep, ot, fi, wa, out⟩ := x
  unfold LEnd.val okB
  simp only at h hl ⊢
  have HC := Lib.hid (fun W (hW : Below w.heap.size w W) => ContainsL_any (c := c) (h.next hW) hl)
  have HB : Hid (Below w.heap.size w (w.alloc (.cells #[.int .i64 ep, .int .i64 ot, .int .i64 fi, .slice A out.length c, .int .i64 wa] 24))) := Lib.hid (below_one _ _)
  clear h
  generalize out.length = n at *
  generalize out.all fitB = al at *
  cases g1 : isN ep with
  | false =>
    have G1 := Lib.hid g1
    clear g1
    go_enter Try.func14, Try.ntmps14
    go_wp2_with (go_at_call 36; refine (isNum_any _ _).mono ?_; (first | rw [G1.out]); rintro e w' ⟨rfl, rfl⟩)
    go_ret
    exact ⟨rfl, HB.out⟩
  | true =>
    have G1 := Lib.hid g1
    clear g1
    cases g2 : isN fi with
    | false =>
      have G2 := Lib.hid g2
      clear g2
      go_enter Try.func14, Try.ntmps14
      go_wp2_with (go_at_call 36; refine (isNum_any _ _).mono ?_; (first | rw [G1.out] | rw [G2.out]); rintro e w' ⟨rfl, rfl⟩)
      go_ret
      exact ⟨rfl, HB.out⟩
    | true =>
      have G2 := Lib.hid g2
      clear g2
      cases g3 : isN wa with
      | false =>
        have G3 := Lib.hid g3
        clear g3
        go_enter Try.func14, Try.ntmps14
        go_wp2_with (go_at_call 36; refine (isNum_any _ _).mono ?_; (first | rw [G1.out] | rw [G2.out] | rw [G3.out]); rintro e w' ⟨rfl, rfl⟩)
        go_ret
        exact ⟨rfl, HB.out⟩
      | true =>
        have G3 := Lib.hid g3
        clear g3
        cases g4 : (ot == 0) with
        | true =>
          cases g6 : decide (n ≤ 64) with
          | false =>
            have hn6 : decide ((n : Int) ≤ 64) = false := by rw [decide_eq_false_iff_not] at g6 ⊢; omega
            clear g6
            go_enter Try.func14, Try.ntmps14
            go_wp2_with (go_at_call 36; refine (isNum_any _ _).mono ?_; (first | rw [G1.out] | rw [G2.out] | rw [G3.out]); rintro e w' ⟨rfl, rfl⟩)
            go_ret
            exact ⟨rfl, HB.out⟩
          | true =>
            have hn6 : decide ((n : Int) ≤ 64) = true := by rw [decide_eq_true_iff] at g6 ⊢; omega
            clear g6
            cases g7 : al with
            | false =>
              have HAl := Lib.hid g7
              clear g7
              go_enter Try.func14, Try.ntmps14
              go_wp2_with (first | (go_at_call 36; refine (isNum_any _ _).mono ?_; (first | rw [G1.out] | rw [G2.out] | rw [G3.out] | rw [HAl.out]); rintro e w' ⟨rfl, rfl⟩) | (go_at_call 37; refine (HC.out _ HB.out).mono ?_; (first | rw [HAl.out]); rintro e w' ⟨rfl, rfl⟩))
              go_ret
              exact ⟨rfl, HB.out⟩
            | true =>
              have HAl := Lib.hid g7
              clear g7
              go_enter Try.func14, Try.ntmps14
              go_wp2_with (first | (go_at_call 36; refine (isNum_any _ _).mono ?_; (first | rw [G1.out] | rw [G2.out] | rw [G3.out] | rw [HAl.out]); rintro e w' ⟨rfl, rfl⟩) | (go_at_call 37; refine (HC.out _ HB.out).mono ?_; (first | rw [HAl.out]); rintro e w' ⟨rfl, rfl⟩))
              go_ret
              exact ⟨rfl, HB.out⟩
        | false =>
          cases g5 : isN ot with
          | false =>
            have G5 := Lib.hid g5
            clear g5
            go_enter Try.func14, Try.ntmps14
            go_wp2_with (go_at_call 36; refine (isNum_any _ _).mono ?_; (first | rw [G1.out] | rw [G2.out] | rw [G3.out] | rw [G5.out]); rintro e w' ⟨rfl, rfl⟩)
            go_ret
            exact ⟨rfl, HB.out⟩
          | true =>
            have G5 := Lib.hid g5
            clear g5
            cases g6 : decide (n ≤ 64) with
            | false =>
              have hn6 : decide ((n : Int) ≤ 64) = false := by rw [decide_eq_false_iff_not] at g6 ⊢; omega
              clear g6
              go_enter Try.func14, Try.ntmps14
              go_wp2_with (go_at_call 36; refine (isNum_any _ _).mono ?_; (first | rw [G1.out] | rw [G2.out] | rw [G3.out] | rw [G5.out]); rintro e w' ⟨rfl, rfl⟩)
              go_ret
              exact ⟨rfl, HB.out⟩
            | true =>
              have hn6 : decide ((n : Int) ≤ 64) = true := by rw [decide_eq_true_iff] at g6 ⊢; omega
              clear g6
              cases g7 : al with
              | false =>
                have HAl := Lib.hid g7
                clear g7
                go_enter Try.func14, Try.ntmps14
                go_wp2_with (first | (go_at_call 36; refine (isNum_any _ _).mono ?_; (first | rw [G1.out] | rw [G2.out] | rw [G3.out] | rw [G5.out] | rw [HAl.out]); rintro e w' ⟨rfl, rfl⟩) | (go_at_call 37; refine (HC.out _ HB.out).mono ?_; (first | rw [HAl.out]); rintro e w' ⟨rfl, rfl⟩))
                go_ret
                exact ⟨rfl, HB.out⟩
              | true =>
                have HAl := Lib.hid g7
                clear g7
                go_enter Try.func14, Try.ntmps14
                go_wp2_with (first | (go_at_call 36; refine (isNum_any _ _).mono ?_; (first | rw [G1.out] | rw [G2.out] | rw [G3.out] | rw [G5.out] | rw [HAl.out]); rintro e w' ⟨rfl, rfl⟩) | (go_at_call 37; refine (HC.out _ HB.out).mono ?_; (first | rw [HAl.out]); rintro e w' ⟨rfl, rfl⟩))
                go_ret
                exact ⟨rfl, HB.out⟩
end Go.Proofs.Ytdhmkcomngbmaaa
