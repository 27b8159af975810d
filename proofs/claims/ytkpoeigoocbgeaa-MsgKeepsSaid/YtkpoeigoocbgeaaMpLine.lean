/- Lines for messages: of stage 11's texts what the contracts of the program's Right and Placed need (slice.py). -/
import Derived.Test.YtkpoeigoocbgeaaRows
import Derived.Test.YtkpoeigoocbgeaaPlain
import Derived.Test.YtkpoeigoocbgeaaMem
import Derived.Test.YtkpoeigoocbgeaaLineP
import Derived.Test.YtkpoeigoocbgeaaMsLine
import Derived.WalkKit
import Derived.WalkSpells
import Derived.WalkLawsBesides
import Derived.Lib.Hide
import Derived.PlainAid
import Derived.Deep.OwnRows
import Derived.Deep.MidRow
import Derived.Deep.AppendLies
import Derived.Deep.RegionHeld3
import Derived.Deep.QuietTactic
import Derived.BigQuiet
import Derived.Great.BuildSlice
import Derived.Deep.LoopGhost
namespace Go.Proofs.Ytkpoeigoocbgeaa
open Go.RowKit
theorem below_two (w : World) (o1 o2 : Obj) : Below w.heap.size w ((w.alloc o1).alloc o2) := ((Below.refl _ _).alloc (Nat.le_refl _) _).alloc (by simp) _

theorem brOk_of {e a : Int} {x : Br} (b1 b2 b3 b4 : Bool) (h1 : decide (e < x.1) = b1) (h2 : decide (x.1 ≤ 1099511627776) = b2) (h3 : decide (a ≤ x.2) = b3) (h4 : decide (x.2 ≤ 1099511627776) = b4) : brOk e a x = (b1 && (b2 && (b3 && b4))) := by
  rw [← h1, ← h2, ← h3, ← h4]; simp [brOk]

set_option maxHeartbeats 1600000 in
theorem follows_any (e a : Int) (x1 x2 : Int) (w : World) :
    Calls Try.prog 86 #[.agg #[.int .i64 e, .int .i64 a], .agg #[.int .i64 x1, .int .i64 x2]] w fun r w' => r = .returned (.bool (brOk e a (x1, x2))) ∧ Below w.heap.size w w' := by
  cases h1 : decide (e < x1) with
  | false =>
    rw [brOk_of (x := (x1, x2)) _ _ _ _ h1 rfl rfl rfl]
    go_enter Try.func86, Try.ntmps86
    go_wp2_with fail
    go_ret
    exact ⟨rfl, below_two _ _ _⟩
  | true =>
  cases h2 : decide (x1 ≤ 1099511627776) with
  | false =>
    rw [brOk_of (x := (x1, x2)) _ _ _ _ h1 h2 rfl rfl]
    go_enter Try.func86, Try.ntmps86
    go_wp2_with fail
    go_ret
    exact ⟨rfl, below_two _ _ _⟩
  | true =>
  cases h3 : decide (a ≤ x2) with
  | false =>
    rw [brOk_of (x := (x1, x2)) _ _ _ _ h1 h2 h3 rfl]
    go_enter Try.func86, Try.ntmps86
    go_wp2_with fail
    go_ret
    exact ⟨rfl, below_two _ _ _⟩
  | true =>
    rw [brOk_of (x := (x1, x2)) _ _ _ _ h1 h2 h3 rfl]
    go_enter Try.func86, Try.ntmps86
    go_wp2_with fail
    go_ret
    exact ⟨rfl, below_two _ _ _⟩

theorem branch_desc : Try.prog.underlying 76 = some (.struct ((match Try.prog.underlying 76 with | some (.struct fs) => fs | _ => #[]))) := by kernel_rfl

set_option maxHeartbeats 1600000 in
theorem end_any {w : World} {A : Option Addr} {c : Nat} {l : List Br} (h : BrsAt w w.heap.size A l) (hne : l ≠ []) (hl : l.length ≤ 9223372036854775807) :
    Calls Try.prog 93 #[.slice A l.length c] w fun r w' => r = .returned (.agg #[.int .i64 (lastB l).1, .int .i64 (lastB l).2]) ∧ Below w.heap.size w w' := by
  obtain ⟨k, hk⟩ : ∃ k, l.length = k + 1 := by
    cases l with
    | nil => exact absurd rfl hne
    | cons x r => exact ⟨r.length, rfl⟩
  rw [lastB_at hk]
  obtain ⟨b, off, hA, hlt, x1, x2⟩ := h.at_ ((Below.refl w.heap.size w).alloc (Nat.le_refl _) (.cells #[.int .i64 0, .int .i64 0] 76)) (i := k) (by omega)
  subst hA
  obtain ⟨v1, hv1⟩ : ∃ v, (l[k]'(by omega)).1 = v := ⟨_, rfl⟩
  obtain ⟨v2, hv2⟩ : ∃ v, (l[k]'(by omega)).2 = v := ⟨_, rfl⟩
  rw [hv1] at x1 ⊢
  rw [hv2] at x2 ⊢
  rw [hk] at hl ⊢
  have hk8 : (k : Int) < 9223372036854775807 := by omega
  clear hv1 hv2 h hne hk
  go_enter Try.func93, Try.ntmps93
  go_wp2_with fail
  have HR : (w.alloc (.cells #[.int .i64 v1, .int .i64 v2] 76)).heap[w.heap.size]? = some (.cells #[.int .i64 v1, .int .i64 v2] 76 (0, 0)) := by show (w.heap.push _)[w.heap.size]? = _; simp
  refine bodyPost_ret (v := .agg #[.int .i64 v1, .int .i64 v2]) (results_cell_row rfl _ _ w.heap.size 76 #[.int .i64 v1, .int .i64 v2] (0, 0) _ rfl HR branch_desc rfl (by kernel_rfl)) rfl ⟨rfl, ?_⟩
  exact (Below.refl _ _).alloc (Nat.le_refl _) _

theorem lineOk_rest {x : Br} {r : List Br} (h : (x :: r).length ≤ 64) (h0 : x.2 = 0) : lineOk (x :: r) = lineFrom 0 0 (x :: r) := by
  rw [Bool.eq_iff_iff, lineOk_iff]; simp only [headZero, h0, beq_self_eq_true, true_and]
  exact ⟨fun e => e.2, fun e => ⟨h, e⟩⟩

/-- A row of two cells in memory. -/
structure TwoAtB (w : World) (b : Nat) (e a : Int) : Prop where
  row : w.heap[b]? = some (.cells #[.int .i64 e, .int .i64 a] 76 (0, 0))

theorem TwoAtB.c0 {w : World} {b : Nat} {e a : Int} (h : TwoAtB w b e a) : w.cell? ⟨b, 0, none⟩ = some (.int .i64 e) := by rw [Lib.cell_of_heap h.row]; rfl

theorem TwoAtB.c1 {w : World} {b : Nat} {e a : Int} (h : TwoAtB w b e a) : w.cell? ⟨b, 1, none⟩ = some (.int .i64 a) := by rw [Lib.cell_of_heap h.row]; rfl

theorem TwoAtB.fz {w : World} {b : Nat} {e a : Int} (h : TwoAtB w b e a) : ∀ j, w.frozen? ⟨b, j, none⟩ = false := fun j => Lib.frozen_of_heap h.row j

theorem TwoAtB.new (w : World) (e a : Int) : TwoAtB (w.alloc (.cells #[.int .i64 e, .int .i64 a] 76)) w.heap.size e a := ⟨by show (w.heap.push _)[w.heap.size]? = _; simp⟩

theorem TwoAtB.lt {w : World} {b : Nat} {e a : Int} (h : TwoAtB w b e a) : b < w.heap.size := (Array.getElem?_eq_some_iff.1 h.row).1

theorem TwoAtB.below {w w' : World} {b : Nat} {e a : Int} (h : TwoAtB w b e a) (hb : Below w.heap.size w w') : TwoAtB w' b e a := ⟨by rw [hb.block b h.lt]; exact h.row⟩

theorem TwoAtB.set {w : World} {b : Nat} {e a : Int} (h : TwoAtB w b e a) (x y : Int) : TwoAtB ((w.setCell ⟨b, 0, none⟩ (.int .i64 x)).setCell ⟨b, 1, none⟩ (.int .i64 y)) b x y := ⟨row_set (row_set h.row 0 _) 1 _⟩

set_option maxHeartbeats 4000000 in
set_option maxRecDepth 100000 in
theorem LnRight_any {w : World} {A : Option Addr} {c : Nat} {l : List Br} (h : BrsAt w w.heap.size A l) (hl : l.length ≤ 9223372036854775807) :
    Calls Try.prog 64 #[.slice A l.length c] w fun r w' => r = .returned (.bool (lineOk l)) ∧ Below w.heap.size w w' := by
  cases l with
  | nil =>
    rw [lineOk_nil]
    go_enter Try.func64, Try.ntmps64
    go_wp2_with fail
    go_ret
    exact ⟨rfl, Below.refl _ _⟩
  | cons x r =>
  obtain ⟨m, hm⟩ : ∃ m, m = x :: r := ⟨_, rfl⟩
  obtain ⟨n, hn⟩ : ∃ n, m.length = n := ⟨_, rfl⟩
  have hn0 : 0 < n := by rw [← hn, hm]; simp
  rw [← hm, hn] at hl ⊢
  rw [← hm] at h
  have hz : ((n : Int) == 0) = false := by rw [beq_eq_false_iff_ne]; omega
  by_cases h64 : 64 < n
  · have hd : decide ((64 : Int) < (n : Int)) = true := by rw [decide_eq_true_iff]; omega
    rw [lineOk_long (by omega)]
    clear h hm hn hl h64
    go_enter Try.func64, Try.ntmps64
    go_wp2_with fail
    go_ret
    exact ⟨rfl, Below.refl _ _⟩
  · have hd : decide ((64 : Int) < (n : Int)) = false := by rw [decide_eq_false_iff_not]; omega
    obtain ⟨b, off, hA, hlt, x1, x2⟩ := h.at_ (Below.refl _ _) (i := 0) (by omega)
    subst hA
    have e0 : m[0]'(by omega) = x := by subst hm; rfl
    rw [e0, Nat.zero_mul, Nat.add_zero] at x1 x2
    by_cases hx : x.2 = 0
    · rw [hx] at x2
      have HOK : Hid (lineOk m = lineFrom 0 0 m) := Lib.hid (by rw [hm]; exact lineOk_rest (by rw [← hm]; omega) hx)
      have H := Lib.hid h
      have HN := Lib.hid hn
      clear h hm hn hx e0 x1
      go_enter Try.func64, Try.ntmps64
      go_wp2_with fail
      go_loopg [23] n (fun kx i wr => ∃ (k : Nat) (e a : Int), k ≤ n ∧ n - k ≤ kx ∧ i = .int .i64 k ∧ Hid (lineFrom 0 0 m = lineFrom e a (m.drop k)) ∧ Hid (Below w.heap.size w wr) ∧ Hid (TwoAtB wr w.heap.size e a))
      case atStart => exact ⟨0, 0, 0, Nat.zero_le _, by omega, rfl, Lib.hid rfl, Lib.hid ((Below.refl _ _).alloc (Nat.le_refl _) _), Lib.hid (TwoAtB.new w 0 0)⟩
      case round =>
        obtain ⟨k, e, a, hk, hkx, rfl, HF, HB, HT⟩ := hrel
        by_cases hlt2 : k < n
        · have hk1 : k < m.length := by rw [HN.out]; exact hlt2
          obtain ⟨b1, o1, hA1, _, y1, y2⟩ := H.out.at_ HB.out hk1
          cases hA1
          have HD : Hid (∀ u v, m[k] = (u, v) → lineFrom 0 0 m = (brOk e a (u, v) && lineFrom u v (m.drop (k + 1)))) := Lib.hid (fun u v huv => by rw [HF.out, drop_atL hk1, huv]; rfl)
          obtain ⟨v1, hv1⟩ : ∃ v, m[k].1 = v := ⟨_, rfl⟩
          obtain ⟨v2, hv2⟩ : ∃ v, m[k].2 = v := ⟨_, rfl⟩
          have HE := Lib.hid (HD.out v1 v2 (Prod.ext hv1 hv2))
          rw [hv1] at y1
          rw [hv2] at y2
          have t0 : ∀ o, (wr.alloc o).cell? ⟨w.heap.size, 0, none⟩ = some (.int .i64 e) := fun o => (HT.out.below ((Below.refl _ _).alloc (Nat.le_refl _) o)).c0
          have t1 : ∀ o, (wr.alloc o).cell? ⟨w.heap.size, 1, none⟩ = some (.int .i64 a) := fun o => (HT.out.below ((Below.refl _ _).alloc (Nat.le_refl _) o)).c1
          have HT1 : Hid (∀ o, TwoAtB (wr.alloc o) w.heap.size e a) := Lib.hid (fun o => HT.out.below ((Below.refl _ _).alloc (Nat.le_refl _) o))
          have HN1 := Lib.hid (TwoAtB.new wr v1 v2)
          have HB1 : Hid (∀ o, Below w.heap.size w (wr.alloc o)) := Lib.hid (fun o => HB.out.alloc HB.out.size o)
          have HFo := Lib.hid (fun w => follows_any e a v1 v2 w)
          clear hv1 hv2 HD hk1 HF
          have hk0 : (0 : Int) ≤ (k : Int) := Int.natCast_nonneg _
          have hk8 : (k : Int) < (n : Int) := by omega
          cases hr : brOk e a (v1, v2) with
          | false =>
            rw [hr] at HFo HE
            go_wp2_with fail
            refine (HFo.out _).mono ?_
            rintro e2 w2 ⟨rfl, hb2⟩
            replace hb2 := Lib.hid hb2
            go_wp2_with fail
            go_ret
            exact ⟨by rw [HOK.out, HE.out]; rfl, (HB1.out _).trans (hb2.out.mono (HB1.out _).size)⟩
          | true =>
            rw [hr] at HFo HE
            go_wp2_with fail
            refine (HFo.out _).mono ?_
            rintro e2 w2 ⟨rfl, hb2⟩
            have HT2 := Lib.hid ((HT1.out _).below hb2)
            have HN2 := Lib.hid (HN1.out.below hb2)
            have HB2 := Lib.hid ((HB1.out _).trans (hb2.mono (HB1.out _).size))
            have c0 := HN2.out.c0
            have c1 := HN2.out.c1
            have d0 := HT2.out.c0
            have d1 := HT2.out.c1
            have df := HT2.out.fz
            clear hb2 t0 t1
            go_wp2_with fail
            go_roundg (n - (k + 1))
            case measure => omega
            case rel => exact ⟨k + 1, v1, v2, by omega, Nat.le_refl _, by go_num, Lib.hid (by rw [HE.out]; rfl), Lib.hid ((HB2.out.setCell (p := ⟨w.heap.size, 0, none⟩) (Nat.le_refl _) _).setCell (p := ⟨w.heap.size, 1, none⟩) (Nat.le_refl _) _), Lib.hid (HT2.out.set v1 v2)⟩
        · have hltz : ¬ (k : Int) < (n : Int) := by omega
          have HE : Hid (lineFrom 0 0 m = true) := Lib.hid (by rw [HF.out, List.drop_eq_nil_of_le (by rw [HN.out]; omega)]; rfl)
          go_wp2_with fail
          go_ret
          exact ⟨by rw [HOK.out, HE.out]; rfl, HB.out⟩
    · have hne : (x.2 != 0) = true := by rw [bne_iff_ne]; exact hx
      have HE : Hid (lineOk m = false) := Lib.hid (by rw [hm]; exact lineOk_head hx)
      clear h hm hn hl hx e0 x1
      go_enter Try.func64, Try.ntmps64
      go_wp2_with fail
      go_ret
      exact ⟨by rw [HE.out]; rfl, Below.refl _ _⟩

set_option maxHeartbeats 4000000 in
set_option maxRecDepth 100000 in
theorem Placed_any {w : World} {A : Option Addr} {c : Nat} {l : List Br} {q : Int} (h : BrsAt w w.heap.size A l) (hl : l.length ≤ 9223372036854775807) :
    Calls Try.prog 83 #[.agg #[.slice A l.length c, .int .i64 q]] w fun r w' => r = .returned (.bool (placedB l q)) ∧ Below w.heap.size w w' := by
  have HX := Lib.hid (PosBox.of (heap_new w (.cells #[.slice A l.length c, .int .i64 q] 46 (0, 0))))
  have HBV := Lib.hid (below_one w (.cells #[.slice A l.length c, .int .i64 q] 46 (0, 0)))
  have HR := Lib.hid (fun (p : LatW (w.alloc (.cells #[.slice A l.length c, .int .i64 q] 46 (0, 0)))) c => LnRight_any (c := c) (h.lat HBV.out p) hl)
  cases hok : lineOk l with
  | false =>
    rw [placedB_no hok]
    rw [hok] at HR
    have HE := HR
    go_enter Try.func83, Try.ntmps83
    go_wp2_with fail
    generalize w.alloc (.cells #[.slice A l.length c, .int .i64 q] 46) = V at *
    have c0 := HX.out.c0
    have c1 := HX.out.c1
    generalize w.heap.size = H at c0 c1 ⊢
    refine wp_region_later (by kernel_rfl) (by kernel_rfl) ?_
    repeat (first | go_big_quiet_skip | quiet_step (first | (go_at_call 64; exact Calls.later_of (HR.out _ _)) | (go_at_call 93; exact Calls.later_of (HE.out _ _))))
    refine wpQuiet_nil ?_
    intro w9 hw9
    obtain ⟨p9, hw9'⟩ := hw9
    subst hw9'
    go_wp2_with fail
    go_ret
    exact ⟨rfl, HBV.out.trans (p9.bel.mono HBV.out.size)⟩
  | true =>
    have HE := Lib.hid (fun (p : LatW (w.alloc (.cells #[.slice A l.length c, .int .i64 q] 46 (0, 0)))) c => end_any (c := c) (h.lat HBV.out p) (lineOk_ne hok) hl)
    rw [hok] at HR
    have HP := Lib.hid (fun b1 b2 => @placedB_of l hok q b1 b2)
    obtain ⟨v1, hv1⟩ : ∃ v, (lastB l).1 = v := ⟨_, rfl⟩
    obtain ⟨v2, hv2⟩ : ∃ v, (lastB l).2 = v := ⟨_, rfl⟩
    rw [hv1, hv2] at HE
    rw [hv2] at HP
    have hfd : ∀ w, (Instr.field 76 (.agg #[.int .i64 v1, .int .i64 v2]) 1).run Try.prog w = .ok (.int .i64 v2) w := fun w => by kernel_rfl
    clear hv1 hv2 h
    cases h1 : decide (v2 ≤ q) with
    | false =>
    rw [HP.out _ _ h1 rfl, Bool.false_and]
    clear HP
    go_enter Try.func83, Try.ntmps83
    go_wp2_with fail
    generalize w.alloc (.cells #[.slice A l.length c, .int .i64 q] 46) = V at *
    have c0 := HX.out.c0
    have c1 := HX.out.c1
    generalize w.heap.size = H at c0 c1 ⊢
    refine wp_region_later (by kernel_rfl) (by kernel_rfl) ?_
    repeat (first | go_big_quiet_skip | quiet_step (first | (go_at_call 64; exact Calls.later_of (HR.out _ _)) | (go_at_call 93; exact Calls.later_of (HE.out _ _))))
    refine wpQuiet_nil ?_
    intro w9 hw9
    obtain ⟨p9, hw9'⟩ := hw9
    subst hw9'
    go_wp2_with fail
    go_ret
    exact ⟨rfl, HBV.out.trans (p9.bel.mono HBV.out.size)⟩
    | true =>
    rw [HP.out _ _ h1 rfl, Bool.true_and]
    clear HP
    go_enter Try.func83, Try.ntmps83
    go_wp2_with fail
    generalize w.alloc (.cells #[.slice A l.length c, .int .i64 q] 46) = V at *
    have c0 := HX.out.c0
    have c1 := HX.out.c1
    generalize w.heap.size = H at c0 c1 ⊢
    refine wp_region_later (by kernel_rfl) (by kernel_rfl) ?_
    repeat (first | go_big_quiet_skip | quiet_step (first | (go_at_call 64; exact Calls.later_of (HR.out _ _)) | (go_at_call 93; exact Calls.later_of (HE.out _ _))))
    refine wpQuiet_nil ?_
    intro w9 hw9
    obtain ⟨p9, hw9'⟩ := hw9
    subst hw9'
    go_wp2_with fail
    go_ret
    exact ⟨rfl, HBV.out.trans (p9.bel.mono HBV.out.size)⟩

end Go.Proofs.Ytkpoeigoocbgeaa
