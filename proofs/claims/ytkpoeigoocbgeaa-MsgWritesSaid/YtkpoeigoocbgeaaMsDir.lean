/- Bits for messages: of stage 10's texts what the contracts of the document's Right, Equal, Bytes and Parse need (slice.py). -/
import Derived.Test.YtkpoeigoocbgeaaRows
import Derived.Test.YtkpoeigoocbgeaaPlain
import Derived.Test.YtkpoeigoocbgeaaMem
import Derived.Test.YtkpoeigoocbgeaaDirP
import Derived.Test.YtkpoeigoocbgeaaMsVol
import Derived.WalkKit
import Derived.WalkSpells
import Derived.WalkLawsBesides
import Derived.Lib.Hide
import Derived.PlainAid
import Derived.Deep.OwnRows
import Derived.Deep.MidRow
import Derived.Deep.AppendLies
import Derived.Deep.RegionHeld3
import Derived.Deep.QuietTactic
import Derived.BigQuiet
import Derived.Lib.LazyBuf
import Derived.Laws.IdiomCopy
import Derived.Laws.Externs
import Derived.Laws.NewBlocks
import Derived.Lib.Walk
import Derived.Lib.SliceRun
import Derived.Lib.JoinLaws
import Derived.Lib.AppendZerosOnto
import Derived.Lib.Overlaps
import Derived.Shelf.RegionOpenPlain
import Derived.StillTailTactics
import Derived.Great.BuildSlice
import Derived.Deep.LoopGhost
import Derived.Laws.ShiftsVarLaws
import Derived.Deep.RegionLaw
namespace Go.Proofs.Ytkpoeigoocbgeaa
open Go.RowKit
theorem cell_two_new (w : World) (x y : Value) (t : TypeId) : ∀ j u, [x, y][j]? = some u → (w.alloc (.cells #[x, y] t)).cell? ((⟨w.heap.size, 0, none⟩ : Addr).add j) = some u := by
  intro j u hu
  rw [WideShapes.add_plain, Nat.zero_add, Lib.cell_of_heap (heap_alloc_new _ _)]
  simpa using hu

def BtsAt (w : World) (B : Nat) (A : Option Addr) (ms : List Bt) : Prop :=
  ms = [] ∨ ∃ b off, A = some ⟨b, off, none⟩ ∧ b < B ∧ ∀ i, (h : i < ms.length) → w.cell? ⟨b, off + i * 2, none⟩ = some (.int .i64 ms[i].vol) ∧ w.cell? ⟨b, off + i * 2 + 1, none⟩ = some (.int .u64 ms[i].mask)

theorem BtsAt.at_ {w w' : World} {B : Nat} {A : Option Addr} {ms : List Bt} (h : BtsAt w B A ms) (hb : Below B w w') {i : Nat} (hi : i < ms.length) :
    ∃ b off, A = some ⟨b, off, none⟩ ∧ b < B ∧ w'.cell? ⟨b, off + i * 2, none⟩ = some (.int .i64 ms[i].vol) ∧ w'.cell? ⟨b, off + i * 2 + 1, none⟩ = some (.int .u64 ms[i].mask) := by
  rcases h with rfl | ⟨b, off, hA, hlt, hc⟩
  · simp at hi
  · obtain ⟨h1, h2⟩ := hc i hi
    exact ⟨b, off, hA, hlt, (hb.cell (p := ⟨b, off + i * 2, none⟩) hlt).trans h1, (hb.cell (p := ⟨b, off + i * 2 + 1, none⟩) hlt).trans h2⟩

theorem BtsAt.below {w w' : World} {B : Nat} {A : Option Addr} {ms : List Bt} (h : BtsAt w B A ms) (hb : Below B w w') : BtsAt w' B A ms := by
  rcases h with h | ⟨b, off, hA, hlt, hc⟩
  · exact .inl h
  · exact .inr ⟨b, off, hA, hlt, fun i hi => ⟨(hb.cell (p := ⟨b, off + i * 2, none⟩) hlt).trans (hc i hi).1, (hb.cell (p := ⟨b, off + i * 2 + 1, none⟩) hlt).trans (hc i hi).2⟩⟩

theorem BtsAt.more {w : World} {B B' : Nat} {A : Option Addr} {ms : List Bt} (h : BtsAt w B A ms) (hB : B ≤ B') : BtsAt w B' A ms := by
  rcases h with h | ⟨b, off, hA, hlt, hc⟩
  · exact .inl h
  · exact .inr ⟨b, off, hA, by omega, hc⟩

theorem BtsAt.next {w w' : World} {A : Option Addr} {ms : List Bt} (h : BtsAt w w.heap.size A ms) (hb : Below w.heap.size w w') : BtsAt w' w'.heap.size A ms := (h.below hb).more hb.size

def btCells : List Bt → List Value
  | [] => []
  | x :: ms => .int .i64 x.vol :: .int .u64 x.mask :: btCells ms

theorem btCells_length (ms : List Bt) : (btCells ms).length = ms.length * 2 := by
  induction ms with
  | nil => rfl
  | cons x ms ih => simp [btCells, ih]; omega

theorem btCells_append (a b : List Bt) : btCells (a ++ b) = btCells a ++ btCells b := by
  induction a with
  | nil => rfl
  | cons x a ih => simp [btCells, ih]

theorem btCells_at {ms : List Bt} {k : Nat} (hk : k < ms.length) : (btCells ms)[k * 2]? = some (.int .i64 ms[k].vol) ∧ (btCells ms)[k * 2 + 1]? = some (.int .u64 ms[k].mask) := by
  induction ms generalizing k with
  | nil => simp at hk
  | cons x ms ih =>
    cases k with
    | zero => exact ⟨rfl, rfl⟩
    | succ k =>
      have := ih (k := k) (by simpa using hk)
      rw [show (k + 1) * 2 = k * 2 + 1 + 1 from by omega]
      simpa [btCells] using this

theorem BtsAt.of_lies {w : World} {B : Nat} {A : Option Addr} {ms : List Bt} (h : Lies w B A (btCells ms)) : BtsAt w B A ms := by
  rcases h with h | ⟨b, off, hA, hlt, hc⟩
  · have := btCells_length ms
    rw [h] at this
    exact .inl (List.eq_nil_of_length_eq_zero (by simp at this; omega))
  · refine .inr ⟨b, off, hA, hlt, fun i hi => ?_⟩
    have hl := btCells_length ms
    obtain ⟨g1, g2⟩ := btCells_at hi
    refine ⟨?_, ?_⟩
    · rw [hc (i * 2) (by omega)]
      rw [List.getElem?_eq_getElem (by omega)] at g1
      exact g1
    · rw [Nat.add_assoc, hc (i * 2 + 1) (by omega)]
      rw [List.getElem?_eq_getElem (by omega)] at g2
      exact g2

set_option maxHeartbeats 1000000 in
theorem power_any (n : Int) (w : World) (h1 : 0 ≤ n) (h2 : n ≤ 32) : Calls Try.prog 80 #[.int .i64 n] w fun e w' => e = .returned (.int .u64 ((2 : Int) ^ n.toNat)) ∧ w' = w := by
  obtain ⟨N, rfl⟩ := Int.eq_ofNat_of_zero_le h1
  rw [Int.toNat_natCast]
  go_enter Try.func80, Try.ntmps80
  go_wp2_with fail
  go_loopw [3, 4] (fun p i wr => ∃ (k : Nat) (P : Int), k ≤ N ∧ i = .int .i64 k ∧ p = .int .u64 P ∧ Hid (P = (2 : Int) ^ k) ∧ Hid (wr = w)) (fun _ i _ => N - (intOf i).toNat)
  case atStart => exact ⟨0, 1, Nat.zero_le _, rfl, rfl, Lib.hid rfl, Lib.hid rfl⟩
  case round =>
    obtain ⟨k, P, hk, rfl, rfl, HP, HW⟩ := hrel
    by_cases hlt : k < N
    · have hb : 1 ≤ P ∧ P ≤ 2147483648 := by have := two_pow_lt (n := k) (by omega); rw [HP.out]; omega
      have hb1 := hb.1
      have hb2 := hb.2
      have HP2 : Hid (2 * P = (2 : Int) ^ (k + 1)) := Lib.hid (by rw [HP.out, Int.pow_succ]; omega)
      have hw : IntKind.u64.wrap (2 * P) = 2 * P := by rw [IntKind.wrap_u64]; omega
      clear hb HP
      obtain ⟨R, hR⟩ : ∃ R, 2 * P = R := ⟨_, rfl⟩
      rw [hR] at HP2 hw
      go_wp2_with fail
      go_roundw
      case rel => exact ⟨k + 1, R, by omega, by go_num, by first | rfl | rw [hw], HP2, HW⟩
      case measure => simp [intOf]; omega
    · have HE : Hid (P = (2 : Int) ^ N) := Lib.hid (by rw [HP.out, show k = N from by omega])
      go_wp2_with fail
      go_ret
      exact ⟨by rw [HE.out]; rfl, HW.out⟩

theorem okN_bad {m : List Bt} {k : Nat} (h : okN m k) (hk : k < m.length) (hb : badBt (lastAt m k) m[k] = true) : bitsOk m = false := by
  show bitsFrom 0 m = false
  rw [okN_step h hk, hb]; rfl

theorem okN_next {m : List Bt} {k : Nat} (h : okN m k) (hk : k < m.length) (hb : badBt (lastAt m k) m[k] = false) : okN m (k + 1) := by
  show _ = _
  rw [okN_step h hk, hb]; rfl

theorem badBt_true (last : Int) (b : Bt) : badBt last b = true ↔ (b.vol ≤ last ∨ 255 < b.vol ∨ b.mask = 0 ∨ 4294967295 < b.mask) := by unfold badBt; rw [decide_eq_true_iff]

theorem power32 (w : World) : Calls Try.prog 80 #[.int .i64 32] w fun e w' => e = .returned (.int .u64 4294967296) ∧ w' = w := by
  refine (power_any 32 w (by decide) (by decide)).mono ?_
  rintro e w' ⟨rfl, rfl⟩
  exact ⟨rfl, rfl⟩

set_option maxHeartbeats 4000000 in
set_option maxRecDepth 100000 in
theorem DbRight_any {w : World} {A : Option Addr} {c : Nat} {m : List Bt} (h : BtsAt w w.heap.size A m) (hl : m.length ≤ 9223372036854775807) :
    Calls Try.prog 50 #[.slice A m.length c] w fun e w' => e = .returned (.bool (bitsOk m)) ∧ Below w.heap.size w w' := by
  have HV := Lib.hid h
  obtain ⟨n, hn⟩ : ∃ n, m.length = n := ⟨_, rfl⟩
  have HN := Lib.hid hn
  rw [hn] at hl ⊢
  clear h hn
  go_enter Try.func50, Try.ntmps50
  go_wp2_with fail
  go_loopw [3] (fun i wr => ∃ k : Nat, k ≤ n ∧ i = .int .i64 k ∧ Hid (okN m k) ∧ Hid (0 ≤ lastAt m k) ∧ Hid (Below w.heap.size w wr)) (fun i _ => n - (intOf i).toNat)
  case atStart => exact ⟨0, Nat.zero_le _, rfl, Lib.hid rfl, Lib.hid (Int.le_refl _), Lib.hid (Below.refl _ _)⟩
  case round =>
    obtain ⟨k, hk, rfl, HG, HPos, HB⟩ := hrel
    by_cases hlt : k < n
    · have hkl : k < m.length := by rw [HN.out]; exact hlt
      obtain ⟨b, off, hA, hbl, c1, c2⟩ := HV.out.at_ HB.out hkl
      subst hA
      have hprev : k = 0 ∧ lastAt m k = 0 ∨ ∃ i0, 0 < k ∧ lastAt m k = i0 ∧ wr.cell? ⟨b, off + (k - 1) * 2, none⟩ = some (.int .i64 i0) := by
        by_cases h0 : k = 0
        · subst h0; exact .inl ⟨rfl, rfl⟩
        · obtain ⟨b', off', hA', _, d1, _⟩ := HV.out.at_ HB.out (i := k - 1) (by omega)
          cases hA'
          refine .inr ⟨_, by omega, ?_, d1⟩
          have := lastAt_succ (m := m) (k := k - 1) (by omega)
          rw [show k - 1 + 1 = k from by omega] at this
          exact this
      have HBad := Lib.hid fun hb => okN_bad HG.out hkl hb
      have HNext := Lib.hid fun hb => okN_next HG.out hkl hb
      have HL := Lib.hid (lastAt_succ hkl)
      obtain ⟨x, hx⟩ : ∃ x, m[k] = x := ⟨_, rfl⟩
      rw [hx] at c1 c2 HBad HNext HL
      clear hx hkl HG
      obtain ⟨i1, u1⟩ := x
      obtain ⟨last, hlast⟩ : ∃ last, lastAt m k = last := ⟨_, rfl⟩
      rw [hlast] at HBad HNext HPos hprev
      clear hlast
      have hpos := HPos.out
      simp only [badBt_true, badBt_false] at c1 c2 HBad HNext HL
      have hWR : ∀ q, Below w.heap.size w (wr.drewN q) := fun q => below_q HB.out q
      have HWR := Lib.hid hWR
      clear hWR
      have hk0 : (0 : Int) ≤ (k : Int) := Int.natCast_nonneg _
      have hk8 : (k : Int) < (n : Int) := by omega
      by_cases g1 : 1 ≤ i1
      · have e1 : decide (i1 < 1) = false := by rw [decide_eq_false_iff_not]; omega
        by_cases g2 : i1 ≤ 255
        · have e2 : decide (255 < i1) = false := by rw [decide_eq_false_iff_not]; omega
          by_cases g3 : u1 = 0
          · have e3 : (u1 == 0) = true := by simp [g3]
            have HE := Lib.hid (HBad.out (.inr (.inr (.inl g3))))
            clear g3 HBad HNext hprev
            go_wp2_with fail
            go_quiet (fail)
            go_wp2_with fail
            go_ret
            exact ⟨by rw [HE.out]; rfl, HWR.out _⟩
          · have e3 : (u1 == 0) = false := by simp [g3]
            by_cases g4 : u1 ≤ 4294967295
            · have e4 : decide ((4294967296 : Int) ≤ u1) = false := by rw [decide_eq_false_iff_not]; omega
              by_cases g5 : last < i1
              · have HE := Lib.hid (HNext.out ⟨g5, g2, g3, g4⟩)
                have HPo : Hid (0 ≤ lastAt m (k + 1)) := Lib.hid (by rw [HL.out]; show (0 : Int) ≤ i1; omega)
                clear HBad HNext g3
                rcases hprev with ⟨hz, hla⟩ | ⟨i0, hkp, hla, d1⟩
                case' inl =>
                  have e0 : decide (0 < k) = false := by rw [decide_eq_false_iff_not]; omega
                  clear hz hla
                  go_wp2_with fail
                  go_quiet ((go_at_call 80; exact Calls.quiet_of_same (power32 _)))
                  go_wp2_with fail
                case' inr =>
                  have e0 : decide (0 < k) = true := by rw [decide_eq_true_iff]; omega
                  have e5 : decide (i1 ≤ i0) = false := by rw [decide_eq_false_iff_not]; omega
                  clear hla
                  have hw1 : IntKind.i64.wrap ((k : Int) - 1) = (k : Int) - 1 := by rw [IntKind.wrap_i64]; omega
                  have hw2 : (0 : Int) ≤ (k : Int) - 1 := by omega
                  have hw3 : ((k : Int) - 1).toNat = k - 1 := by omega
                  have hw4 : (k : Int) - 1 < (n : Int) := by omega
                  go_wp2_with fail
                  go_quiet ((go_at_call 80; exact Calls.quiet_of_same (power32 _)))
                  clear hw1 hw2 hw3 hw4 d1 e5
                  go_wp2_with fail
                all_goals
                  go_roundw
                  case rel => exact ⟨k + 1, by omega, by go_num, HE, HPo, Lib.hid (HWR.out _)⟩
                  case measure => simp [intOf]; omega
              · have HE := Lib.hid (HBad.out (.inl (by omega)))
                clear HBad HNext g3
                rcases hprev with ⟨hz, hla⟩ | ⟨i0, hkp, hla, d1⟩
                · omega
                · have e0 : decide (0 < k) = true := by rw [decide_eq_true_iff]; omega
                  have e5 : decide (i1 ≤ i0) = true := by rw [decide_eq_true_iff]; omega
                  clear hla
                  have hw1 : IntKind.i64.wrap ((k : Int) - 1) = (k : Int) - 1 := by rw [IntKind.wrap_i64]; omega
                  have hw2 : (0 : Int) ≤ (k : Int) - 1 := by omega
                  have hw3 : ((k : Int) - 1).toNat = k - 1 := by omega
                  have hw4 : (k : Int) - 1 < (n : Int) := by omega
                  go_wp2_with fail
                  go_quiet ((go_at_call 80; exact Calls.quiet_of_same (power32 _)))
                  go_wp2_with fail
                  go_ret
                  exact ⟨by rw [HE.out]; rfl, HWR.out _⟩
            · have e4 : decide ((4294967296 : Int) ≤ u1) = true := by rw [decide_eq_true_iff]; omega
              have HE := Lib.hid (HBad.out (.inr (.inr (.inr (by omega)))))
              clear HBad HNext g3 hprev
              go_wp2_with fail
              go_quiet ((go_at_call 80; exact Calls.quiet_of_same (power32 _)))
              go_wp2_with fail
              go_ret
              exact ⟨by rw [HE.out]; rfl, HWR.out _⟩
        · have e2 : decide (255 < i1) = true := by rw [decide_eq_true_iff]; omega
          have HE := Lib.hid (HBad.out (.inr (.inl (by omega))))
          clear HBad HNext hprev
          go_wp2_with fail
          go_quiet (fail)
          go_wp2_with fail
          go_ret
          exact ⟨by rw [HE.out]; rfl, HWR.out _⟩
      · have e1 : decide (i1 < 1) = true := by rw [decide_eq_true_iff]; omega
        have HE := Lib.hid (HBad.out (.inl (by omega)))
        clear HBad HNext hprev
        go_wp2_with fail
        go_quiet (fail)
        go_wp2_with fail
        go_ret
        exact ⟨by rw [HE.out]; rfl, HWR.out _⟩
    · have HE : Hid (bitsOk m = true) := Lib.hid (okN_end HG.out (by rw [HN.out]; omega))
      go_wp2_with fail
      go_ret
      exact ⟨by rw [HE.out]; rfl, HB.out⟩

def f1 (a : Nat) : Nat := (a / 2 &&& 85) + (a &&& 85)

def f2 (a : Nat) : Nat := (a / 4 &&& 51) + (a &&& 51)

theorem Try.infoBt : (Try.prog.info? 124).map (fun i => (i.zero, i.size, i.bytes)) = some (some (.agg #[.int .i64 0, .int .u64 0]), 2, 16) := by kernel_rfl

/-- The same bits? -/
noncomputable def eqBt (a b : List Bt) : Bool := @decide (a = b) (Classical.propDecidable _)

theorem eqBt_self (a : List Bt) : eqBt a a = true := by unfold eqBt; exact @decide_eq_true _ (Classical.propDecidable _) rfl

theorem eqBt_ne {a b : List Bt} (h : a ≠ b) : eqBt a b = false := by unfold eqBt; exact @decide_eq_false _ (Classical.propDecidable _) h

def sameBt (x y : Bt) : Bool := (x.vol == y.vol) && (x.mask == y.mask)

theorem sameBt_self (x : Bt) : sameBt x x = true := by simp [sameBt]

theorem sameBt_ne {x y : Bt} (h : x ≠ y) : sameBt x y = false := by
  rw [Bool.eq_false_iff]
  intro e
  simp only [sameBt, Bool.and_eq_true, beq_iff_eq] at e
  exact h (Bt.ext_ e.1 e.2)

set_option maxRecDepth 100000 in
theorem eqlIn_bits (x y : Bt) (w : World) : (Op.equalIn 10000 124 (.agg #[.int .i64 x.vol, .int .u64 x.mask]) (.agg #[.int .i64 y.vol, .int .u64 y.mask])).run Try.prog w = .ok (sameBt x y) w := by
  rw [run_equalIn_struct w 9999 124 _ _ (by kernel_rfl) (by kernel_rfl)]
  have hf : (Try.prog.fieldsOf 124).toList.map (fun f => (f.name, f.type, f.offset)) = [("Vol", 3, 0), ("Mask", 122, 1)] := by kernel_rfl
  obtain ⟨fs, hfs⟩ : ∃ fs, (Try.prog.fieldsOf 124).toList = fs := ⟨_, rfl⟩
  rw [hfs] at hf ⊢
  match fs, hf with
  | [f1, f2], hf =>
    simp only [List.map_cons, List.map_nil, List.cons.injEq, Prod.mk.injEq, and_true] at hf
    obtain ⟨⟨a1, a2, a3⟩, ⟨b1, b2, b3⟩⟩ := hf
    simp only [Op.eqFields, a1, a2, a3, b1, b2, b3]
    have q1 := run_equalIn_int (P := Try.prog) w 9998 3 .i64 .i64 x.vol y.vol Try.underlying3
    have q2 := run_equalIn_int (P := Try.prog) w 9998 122 .u64 .u64 x.mask y.mask Try.underlying122
    unfold sameBt
    cases h1 : x.vol == y.vol <;> rw [h1] at q1 <;> cases h2 : x.mask == y.mask <;> rw [h2] at q2 <;> simp [part, q1, q2, Try.isAgg3, Try.isAgg122, Sem.run_bind, Result.andThen]

theorem neq_bits (x y : Bt) (w : World) : (binOp .neq 124 (.agg #[.int .i64 x.vol, .int .u64 x.mask]) (.agg #[.int .i64 y.vol, .int .u64 y.mask])).run Try.prog w = .ok (.bool (!sameBt x y)) w := by
  rw [run_neq_struct, eqlIn_bits]; rfl

theorem guard_bits (op : BinOp) (x y : Operand) (xs ys : Array Value) (w : World) : (eqGuard op 124 x y (.agg xs) (.agg ys)).run Try.prog w = .ok () w := run_eqGuard_agg w op _ x y xs ys (by kernel_rfl)

set_option maxHeartbeats 2000000 in
set_option maxRecDepth 100000 in
theorem DbEqual_any {w : World} {A1 A2 : Option Addr} {c1 c2 : Nat} {xs ys : List Bt} (h1 : BtsAt w w.heap.size A1 xs) (h2 : BtsAt w w.heap.size A2 ys) (hl1 : xs.length ≤ 9223372036854775807) :
    Calls Try.prog 62 #[.slice A1 xs.length c1, .slice A2 ys.length c2] w fun e w' => e = .returned (.bool (eqBt xs ys)) ∧ Below w.heap.size w w' := by
  by_cases hlen : xs.length = ys.length
  · have H1 := Lib.hid h1
    have H2 := Lib.hid h2
    have mixed : Try.prog.follows .mixedOrders = true := by kernel_rfl
    obtain ⟨n, hn⟩ : ∃ n, xs.length = n := ⟨_, rfl⟩
    have HN1 := Lib.hid hn
    have HN2 : Hid (ys.length = n) := Lib.hid (by rw [← hlen]; exact hn)
    rw [← hlen, hn]
    rw [hn] at hl1
    clear h1 h2 hn hlen
    go_enter Try.func62, Try.ntmps62
    go_wp2
    go_loopg [5] n (fun kx i wr => ∃ k : Nat, k ≤ n ∧ n - k ≤ kx ∧ i = .int .i64 k ∧ Hid (xs.take k = ys.take k) ∧ Hid (Below w.heap.size w wr))
    case atStart => exact ⟨0, Nat.zero_le _, by omega, rfl, Lib.hid (by simp), Lib.hid (Below.refl _ _)⟩
    case round =>
      obtain ⟨k, hk, hkx, rfl, HK, HB⟩ := hrel
      by_cases hlt : k < n
      · have hk1 : k < xs.length := by rw [HN1.out]; exact hlt
        have hk2 : k < ys.length := by rw [HN2.out]; exact hlt
        obtain ⟨b1, o1, hA1, _, x1, x2⟩ := H1.out.at_ HB.out hk1
        obtain ⟨b2, o2, hA2, _, y1, y2⟩ := H2.out.at_ HB.out hk2
        subst hA1
        subst hA2
        have HNo : Hid (xs[k] ≠ ys[k] → eqBt xs ys = false) := Lib.hid (fun h => eqBt_ne (ne_at hk1 hk2 h))
        have HYes : Hid (xs[k] = ys[k] → xs.take (k + 1) = ys.take (k + 1)) := Lib.hid (fun h => take_eq_step HK.out hk1 hk2 h)
        obtain ⟨u, hu⟩ : ∃ u, xs[k] = u := ⟨_, rfl⟩
        obtain ⟨v, hv⟩ : ∃ v, ys[k] = v := ⟨_, rfl⟩
        rw [hu] at x1 x2 HNo HYes
        rw [hv] at y1 y2 HNo HYes
        clear hu hv hk1 hk2 HK
        obtain ⟨i1, j1⟩ := u
        obtain ⟨i2, j2⟩ := v
        simp only at x1 x2 y1 y2
        have hk0 : (0 : Int) ≤ (k : Int) := Int.natCast_nonneg _
        have hk8 : (k : Int) < (n : Int) := by omega
        have hne := neq_bits ⟨i1, j1⟩ ⟨i2, j2⟩
        have hgd := guard_bits
        simp only at hne
        by_cases he : (⟨i1, j1⟩ : Bt) = ⟨i2, j2⟩
        · have HE := Lib.hid (HYes.out he)
          rw [he, sameBt_self] at hne
          simp only [Bool.not_true] at hne
          have e1 : i1 = i2 := congrArg Bt.vol he
          have e2 : j1 = j2 := congrArg Bt.mask he
          subst e1
          subst e2
          clear he HYes HNo
          go_wp2_with fail
          go_quiet (fail)
          go_wp2_with fail
          go_roundg (n - (k + 1))
          case measure => omega
          case rel => exact ⟨k + 1, by omega, Nat.le_refl _, by go_num, HE, Lib.hid (HB.out.trans ⟨rfl, rfl, rfl, Nat.le_refl _, fun _ _ => rfl⟩)⟩
        · have HE := Lib.hid (HNo.out he)
          rw [sameBt_ne he] at hne
          simp only [Bool.not_false] at hne
          clear he HYes HNo
          go_wp2_with fail
          go_quiet (fail)
          go_wp2_with fail
          go_ret
          exact ⟨by rw [HE.out]; rfl, HB.out.trans ⟨rfl, rfl, rfl, Nat.le_refl _, fun _ _ => rfl⟩⟩
      · have hltz : ¬ (k : Int) < (n : Int) := by omega
        have HE : Hid (eqBt xs ys = true) := Lib.hid (by rw [take_eq_all HK.out (by rw [HN1.out]; omega) (by rw [HN2.out]; omega)]; exact eqBt_self _)
        go_wp2_with fail
        go_ret
        exact ⟨by rw [HE.out]; rfl, HB.out⟩
  · have hlz : ((xs.length : Int) != (ys.length : Int)) = true := by rw [bne_iff_ne]; omega
    have HE : Hid (eqBt xs ys = false) := Lib.hid (eqBt_ne (fun e => hlen (by rw [e])))
    clear h1 h2 hlen
    go_enter Try.func62, Try.ntmps62
    go_wp2
    go_ret
    exact ⟨by rw [HE.out]; rfl, Below.refl _ _⟩

/-- The bytes of one element, and of all. -/
def eltB (b : Bt) : List UInt8 := enc 1 b.vol.toNat ++ enc 4 b.mask.toNat

def eltsB (m : List Bt) : List UInt8 := m.flatMap eltB

def bytM (m : List Bt) : List UInt8 := enc 1 m.length ++ eltsB m

theorem eltB_length (b : Bt) : (eltB b).length = 5 := by unfold eltB; rw [List.length_append, enc_length, enc_length]

theorem eltsB_take {m : List Bt} {k : Nat} (hk : k < m.length) : eltsB (m.take (k + 1)) = eltsB (m.take k) ++ eltB m[k] := by
  unfold eltsB
  rw [List.take_succ_eq_append_getElem hk, List.flatMap_append]; simp

theorem eltsB_length (m : List Bt) : (eltsB m).length = m.length * 5 := by
  induction m with
  | nil => rfl
  | cons b r ih =>
    show (eltB b ++ eltsB r).length = _
    rw [List.length_append, ih, eltB_length, List.length_cons]; omega

/-- A string of one byte, out of a new row of one cell. -/
theorem conv_oneD (W : World) (c : Nat) (hc : c < 256) :
    (convert 67 9 (.slice (some ⟨W.heap.size, 0, none⟩) 1 1)).run Try.prog (W.alloc (.cells #[.int .u8 (c : Int)] 5)) = .ok (.string (str (enc 1 c))) (W.alloc (.cells #[.int .u8 (c : Int)] 5)) := by
  have h := run_convert_bytes_back (P := Try.prog) (W.alloc (.cells #[.int .u8 (c : Int)] 5)) 67 9 5 ⟨W.heap.size, 0, none⟩ 1 [UInt8.ofNat c] Try.underlying67 Try.underlying5 Try.underlying9 (fun j hj => by
    simp at hj
    subst hj
    rw [WideShapes.add_plain, Nat.zero_add, Lib.cell_of_heap (heap_alloc_new W _)]
    simp
    omega)
  have e : enc 1 c = [UInt8.ofNat c] := by rw [enc_cons]; simp [enc]
  rw [e]
  exact h

theorem enc_four (U : Nat) : enc 4 U = [UInt8.ofNat (U / 16777216), UInt8.ofNat (U / 65536), UInt8.ofNat (U / 256), UInt8.ofNat U] := by
  rw [enc_cons, enc_cons, enc_cons, enc_cons]; simp [enc]

theorem conv_five (W : World) (V U : Nat) (hV : V < 256) (hU : U < 4294967296) :
    (convert 67 9 (.slice (some ⟨W.heap.size, 0, none⟩) 5 5)).run Try.prog (W.alloc (.cells #[.int .u8 (V : Int), .int .u8 ((U : Int) / 16777216), .int .u8 ((U : Int) / 65536 % 256), .int .u8 ((U : Int) / 256 % 256), .int .u8 ((U : Int) % 256)] 5)) = .ok (.string (str (enc 1 V ++ enc 4 U))) (W.alloc (.cells #[.int .u8 (V : Int), .int .u8 ((U : Int) / 16777216), .int .u8 ((U : Int) / 65536 % 256), .int .u8 ((U : Int) / 256 % 256), .int .u8 ((U : Int) % 256)] 5)) := by
  have e : enc 1 V ++ enc 4 U = [UInt8.ofNat V, UInt8.ofNat (U / 16777216), UInt8.ofNat (U / 65536), UInt8.ofNat (U / 256), UInt8.ofNat U] := by
    rw [enc_four, enc_cons]; simp [enc]
  rw [e]
  have h := run_convert_bytes_back (P := Try.prog) (W.alloc (.cells #[.int .u8 (V : Int), .int .u8 ((U : Int) / 16777216), .int .u8 ((U : Int) / 65536 % 256), .int .u8 ((U : Int) / 256 % 256), .int .u8 ((U : Int) % 256)] 5)) 67 9 5 ⟨W.heap.size, 0, none⟩ 5 [UInt8.ofNat V, UInt8.ofNat (U / 16777216), UInt8.ofNat (U / 65536), UInt8.ofNat (U / 256), UInt8.ofNat U] Try.underlying67 Try.underlying5 Try.underlying9 (fun j hj => by
    simp at hj
    rw [WideShapes.add_plain, Nat.zero_add, Lib.cell_of_heap (heap_alloc_new W _)]
    rcases (show j = 0 ∨ j = 1 ∨ j = 2 ∨ j = 3 ∨ j = 4 by omega) with rfl | rfl | rfl | rfl | rfl
    · simp; omega
    · simp; omega
    · simp
    · simp
    · simp)
  exact h

set_option maxHeartbeats 4000000 in
set_option maxRecDepth 100000 in
theorem DbBytes_any {w : World} {A : Option Addr} {c : Nat} {m : List Bt} (h : BtsAt w w.heap.size A m) (hf : BtsFit m) (hr : bitsOk m = true) :
    Calls Try.prog 61 #[.slice A m.length c] w fun e w' => e = .returned (.string (str (bytM m))) ∧ Below w.heap.size w w' := by
  have HV := Lib.hid h
  have HAll := Lib.hid (bitsFrom_le hr)
  have HF := Lib.hid hf
  have hl := bitsOk_length hr
  obtain ⟨n, hn⟩ : ∃ n, m.length = n := ⟨_, rfl⟩
  have HN := Lib.hid hn
  rw [hn] at hl ⊢
  clear h hf hr hn
  have hn8 : n < 256 := by omega
  have hcv := conv_oneD w n hn8
  go_enter Try.func61, Try.ntmps61
  go_wp2_with fail
  clear hcv
  go_loopg [3, 4] n (fun kx s3 s4 wr => ∃ k : Nat, s4 = .int .i64 k ∧ k ≤ n ∧ n - k ≤ kx ∧ s3 = .string (str (enc 1 n ++ eltsB (m.take k))) ∧ Hid (Below w.heap.size w wr))
  case atStart => exact ⟨0, rfl, Nat.zero_le _, by omega, by simp [eltsB], Lib.hid ((Below.refl _ _).alloc (Nat.le_refl _) _)⟩
  case round =>
    obtain ⟨k, rfl, hk, hkx, rfl, HB⟩ := hrel
    by_cases hlt : k < n
    · have hltz : (k : Int) < (n : Int) := by omega
      have hk0 : (0 : Int) ≤ (k : Int) := Int.natCast_nonneg _
      have hkl : k < m.length := by rw [HN.out]; exact hlt
      obtain ⟨b, off, hA, hbl, c1, c2⟩ := HV.out.at_ HB.out hkl
      subst hA
      have HT := Lib.hid (eltsB_take hkl)
      have HMk := Lib.hid (HAll.out _ (List.getElem_mem hkl))
      have HMf := Lib.hid (HF.out.2 _ (List.getElem_mem hkl))
      obtain ⟨x, hx⟩ : ∃ x, m[k] = x := ⟨_, rfl⟩
      rw [hx] at c1 c2 HT HMk HMf
      clear hx hkl
      obtain ⟨i1, u1⟩ := x
      simp only at c1 c2 HT HMk HMf
      obtain ⟨V, hV⟩ : ∃ V : Nat, i1 = (V : Int) := ⟨i1.toNat, by have := HMk.out; omega⟩
      obtain ⟨U, hU⟩ : ∃ U : Nat, u1 = (U : Int) := ⟨u1.toNat, by have := HMf.out; omega⟩
      subst hV hU
      have hV2 : V < 256 := by have := HMk.out; omega
      have hU2 : U < 4294967296 := by have := HMk.out; omega
      have HS : Hid (str (enc 1 n ++ eltsB (m.take (k + 1))) = str (enc 1 n ++ eltsB (m.take k)) ++ str (enc 1 V ++ enc 4 U)) := Lib.hid (by
        rw [str_cat, HT.out, eltB, Int.toNat_natCast, Int.toNat_natCast]; simp)
      have hdl : (str (enc 1 n ++ eltsB (m.take k))).size ≤ 10000 := by rw [str_size, List.length_append, enc_length, eltsB_length, List.length_take]; omega
      generalize str (enc 1 n ++ eltsB (m.take k)) = S at hdl HS
      have hcv := conv_five wr V U hV2 hU2
      have h5 : (str (enc 1 V ++ enc 4 U)).size = 5 := by rw [str_size, List.length_append, enc_length, enc_length]
      generalize str (enc 1 V ++ enc 4 U) = T at hcv h5 HS
      have hsum : ¬ 9223372036854775807 < S.size + T.size := by omega
      have hw : IntKind.i64.wrap (U : Int) = (U : Int) := by rw [IntKind.wrap_i64]; omega
      clear h5
      go_wp2_with fail
      clear hcv hw c1 c2 hsum
      go_wp2_with fail
      go_roundg (n - (k + 1))
      case measure => omega
      case rel => exact ⟨k + 1, by go_num, by omega, Nat.le_refl _, by rw [HS.out], Lib.hid (HB.out.alloc HB.out.size _)⟩
    · have hltz : ¬ (k : Int) < (n : Int) := by omega
      have Hk : Hid (enc 1 n ++ eltsB (m.take k) = bytM m) := Lib.hid (by rw [List.take_of_length_le (by rw [HN.out]; omega), bytM, HN.out])
      go_wp2_with fail
      go_ret
      rw [Hk.out]
      exact ⟨rfl, HB.out⟩

/-- The element at the beginning of some bytes. -/
def eltOf (r : List UInt8) : Bt := ⟨(dec (r.take 1) : Int), (dec ((r.drop 1).take 4) : Int)⟩

def parseN : Nat → List UInt8 → List Bt
  | 0, _ => []
  | n + 1, r => eltOf r :: parseN n (r.drop 5)

theorem parseN_length (n : Nat) (r : List UInt8) : (parseN n r).length = n := by
  induction n generalizing r with
  | zero => rfl
  | succ n ih => simp [parseN, ih]

theorem parseN_at {n : Nat} {r : List UInt8} {k : Nat} (hk : k < n) : (parseN n r)[k]? = some (eltOf (r.drop (k * 5))) := by
  induction n generalizing r k with
  | zero => omega
  | succ n ih =>
    cases k with
    | zero => simp [parseN]
    | succ k =>
      rw [parseN, List.getElem?_cons_succ, ih (by omega), List.drop_drop]
      congr 3
      omega

theorem dec_one_lt (r : List UInt8) : dec (r.take 1) < 256 := by
  have := dec_lt (r.take 1)
  have h2 : 256 ^ (r.take 1).length ≤ 256 ^ 1 := Nat.pow_le_pow_right (by omega) (List.length_take_le _ _)
  omega

def parN (l : List UInt8) : Nat := dec (l.take 1)

def parE (l : List UInt8) : Int := if l.length = 0 ∨ l.length - 1 < 5 * parN l then 2 else if bitsOk (parseN (parN l) (l.drop 1)) = true then 0 else 3

def parM (l : List UInt8) : List Bt := if parE l = 0 then parseN (parN l) (l.drop 1) else []

def parR (l : List UInt8) : List UInt8 := if parE l = 0 then l.drop (1 + 5 * parN l) else []

theorem parE_none {l : List UInt8} (h : l.length = 0) : parE l = 2 ∧ parM l = [] ∧ parR l = [] := by
  have : parE l = 2 := by unfold parE; rw [if_pos (.inl h)]
  unfold parM parR; rw [this]; exact ⟨rfl, rfl, rfl⟩

theorem parE_short {l : List UInt8} (h : l.length - 1 < 5 * parN l) : parE l = 2 ∧ parM l = [] ∧ parR l = [] := by
  have : parE l = 2 := by unfold parE; rw [if_pos (.inr h)]
  unfold parM parR; rw [this]; exact ⟨rfl, rfl, rfl⟩

theorem parE_form {l : List UInt8} (h0 : l.length ≠ 0) (h : ¬ l.length - 1 < 5 * parN l) (hb : bitsOk (parseN (parN l) (l.drop 1)) = false) : parE l = 3 ∧ parM l = [] ∧ parR l = [] := by
  have : parE l = 3 := by unfold parE; rw [if_neg (by omega), hb]; rfl
  unfold parM parR; rw [this]; exact ⟨rfl, rfl, rfl⟩

theorem parE_ok {l : List UInt8} (h0 : l.length ≠ 0) (h : ¬ l.length - 1 < 5 * parN l) (hb : bitsOk (parseN (parN l) (l.drop 1)) = true) : parE l = 0 ∧ parM l = parseN (parN l) (l.drop 1) ∧ parR l = l.drop (1 + 5 * parN l) := by
  have : parE l = 0 := by unfold parE; rw [if_neg (by omega), hb]; rfl
  unfold parM parR; rw [this]; exact ⟨rfl, rfl, rfl⟩

/-- Five bytes as an element, byte by byte. -/
theorem bt_at (s : ByteArray) (k : Nat) (h : k < s.size) : PlainAid.bt s k = (((s.data.toList[k]'(by rw [list_length]; exact h)).toNat : Nat) : Int) := by
  rw [← PlainAid.get_bt s k h]; rfl

theorem eltOf_five (r : List UInt8) (p : ByteArray) (hp : p = str (r.take 5)) (hr : 5 ≤ r.length) : p.size = 5 ∧ (eltOf r).vol = PlainAid.bt p 0 ∧ (eltOf r).mask = PlainAid.bt p 1 * 16777216 + PlainAid.bt p 2 * 65536 + PlainAid.bt p 3 * 256 + PlainAid.bt p 4 := by
  subst hp
  have hs : (str (r.take 5)).size = 5 := by rw [str_size, List.length_take]; omega
  match r, hr with
  | c0 :: c1 :: c2 :: c3 :: c4 :: r', _ =>
    refine ⟨hs, ?_, ?_⟩
    · rw [bt_at _ _ (by rw [hs]; omega)]
      simp [eltOf, str_list, dec_head, dec_nil]
    · rw [bt_at _ _ (by rw [hs]; omega), bt_at _ _ (by rw [hs]; omega), bt_at _ _ (by rw [hs]; omega), bt_at _ _ (by rw [hs]; omega)]
      simp [eltOf, str_list, dec_head, dec_nil]
      omega

theorem parN_bt (l : List UInt8) (h : l.length ≠ 0) : PlainAid.bt (str l) 0 = (parN l : Int) := by
  rw [bt_at _ _ (by rw [str_size]; omega)]
  match l, h with
  | c :: r, _ => simp [parN, str_list, dec_head, dec_nil]

theorem extract_five (l : List UInt8) (k : Nat) : (str l).extract (1 + 5 * k) (6 + 5 * k) = str ((l.drop (1 + k * 5)).take 5) := by
  apply ByteArray.ext
  apply Array.toList_inj.1
  show ((str l).extract _ _).data.toList = (l.drop (1 + k * 5)).take 5
  rw [show ((str l).extract (1 + 5 * k) (6 + 5 * k)).data.toList = ((str l).data.toList.drop (1 + 5 * k)).take (6 + 5 * k - (1 + 5 * k)) from by simp [ByteArray.data_extract], str_list]
  rw [show 6 + 5 * k - (1 + 5 * k) = 5 from by omega, Nat.mul_comm 5 k]

set_option maxHeartbeats 4000000 in
set_option maxRecDepth 100000 in
theorem DbParse_any (l : List UInt8) (w : World) (hm : l.length ≤ 9223372036854775807) :
    Calls Try.prog 63 #[.string (str l)] w fun e w' => ∃ A c, e = .returned (.tuple #[.slice A (parM l).length c, .string (str (parR l)), .int .i64 (parE l)]) ∧ BtsAt w' w'.heap.size A (parM l) ∧ Below w.heap.size w w' := by
  by_cases h0 : l.length = 0
  · obtain ⟨q1, q2, q3⟩ := parE_none h0
    rw [q1, q2, q3]
    have hs : ((str l).size : Int) = 0 := by rw [str_size]; omega
    have hs2 : (((str l).size : Int) == 0) = true := by rw [beq_iff_eq]; exact hs
    generalize str l = S at *
    clear h0
    go_enter Try.func63, Try.ntmps63
    go_wp2_with fail
    go_ret3
    exact ⟨none, 0, rfl, .inl rfl, Below.refl _ _⟩
  · have hs1 : ((str l).size : Int) = (l.length : Int) := by rw [str_size]
    have hbt := PlainAid.get_bt (str l)
    have hpn := parN_bt l h0
    obtain ⟨n, hn⟩ : ∃ n, parN l = n := ⟨_, rfl⟩
    have hn8 : n < 256 := by rw [← hn]; exact dec_one_lt l
    rw [hn] at hpn
    obtain ⟨L, hL⟩ : ∃ L : Nat, l.length = L := ⟨_, rfl⟩
    rw [hL] at hs1
    have hs2 : (((str l).size : Int) == 0) = false := by rw [beq_eq_false_iff_ne, hs1]; omega
    have hx0 : 0 < (str l).size := by omega
    have hm2 : L ≤ 9223372036854775807 := by omega
    have hL0 : 1 ≤ L := by omega
    by_cases hsh : L - 1 < 5 * n
    · obtain ⟨q1, q2, q3⟩ := parE_short (l := l) (by rw [hn, hL]; exact hsh)
      rw [q1, q2, q3]
      have hw1 : IntKind.i64.wrap (5 * (n : Int)) = 5 * (n : Int) := by rw [IntKind.wrap_i64]; omega
      have hw2 : IntKind.i64.wrap ((L : Int) - 1) = (L : Int) - 1 := by rw [IntKind.wrap_i64]; omega
      have hlt : (L : Int) - 1 < 5 * (n : Int) := by omega
      have hlt2 : decide ((L : Int) - 1 < 5 * (n : Int)) = true := by rw [decide_eq_true_iff]; exact hlt
      generalize str l = S at *
      clear h0 hm q1 q2 q3
      go_enter Try.func63, Try.ntmps63
      go_wp2_with fail
      go_ret3
      exact ⟨none, 0, rfl, .inl rfl, Below.refl _ _⟩
    · have hw1 : IntKind.i64.wrap (5 * (n : Int)) = 5 * (n : Int) := by rw [IntKind.wrap_i64]; omega
      have hw2 : IntKind.i64.wrap ((L : Int) - 1) = (L : Int) - 1 := by rw [IntKind.wrap_i64]; omega
      have hlt2 : decide ((L : Int) - 1 < 5 * (n : Int)) = false := by rw [decide_eq_false_iff_not]; omega
      have HEl : Hid (∀ k, k < n → ∃ p : ByteArray, (str l).extract (1 + 5 * k) (6 + 5 * k) = p ∧ p.size = 5 ∧ (parseN n (l.drop 1))[k]? = some ⟨PlainAid.bt p 0, PlainAid.bt p 1 * 16777216 + PlainAid.bt p 2 * 65536 + PlainAid.bt p 3 * 256 + PlainAid.bt p 4⟩) := Lib.hid fun k hk => by
        refine ⟨_, rfl, ?_⟩
        obtain ⟨e1, e2, e3⟩ := eltOf_five (l.drop (1 + k * 5)) _ (extract_five l k) (by rw [List.length_drop]; omega)
        refine ⟨e1, ?_⟩
        rw [parseN_at hk, List.drop_drop]
        congr 1
        exact Bt.ext_ e2 e3
      have HPl := Lib.hid (parseN_length n (l.drop 1))
      have HPf : Hid (BtsFit (parseN n (l.drop 1))) := Lib.hid ⟨by rw [parseN_length]; omega, fun b hb => by
        obtain ⟨k, hk, rfl⟩ := List.getElem_of_mem hb
        have hk2 : k < n := by rw [parseN_length] at hk; exact hk
        obtain ⟨p, _, _, e⟩ := HEl.out k hk2
        rw [List.getElem?_eq_getElem hk] at e
        have e2 := Option.some.inj e
        rw [e2]
        simp only
        have a1 := PlainAid.bt_nonneg p 1; have a2 := PlainAid.bt_nonneg p 2; have a3 := PlainAid.bt_nonneg p 3; have a4 := PlainAid.bt_nonneg p 4
        have d1 := PlainAid.bt_le p 1; have d2 := PlainAid.bt_le p 2; have d3 := PlainAid.bt_le p 3; have d4 := PlainAid.bt_le p 4
        omega⟩
      have HF : Hid (bitsOk (parseN n (l.drop 1)) = false → parE l = 3 ∧ parM l = [] ∧ parR l = []) := Lib.hid fun hb => parE_form h0 (by rw [hn, hL]; exact hsh) (by rw [hn]; exact hb)
      have HG : Hid (bitsOk (parseN n (l.drop 1)) = true → parE l = 0 ∧ parM l = parseN n (l.drop 1) ∧ str (parR l) = (str l).extract (1 + 5 * n) (str l).size) := Lib.hid fun hb => by
        obtain ⟨g1, g2, g3⟩ := parE_ok h0 (by rw [hn, hL]; exact hsh) (by rw [hn]; exact hb)
        rw [g1, g2, g3, hn, extract_drop_str, str_list]
        exact ⟨rfl, rfl, rfl⟩
      generalize parseN n (l.drop 1) = P at *
      generalize hS : str l = S at *
      have HSl := Lib.hid hS
      obtain ⟨i0, hi0, hz0, hz1, hz2⟩ := info_parts Try.infoBt
      have hs3 : ((L : Int) == 0) = false := by rw [beq_eq_false_iff_ne]; omega
      clear h0 hm hS hn hL hs2
      go_enter Try.func63, Try.ntmps63
      go_wp2_with fail
      go_loopg [5, 6] n (fun kx s5 s6 wr => ∃ k : Nat, s6 = .int .i64 k ∧ k ≤ n ∧ n - k ≤ kx ∧ Hid (wr.ownsRow w.heap.size 124 2 s5 k (btCells (P.take k))) ∧ Hid (Below w.heap.size w wr))
      case atStart => exact ⟨0, rfl, Nat.zero_le _, by omega, Lib.hid (World.ownsRow_nil _ _ _ _), Lib.hid (Below.refl _ _)⟩
      case round =>
        obtain ⟨k, rfl, hk, hkx, HO, HB⟩ := hrel
        obtain ⟨A4, c4, h4, hxx⟩ := own_lies HO.out
        clear hxx
        subst h4
        by_cases hlt : k < n
        · have hltz : (k : Int) < (n : Int) := by omega
          have hk0 : (0 : Int) ≤ (k : Int) := Int.natCast_nonneg _
          obtain ⟨p, hp, hp5, hpe⟩ := HEl.out k hlt
          have HPe := Lib.hid hpe
          have hwa : IntKind.i64.wrap (5 * (k : Int)) = 5 * (k : Int) := by rw [IntKind.wrap_i64]; omega
          have hwb : IntKind.i64.wrap (1 + 5 * (k : Int)) = 1 + 5 * (k : Int) := by rw [IntKind.wrap_i64]; omega
          have hwc : IntKind.i64.wrap (6 + 5 * (k : Int)) = 6 + 5 * (k : Int) := by rw [IntKind.wrap_i64]; omega
          have hta : (1 + 5 * (k : Int)).toNat = 1 + 5 * k := by omega
          have htb : (6 + 5 * (k : Int)).toNat = 6 + 5 * k := by omega
          have hna : (0 : Int) ≤ 1 + 5 * (k : Int) := by omega
          have hnb : (1 : Int) + 5 * (k : Int) ≤ 6 + 5 * (k : Int) := by omega
          have hnc : (6 : Int) + 5 * (k : Int) ≤ (L : Int) := by omega
          clear hpe
          go_wp2_with fail
          clear hwa hwb hwc hta htb hna hnb hnc hp hs1 hs3 hx0 hpn hbt hw1 hw2 hlt2
          have hbp := PlainAid.get_bt p
          have j0 : 0 < p.size := by omega
          have j1 : 1 < p.size := by omega
          have j2 : 2 < p.size := by omega
          have j3 : 3 < p.size := by omega
          have j4 : 4 < p.size := by omega
          have a0 := PlainAid.bt_nonneg p 0; have a1 := PlainAid.bt_nonneg p 1; have a2 := PlainAid.bt_nonneg p 2; have a3 := PlainAid.bt_nonneg p 3; have a4 := PlainAid.bt_nonneg p 4
          have d0 := PlainAid.bt_le p 0; have d1 := PlainAid.bt_le p 1; have d2 := PlainAid.bt_le p 2; have d3 := PlainAid.bt_le p 3; have d4 := PlainAid.bt_le p 4
          have hc0 : IntKind.i64.wrap (PlainAid.bt p 0) = PlainAid.bt p 0 := by rw [IntKind.wrap_i64]; omega
          have hc1 : IntKind.u64.wrap (PlainAid.bt p 1) = PlainAid.bt p 1 := by rw [IntKind.wrap_u64]; omega
          have hc2 : IntKind.u64.wrap (PlainAid.bt p 2) = PlainAid.bt p 2 := by rw [IntKind.wrap_u64]; omega
          have hc3 : IntKind.u64.wrap (PlainAid.bt p 3) = PlainAid.bt p 3 := by rw [IntKind.wrap_u64]; omega
          have hc4 : IntKind.u64.wrap (PlainAid.bt p 4) = PlainAid.bt p 4 := by rw [IntKind.wrap_u64]; omega
          obtain ⟨x1, hx1⟩ : ∃ x, PlainAid.bt p 1 * 16777216 = x := ⟨_, rfl⟩
          obtain ⟨x2, hx2⟩ : ∃ x, PlainAid.bt p 2 * 65536 = x := ⟨_, rfl⟩
          obtain ⟨x3, hx3⟩ : ∃ x, x1 + x2 = x := ⟨_, rfl⟩
          obtain ⟨x4, hx4⟩ : ∃ x, PlainAid.bt p 3 * 256 = x := ⟨_, rfl⟩
          obtain ⟨x5, hx5⟩ : ∃ x, x3 + x4 = x := ⟨_, rfl⟩
          obtain ⟨U, hU⟩ : ∃ x, x5 + PlainAid.bt p 4 = x := ⟨_, rfl⟩
          have g1 : IntKind.u64.wrap (PlainAid.bt p 1 * 16777216) = x1 := by rw [IntKind.wrap_u64]; omega
          have g2 : IntKind.u64.wrap (PlainAid.bt p 2 * 65536) = x2 := by rw [IntKind.wrap_u64]; omega
          have g3 : IntKind.u64.wrap (x1 + x2) = x3 := by rw [IntKind.wrap_u64]; omega
          have g4 : IntKind.u64.wrap (PlainAid.bt p 3 * 256) = x4 := by rw [IntKind.wrap_u64]; omega
          have g5 : IntKind.u64.wrap (x3 + x4) = x5 := by rw [IntKind.wrap_u64]; omega
          have g6 : IntKind.u64.wrap (x5 + PlainAid.bt p 4) = U := by rw [IntKind.wrap_u64]; omega
          rw [hx1, hx2, hx3, hx4, hx5, hU] at HPe
          have HPt : Hid (P.take (k + 1) = P.take k ++ [⟨PlainAid.bt p 0, U⟩]) := Lib.hid (by
            have hkP : k < P.length := by rw [HPl.out]; exact hlt
            have e := HPe.out
            rw [List.getElem?_eq_getElem hkP] at e
            rw [List.take_succ_eq_append_getElem hkP, Option.some.inj e])
          clear hx1 hx2 hx3 hx4 hx5 hU HPe
          have hwz : w.heap.size ≤ wr.heap.size := HB.out.size
          clear HF HG HEl HSl HPf HPl hm2 hL0 hsh a0 a1 a2 a3 a4 d0 d1 d2 d3 d4
          have hp5z : (p.size : Int) = 5 := by omega
          refine wp_region_held_drew (S := fun _ => True) (by kernel_rfl) trivial (fun hHeld => ?_)
          refine wpAnyH_take (i := 0) (oi := ⟨some 36, .move (.tmp 5), 47, "ref.go:139", #[], none⟩) (v := .slice A4 k c4) rfl (by kernel_rfl) (by kernel_rfl) (by kernel_rfl) (fun _ _ _ h => h) (Or.inl ⟨by rfl, fun w _ => by go_simp⟩) hHeld ?_
          try simp only [Act.put, List.setIfInBounds_toArray, List.set_cons_zero, List.set_cons_succ]
          refine wpAnyH_take (i := 1) (oi := ⟨some 37, .move (.tmp 7), 9, "ref.go:139", #[], none⟩) (v := .string p) rfl (by kernel_rfl) (by kernel_rfl) (by kernel_rfl) (fun _ _ _ h => h) (Or.inl ⟨by rfl, fun w _ => by go_simp⟩) hHeld ?_
          try simp only [Act.put, List.setIfInBounds_toArray, List.set_cons_zero, List.set_cons_succ]
          refine wpAnyH_take (i := 2) (oi := ⟨some 38, .index 9 (.tmp 37) (.const (.int .i64 0)), 5, "ref.go:139", #[⟨1, .data⟩], none⟩) (v := .int .u8 (PlainAid.bt p 0)) rfl (by kernel_rfl) (by kernel_rfl) (by kernel_rfl) (fun _ _ _ h => h) (Or.inl ⟨by rfl, fun w _ => by go_simp⟩) hHeld ?_
          try simp only [Act.put, List.setIfInBounds_toArray, List.set_cons_zero, List.set_cons_succ]
          refine wpAnyH_take (i := 3) (oi := ⟨some 39, .convert 5 3 (.tmp 38), 3, "ref.go:139", #[⟨2, .data⟩], none⟩) (v := .int .i64 (PlainAid.bt p 0)) rfl (by kernel_rfl) (by kernel_rfl) (by kernel_rfl) (fun _ _ _ h => h) (Or.inl ⟨by rfl, fun w _ => by go_simp⟩) hHeld ?_
          try simp only [Act.put, List.setIfInBounds_toArray, List.set_cons_zero, List.set_cons_succ]
          refine wpAnyH_take (i := 4) (oi := ⟨some 40, .move (.tmp 7), 9, "ref.go:139", #[], none⟩) (v := .string p) rfl (by kernel_rfl) (by kernel_rfl) (by kernel_rfl) (fun _ _ _ h => h) (Or.inl ⟨by rfl, fun w _ => by go_simp⟩) hHeld ?_
          try simp only [Act.put, List.setIfInBounds_toArray, List.set_cons_zero, List.set_cons_succ]
          refine wpAnyH_take (i := 5) (oi := ⟨some 41, .index 9 (.tmp 40) (.const (.int .i64 1)), 5, "ref.go:139", #[⟨4, .data⟩], none⟩) (v := .int .u8 (PlainAid.bt p 1)) rfl (by kernel_rfl) (by kernel_rfl) (by kernel_rfl) (fun _ _ _ h => h) (Or.inl ⟨by rfl, fun w _ => by go_simp⟩) hHeld ?_
          try simp only [Act.put, List.setIfInBounds_toArray, List.set_cons_zero, List.set_cons_succ]
          refine wpAnyH_take (i := 6) (oi := ⟨some 42, .convert 5 122 (.tmp 41), 122, "ref.go:139", #[⟨5, .data⟩], none⟩) (v := .int .u64 (PlainAid.bt p 1)) rfl (by kernel_rfl) (by kernel_rfl) (by kernel_rfl) (fun _ _ _ h => h) (Or.inl ⟨by rfl, fun w _ => by go_simp⟩) hHeld ?_
          try simp only [Act.put, List.setIfInBounds_toArray, List.set_cons_zero, List.set_cons_succ]
          refine wpAnyH_take (i := 7) (oi := ⟨some 43, .binOp .mul 122 (.tmp 42) (.const (.int .u64 16777216)) 122, 122, "ref.go:139", #[⟨6, .data⟩], none⟩) (v := .int .u64 x1) rfl (by kernel_rfl) (by kernel_rfl) (by kernel_rfl) (fun _ _ _ h => h) (Or.inl ⟨by rfl, fun w _ => by go_simp⟩) hHeld ?_
          try simp only [Act.put, List.setIfInBounds_toArray, List.set_cons_zero, List.set_cons_succ]
          refine wpAnyH_take (i := 8) (oi := ⟨some 44, .move (.tmp 7), 9, "ref.go:139", #[], none⟩) (v := .string p) rfl (by kernel_rfl) (by kernel_rfl) (by kernel_rfl) (fun _ _ _ h => h) (Or.inl ⟨by rfl, fun w _ => by go_simp⟩) hHeld ?_
          try simp only [Act.put, List.setIfInBounds_toArray, List.set_cons_zero, List.set_cons_succ]
          refine wpAnyH_take (i := 9) (oi := ⟨some 45, .index 9 (.tmp 44) (.const (.int .i64 2)), 5, "ref.go:139", #[⟨8, .data⟩], none⟩) (v := .int .u8 (PlainAid.bt p 2)) rfl (by kernel_rfl) (by kernel_rfl) (by kernel_rfl) (fun _ _ _ h => h) (Or.inl ⟨by rfl, fun w _ => by go_simp⟩) hHeld ?_
          try simp only [Act.put, List.setIfInBounds_toArray, List.set_cons_zero, List.set_cons_succ]
          refine wpAnyH_take (i := 10) (oi := ⟨some 46, .convert 5 122 (.tmp 45), 122, "ref.go:139", #[⟨9, .data⟩], none⟩) (v := .int .u64 (PlainAid.bt p 2)) rfl (by kernel_rfl) (by kernel_rfl) (by kernel_rfl) (fun _ _ _ h => h) (Or.inl ⟨by rfl, fun w _ => by go_simp⟩) hHeld ?_
          try simp only [Act.put, List.setIfInBounds_toArray, List.set_cons_zero, List.set_cons_succ]
          refine wpAnyH_take (i := 11) (oi := ⟨some 47, .binOp .mul 122 (.tmp 46) (.const (.int .u64 65536)) 122, 122, "ref.go:139", #[⟨10, .data⟩], none⟩) (v := .int .u64 x2) rfl (by kernel_rfl) (by kernel_rfl) (by kernel_rfl) (fun _ _ _ h => h) (Or.inl ⟨by rfl, fun w _ => by go_simp⟩) hHeld ?_
          try simp only [Act.put, List.setIfInBounds_toArray, List.set_cons_zero, List.set_cons_succ]
          refine wpAnyH_take (i := 12) (oi := ⟨some 48, .binOp .add 122 (.tmp 43) (.tmp 47) 122, 122, "ref.go:139", #[⟨7, .data⟩, ⟨11, .data⟩], none⟩) (v := .int .u64 x3) rfl (by kernel_rfl) (by kernel_rfl) (by kernel_rfl) (fun _ _ _ h => h) (Or.inl ⟨by rfl, fun w _ => by go_simp⟩) hHeld ?_
          try simp only [Act.put, List.setIfInBounds_toArray, List.set_cons_zero, List.set_cons_succ]
          refine wpAnyH_take (i := 13) (oi := ⟨some 49, .move (.tmp 7), 9, "ref.go:139", #[], none⟩) (v := .string p) rfl (by kernel_rfl) (by kernel_rfl) (by kernel_rfl) (fun _ _ _ h => h) (Or.inl ⟨by rfl, fun w _ => by go_simp⟩) hHeld ?_
          try simp only [Act.put, List.setIfInBounds_toArray, List.set_cons_zero, List.set_cons_succ]
          refine wpAnyH_take (i := 14) (oi := ⟨some 50, .index 9 (.tmp 49) (.const (.int .i64 3)), 5, "ref.go:139", #[⟨13, .data⟩], none⟩) (v := .int .u8 (PlainAid.bt p 3)) rfl (by kernel_rfl) (by kernel_rfl) (by kernel_rfl) (fun _ _ _ h => h) (Or.inl ⟨by rfl, fun w _ => by go_simp⟩) hHeld ?_
          try simp only [Act.put, List.setIfInBounds_toArray, List.set_cons_zero, List.set_cons_succ]
          refine wpAnyH_take (i := 15) (oi := ⟨some 51, .convert 5 122 (.tmp 50), 122, "ref.go:139", #[⟨14, .data⟩], none⟩) (v := .int .u64 (PlainAid.bt p 3)) rfl (by kernel_rfl) (by kernel_rfl) (by kernel_rfl) (fun _ _ _ h => h) (Or.inl ⟨by rfl, fun w _ => by go_simp⟩) hHeld ?_
          try simp only [Act.put, List.setIfInBounds_toArray, List.set_cons_zero, List.set_cons_succ]
          refine wpAnyH_take (i := 16) (oi := ⟨some 52, .binOp .mul 122 (.tmp 51) (.const (.int .u64 256)) 122, 122, "ref.go:139", #[⟨15, .data⟩], none⟩) (v := .int .u64 x4) rfl (by kernel_rfl) (by kernel_rfl) (by kernel_rfl) (fun _ _ _ h => h) (Or.inl ⟨by rfl, fun w _ => by go_simp⟩) hHeld ?_
          try simp only [Act.put, List.setIfInBounds_toArray, List.set_cons_zero, List.set_cons_succ]
          refine wpAnyH_take (i := 17) (oi := ⟨some 53, .binOp .add 122 (.tmp 48) (.tmp 52) 122, 122, "ref.go:139", #[⟨12, .data⟩, ⟨16, .data⟩], none⟩) (v := .int .u64 x5) rfl (by kernel_rfl) (by kernel_rfl) (by kernel_rfl) (fun _ _ _ h => h) (Or.inl ⟨by rfl, fun w _ => by go_simp⟩) hHeld ?_
          try simp only [Act.put, List.setIfInBounds_toArray, List.set_cons_zero, List.set_cons_succ]
          refine wpAnyH_take (i := 18) (oi := ⟨some 54, .move (.tmp 7), 9, "ref.go:139", #[], none⟩) (v := .string p) rfl (by kernel_rfl) (by kernel_rfl) (by kernel_rfl) (fun _ _ _ h => h) (Or.inl ⟨by rfl, fun w _ => by go_simp⟩) hHeld ?_
          try simp only [Act.put, List.setIfInBounds_toArray, List.set_cons_zero, List.set_cons_succ]
          refine wpAnyH_take (i := 19) (oi := ⟨some 55, .index 9 (.tmp 54) (.const (.int .i64 4)), 5, "ref.go:139", #[⟨18, .data⟩], none⟩) (v := .int .u8 (PlainAid.bt p 4)) rfl (by kernel_rfl) (by kernel_rfl) (by kernel_rfl) (fun _ _ _ h => h) (Or.inl ⟨by rfl, fun w _ => by go_simp⟩) hHeld ?_
          try simp only [Act.put, List.setIfInBounds_toArray, List.set_cons_zero, List.set_cons_succ]
          refine wpAnyH_take (i := 20) (oi := ⟨some 56, .convert 5 122 (.tmp 55), 122, "ref.go:139", #[⟨19, .data⟩], none⟩) (v := .int .u64 (PlainAid.bt p 4)) rfl (by kernel_rfl) (by kernel_rfl) (by kernel_rfl) (fun _ _ _ h => h) (Or.inl ⟨by rfl, fun w _ => by go_simp⟩) hHeld ?_
          try simp only [Act.put, List.setIfInBounds_toArray, List.set_cons_zero, List.set_cons_succ]
          refine wpAnyH_take (i := 21) (oi := ⟨some 57, .binOp .add 122 (.tmp 53) (.tmp 56) 122, 122, "ref.go:139", #[⟨17, .data⟩, ⟨20, .data⟩], none⟩) (v := .int .u64 U) rfl (by kernel_rfl) (by kernel_rfl) (by kernel_rfl) (fun _ _ _ h => h) (Or.inl ⟨by rfl, fun w _ => by go_simp⟩) hHeld ?_
          try simp only [Act.put, List.setIfInBounds_toArray, List.set_cons_zero, List.set_cons_succ]
          refine wpAnyH_take (i := 22) (oi := ⟨some 58, .build 124 #[(0, .tmp 39), (1, .tmp 57)], 124, "ref.go:139", #[⟨3, .data⟩, ⟨21, .data⟩], none⟩) (v := .agg #[.int .i64 (PlainAid.bt p 0), .int .u64 U]) rfl (by kernel_rfl) (by kernel_rfl) (by kernel_rfl) (fun _ _ _ h => h) (Or.inl ⟨by rfl, fun w _ => by go_simp⟩) hHeld ?_
          try simp only [Act.put, List.setIfInBounds_toArray, List.set_cons_zero, List.set_cons_succ]
          refine wpAnyH_ready (rs := [23]) (by kernel_rfl) (by simp) ?_
          refine AllReadyH.cons (o := ⟨some 59, .buildSlice 47 1 #[(0, .tmp 58)], 47, "ref.go:139", #[⟨22, .data⟩], none⟩) rfl (fun K hK => ?_) AllReadyH.nil
          rw [if_pos (by rfl)]
          go_simp
          refine hK.out _ _ trivial (fun hHeld2 => ?_)
          clear hK K
          try simp only [Act.put, List.setIfInBounds_toArray, List.set_cons_zero, List.set_cons_succ]
          have hownd : (wr.alloc (.cells #[.int .i64 (PlainAid.bt p 0), .int .u64 U] 124)).drew.ownsRow w.heap.size 124 2 (.slice A4 k c4) k (btCells (P.take k)) := (HO.out.alloc _).drew
          have hnewd : ∀ j u, [Value.int .i64 (PlainAid.bt p 0), Value.int .u64 U][j]? = some u → (wr.alloc (.cells #[.int .i64 (PlainAid.bt p 0), .int .u64 U] 124)).drew.cell? ((⟨wr.heap.size, 0, none⟩ : Addr).add j) = some u := cell_two_new wr (.int .i64 (PlainAid.bt p 0)) (.int .u64 U) 124
          have hszd : (wr.alloc (.cells #[.int .i64 (PlainAid.bt p 0), .int .u64 U] 124)).drew.heap.size = wr.heap.size + 1 := by rw [drew_size]; simp
          have hbd : Below w.heap.size w (wr.alloc (.cells #[.int .i64 (PlainAid.bt p 0), .int .u64 U] 124)).drew := (HB.out.alloc hwz _).drew
          generalize (wr.alloc (.cells #[.int .i64 (PlainAid.bt p 0), .int .u64 U] 124)).drew = W2 at *
          refine wpAnyH_ready (rs := [24]) (by kernel_rfl) (by simp) ?_
          refine AllReadyH.cons (o := ⟨some 60, .call { callee := .builtin .append, args := #[.tmp 36, .tmp 59], argTypes := #[47, 47] }, 47, "ref.go:139", #[⟨0, .data⟩, ⟨23, .data⟩], none⟩) rfl (fun K hK => ?_) AllReadyH.nil
          refine step_append_lies _ (by rfl) _ _ _ (by rfl) w.heap.size 124 i0 (.agg #[.int .i64 0, .int .u64 0]) 2 16 Try.underlying47 hi0 hz0 hz1 hz2 rfl (by decide) (.slice A4 k c4) k _ (by rfl) hownd ⟨wr.heap.size, 0, none⟩ 1 1 [.int .i64 (PlainAid.bt p 0), .int .u64 U] (by rfl) (by rfl) hnewd (by simp [Value.oneCell']) (by omega) (by unfold maxLen; omega) (by omega) (by omega) (wr.heap.size + 1) hszd ?_
          intro g cap w6 hown hg hat hltg
          refine hK.out _ _ trivial (fun hHeld3 => ?_)
          clear hK K
          try simp only [Act.put, List.setIfInBounds_toArray, List.set_cons_zero, List.set_cons_succ]
          refine wpAnyH_take (i := 25) (oi := ⟨some 5, .assign (.tmp 60), 47, "ref.go:139", #[⟨24, .data⟩, ⟨24, .chain⟩, ⟨0, .phase⟩, ⟨1, .phase⟩, ⟨2, .phase⟩, ⟨3, .phase⟩, ⟨4, .phase⟩, ⟨5, .phase⟩, ⟨6, .phase⟩, ⟨7, .phase⟩, ⟨8, .phase⟩, ⟨9, .phase⟩, ⟨10, .phase⟩, ⟨11, .phase⟩, ⟨12, .phase⟩, ⟨13, .phase⟩, ⟨14, .phase⟩, ⟨15, .phase⟩, ⟨16, .phase⟩, ⟨17, .phase⟩, ⟨18, .phase⟩, ⟨19, .phase⟩, ⟨20, .phase⟩, ⟨21, .phase⟩, ⟨22, .phase⟩, ⟨23, .phase⟩, ⟨24, .phase⟩], none⟩) (v := .slice (some ⟨g, 0, none⟩) (k + 1) cap) rfl (by kernel_rfl) (by kernel_rfl) (by kernel_rfl) (fun _ _ _ h => h) (Or.inl ⟨by rfl, fun w _ => by go_simp⟩) hHeld3 ?_
          try simp only [Act.put, List.setIfInBounds_toArray, List.set_cons_zero, List.set_cons_succ]
          refine wpAnyH_done (by kernel_rfl) ?_ _
          have HO6 : Hid (w6.ownsRow w.heap.size 124 2 (.slice (some ⟨g, 0, none⟩) (k + 1) cap) (k + 1) (btCells (P.take (k + 1)))) := Lib.hid (by rw [HPt.out, btCells_append]; exact hown)
          have HB6 : Hid (Below w.heap.size w w6) := Lib.hid (hbd.grown hg (by omega) (fun q hq => (hownd.lt q hq).1))
          clear hown hg hat hltg g1 g2 g3 g4 g5 g6 hc0 hc1 hc2 hc3 hc4 j0 j1 j2 j3 j4 hbp hownd hnewd hszd hbd
          go_wp2_with fail
          go_roundg (n - (k + 1))
          case measure => omega
          case rel => exact ⟨k + 1, by go_num, by omega, Nat.le_refl _, HO6, HB6⟩
        · have hltz : ¬ (k : Int) < (n : Int) := by omega
          have hke : k = n := by omega
          subst hke
          have HO2 : Hid (wr.ownsRow w.heap.size 124 2 (.slice A4 k c4) k (btCells P)) := Lib.hid (by
            have h := HO.out
            rw [List.take_of_length_le (by rw [HPl.out]; exact Nat.le_refl _)] at h
            exact h)
          have HAt : Hid (BtsAt wr wr.heap.size A4 P) := Lib.hid (by
            obtain ⟨A9, c9, h9, _, hl9⟩ := own_lies HO2.out
            simp only [Value.slice.injEq] at h9
            obtain ⟨rfl, _, rfl⟩ := h9
            exact BtsAt.of_lies hl9)
          cases hr : bitsOk P with
          | false =>
            have HRt : Hid (∀ c, Calls Try.prog 50 #[.slice A4 k c] wr fun e w' => e = .returned (.bool false) ∧ Below wr.heap.size wr w') := Lib.hid fun c => by
              have := DbRight_any (c := c) HAt.out HPf.out.1
              rw [HPl.out, hr] at this
              exact this
            have HQ := Lib.hid (HF.out hr)
            clear hr
            go_wp2_with fail
            refine (HRt.out _).mono ?_
            rintro e w4 ⟨rfl, hb4⟩
            replace hb4 := Lib.hid (below_next HB.out hb4)
            go_wp2_with fail
            go_ret3
            rw [HQ.out.1, HQ.out.2.1, HQ.out.2.2]
            exact ⟨none, 0, rfl, .inl rfl, hb4.out⟩
          | true =>
            have HRt : Hid (∀ c, Calls Try.prog 50 #[.slice A4 k c] wr fun e w' => e = .returned (.bool true) ∧ Below wr.heap.size wr w') := Lib.hid fun c => by
              have := DbRight_any (c := c) HAt.out HPf.out.1
              rw [HPl.out, hr] at this
              exact this
            have HQ := Lib.hid (HG.out hr)
            have hwb : IntKind.i64.wrap (1 + 5 * (k : Int)) = 1 + 5 * (k : Int) := by rw [IntKind.wrap_i64]; omega
            have hta : (1 + 5 * (k : Int)).toNat = 1 + 5 * k := by omega
            have hna : (0 : Int) ≤ 1 + 5 * (k : Int) := by omega
            have hnc : (1 : Int) + 5 * (k : Int) ≤ (L : Int) := by omega
            clear hr
            go_wp2_with fail
            refine (HRt.out _).mono ?_
            rintro e w4 ⟨rfl, hb4⟩
            have HA4 := Lib.hid (HAt.out.next hb4)
            have HB4 := Lib.hid (below_next HB.out hb4)
            clear hb4
            have HB5 : Hid (∀ q, Below w.heap.size w (w4.drewN q)) := Lib.hid fun q => below_q HB4.out q
            have HA5 : Hid (∀ q, BtsAt (w4.drewN q) (w4.drewN q).heap.size A4 P) := Lib.hid fun q => HA4.out.next (below_q (Below.refl _ _) q)
            go_wp2_with fail
            go_quiet (fail)
            go_wp2_with fail
            go_ret3
            rw [HQ.out.1, HQ.out.2.1, HQ.out.2.2]
            exact ⟨A4, c4, by rw [HPl.out]; rfl, HA5.out _, HB5.out _⟩

end Go.Proofs.Ytkpoeigoocbgeaa
