/- Volumes and writes for messages: of stage 7's and stage 8's texts what the contracts of the program's Blank and Folded need (slice.py). -/
import Derived.Test.YtkpoeigoocbgeaaRows
import Derived.Test.YtkpoeigoocbgeaaPlain
import Derived.Test.YtkpoeigoocbgeaaMem
import Derived.Test.YtkpoeigoocbgeaaVolP
import Derived.Test.YtkpoeigoocbgeaaMsVol
import Derived.WalkKit
import Derived.WalkSpells
import Derived.WalkLawsBesides
import Derived.Lib.Hide
import Derived.PlainAid
import Derived.Deep.OwnRows
import Derived.Deep.MidRow
import Derived.Deep.AppendLies
import Derived.Deep.RegionHeld3
import Derived.Deep.QuietTactic
import Derived.BigQuiet
import Derived.Lib.LazyBuf
import Derived.Laws.IdiomCopy
import Derived.Laws.Externs
import Derived.Laws.NewBlocks
import Derived.Lib.Walk
import Derived.Lib.SliceRun
import Derived.Lib.JoinLaws
import Derived.Lib.AppendZerosOnto
import Derived.Lib.Overlaps
import Derived.Shelf.RegionOpenPlain
import Derived.StillTailTactics
import Derived.Deep.RegionLaw
import Derived.Sort.LotA
import Derived.Shelf.SlSortCmp.KitK
import Derived.Sort.WalkB2
import Derived.Sort.WalkB12
import Derived.Deep.LoopGhost
import Derived.Deep.Cut
import Derived.Shelf.SlSortCmp.InsertionK
import Derived.Shelf.Spec.SlicesGrow
namespace Go.Proofs.Ytkpoeigoocbgeaa
open Go.RowKit
/-- What a call that hands back volumes and an error leaves. -/
def VolsEnd (vs : List Vl) (n : Int) (w : World) (e : Ending) (w' : World) : Prop :=
  ∃ A c, e = .returned (.tuple #[.slice A vs.length c, .int .i64 n]) ∧ VolsAt w' w'.heap.size A vs ∧ Below w.heap.size w w'

theorem VolsEnd.none_ (n : Int) {w w' : World} (hb : Below w.heap.size w w') : VolsEnd [] n w (.returned (.tuple #[.slice none 0 0, .int .i64 n])) w' := ⟨none, 0, rfl, .inl rfl, hb⟩

theorem isSize_any (n : Int) (w : World) : Calls Try.prog 94 #[.int .i64 n] w fun e w' => e = .returned (.bool (sizeB n)) ∧ w = w' := by
  by_cases h1 : 1 ≤ n
  · by_cases h2 : n ≤ 32
    · rw [show sizeB n = true from by simp [sizeB, h1, h2]]
      go_enter Try.func94, Try.ntmps94
      go_wp2
      go_ret
      exact ⟨rfl, rfl⟩
    · rw [show sizeB n = false from by simp [sizeB, h2]]
      have h3 : decide (n ≤ 32) = false := by simpa using h2
      go_enter Try.func94, Try.ntmps94
      go_wp2
      go_ret
      exact ⟨rfl, rfl⟩
  · rw [show sizeB n = false from by simp [sizeB, h1]]
    have h3 : decide (1 ≤ n) = false := by simpa using h1
    go_enter Try.func94, Try.ntmps94
    go_wp2
    go_ret
    exact ⟨rfl, rfl⟩

theorem isShape_any (id n : Int) (w : World) : Calls Try.prog 98 #[.int .i64 id, .int .i64 n] w fun e w' => e = .returned (.bool (shapeB id n)) ∧ w = w' := by
  by_cases h1 : 1 ≤ id
  · by_cases h2 : id ≤ 255
    · have e : shapeB id n = sizeB n := by simp [shapeB, sizeB, h1, h2]
      rw [e]
      go_enter Try.func98, Try.ntmps98
      go_wp2_with (go_at_call 94; refine (isSize_any _ _).mono ?_; rintro e w' ⟨rfl, rfl⟩)
      go_ret
      exact ⟨rfl, rfl⟩
    · rw [show shapeB id n = false from by simp [shapeB, h2]]
      have h3 : decide (id ≤ 255) = false := by simpa using h2
      go_enter Try.func98, Try.ntmps98
      go_wp2_with fail
      go_ret
      exact ⟨rfl, rfl⟩
  · rw [show shapeB id n = false from by simp [shapeB, h1]]
    have h3 : decide (1 ≤ id) = false := by simpa using h1
    go_enter Try.func98, Try.ntmps98
    go_wp2_with fail
    go_ret
    exact ⟨rfl, rfl⟩

theorem isTooLong_any (s : ByteArray) (w : World) : Calls Try.prog 100 #[.string s] w fun e w' => e = .returned (.bool (!shortB s)) ∧ w = w' := by
  by_cases h : s.size ≤ 8
  · rw [show (!shortB s) = false from by simp [shortB, h]]
    have h2 : decide (8 < (s.size : Int)) = false := by rw [decide_eq_false_iff_not]; omega
    go_enter Try.func100, Try.ntmps100
    go_wp2
    go_ret
    exact ⟨rfl, rfl⟩
  · rw [show (!shortB s) = true from by simp [shortB]; omega]
    have h2 : decide (8 < (s.size : Int)) = true := by rw [decide_eq_true_iff]; omega
    go_enter Try.func100, Try.ntmps100
    go_wp2
    go_ret
    exact ⟨rfl, rfl⟩

/-- The first text that is too long, or -1. -/
def IdxEnd (bs : List ByteArray) (w : World) (e : Ending) (w' : World) : Prop := ∃ k : Int, e = .returned (.int .i64 k) ∧ -1 ≤ k ∧ (0 ≤ k ↔ bs.all shortB = false) ∧ w = w'

theorem idxEnd_some {bs : List ByteArray} {w : World} {k : Nat} {s : ByteArray} (h : s ∈ bs) (hs : shortB s = false) : IdxEnd bs w (.returned (.int .i64 k)) w := by
  refine ⟨k, rfl, by omega, ⟨fun _ => ?_, fun _ => by omega⟩, rfl⟩
  rw [Bool.eq_false_iff]
  intro hall
  have := List.all_eq_true.1 hall s h
  rw [hs] at this
  exact absurd this (by simp)

theorem idxEnd_none {bs : List ByteArray} {w : World} (h : bs.all shortB = true) : IdxEnd bs w (.returned (.int .i64 (-1))) w :=
  ⟨-1, rfl, by omega, ⟨fun h => by omega, fun h' => by rw [h] at h'; exact absurd h' (by simp)⟩, rfl⟩

set_option maxHeartbeats 800000 in
theorem IndexFunc_any {w : World} {a : Option Addr} {c : Nat} {bs : List ByteArray} (h : Lies w w.heap.size a (bs.map Value.string)) (hl : bs.length ≤ 9223372036854775807) :
    Calls Try.prog 102 #[.slice a bs.length c, .func (.func 100) #[] #[]] w (IdxEnd bs w) := by
  have HA := Lib.hid h
  obtain ⟨n, hn⟩ : ∃ n, bs.length = n := ⟨_, rfl⟩
  have HN := Lib.hid hn
  rw [hn] at hl ⊢
  clear h hn
  go_enter Try.func102, Try.ntmps102
  go_wp2_with fail
  go_loop [5, 8] (fun _ i => ∃ k : Nat, k ≤ n ∧ i = .int .i64 k ∧ Hid ((bs.take k).all shortB = true)) (fun _ i => n - (intOf i).toNat)
  case atStart => exact ⟨0, Nat.zero_le _, rfl, Lib.hid (by simp)⟩
  case round =>
    obtain ⟨k, hk, rfl, HK⟩ := hrel
    by_cases hlt : k < n
    · have hkl : k < bs.length := by rw [HN.out]; exact hlt
      obtain ⟨b, off, hA, _, hc⟩ := HA.out.text (Below.refl _ _) hkl
      have hA' := hA
      subst hA
      have HT := Lib.hid (List.take_succ_eq_append_getElem hkl)
      obtain ⟨s, hs⟩ : ∃ s, bs[k] = s := ⟨_, rfl⟩
      have HM : Hid (s ∈ bs) := Lib.hid (by rw [← hs]; exact List.getElem_mem hkl)
      rw [hs] at hc HT
      clear hs hkl
      cases hq : shortB s with
      | true =>
        have HQ := Lib.hid hq
        clear hq
        go_wp2_with (go_at_call 100; refine (isTooLong_any _ _).mono ?_; rw [HQ.out]; rintro e w' ⟨rfl, rfl⟩)
        go_round
        case rel => exact ⟨k + 1, by omega, by go_num, Lib.hid (by rw [HT.out, List.all_append, HK.out]; simp [HQ.out])⟩
        case measure => simp [intOf]; omega
      | false =>
        have HQ := Lib.hid hq
        clear hq
        go_wp2_with (go_at_call 100; refine (isTooLong_any _ _).mono ?_; rw [HQ.out]; rintro e w' ⟨rfl, rfl⟩)
        go_ret
        exact idxEnd_some HM.out HQ.out
    · have HE : Hid (bs.all shortB = true) := Lib.hid (by have := HK.out; rwa [List.take_of_length_le (by rw [HN.out]; omega)] at this)
      go_wp2_with fail
      go_ret
      exact idxEnd_none HE.out

theorem ContainsFunc_any {w : World} {a : Option Addr} {c : Nat} {bs : List ByteArray} (h : Lies w w.heap.size a (bs.map Value.string)) (hl : bs.length ≤ 9223372036854775807) :
    Calls Try.prog 99 #[.slice a bs.length c, .func (.func 100) #[] #[]] w fun e w' => e = .returned (.bool (!bs.all shortB)) ∧ w = w' := by
  have HA := Lib.hid h
  clear h
  go_enter Try.func99, Try.ntmps99
  cases hq : bs.all shortB with
  | true =>
    have HQ := Lib.hid hq
    clear hq
    go_wp2_with (go_at_call 102; refine (IndexFunc_any HA.out hl).mono ?_; rintro e w' ⟨k, rfl, hk, hi, rfl⟩; have h0 : decide (0 ≤ k) = false := (by rw [decide_eq_false_iff_not]; intro h0; rw [hi, HQ.out] at h0; exact absurd h0 (by simp)); clear hi)
    go_ret
    exact ⟨rfl, rfl⟩
  | false =>
    have HQ := Lib.hid hq
    clear hq
    go_wp2_with (go_at_call 102; refine (IndexFunc_any HA.out hl).mono ?_; rintro e w' ⟨k, rfl, hk, hi, rfl⟩; have h0 : decide (0 ≤ k) = true := (by rw [decide_eq_true_iff]; exact hi.2 HQ.out); clear hi)
    go_ret
    exact ⟨rfl, rfl⟩

set_option maxHeartbeats 1600000 in
theorem Right_any {w : World} {A : Option Addr} {c : Nat} {vs : List Vl} (h : VolsAt w w.heap.size A vs) (hf : VolsFit vs) :
    Calls Try.prog 96 #[.slice A vs.length c] w fun e w' => e = .returned (.bool (rightB vs)) ∧ Below w.heap.size w w' := by
  have hl := hf.1
  by_cases h4 : vs.length ≤ 4
  · have HV := Lib.hid h
    have HF := Lib.hid hf
    have HR : Hid (∀ b, goodFrom 0 vs = b → rightB vs = b) := Lib.hid (fun b hb => rightB_of h4 hb)
    obtain ⟨n, hn⟩ : ∃ n, vs.length = n := ⟨_, rfl⟩
    have HN := Lib.hid hn
    rw [hn] at hl h4 ⊢
    have h4' : decide (4 < (n : Int)) = false := by rw [decide_eq_false_iff_not]; omega
    clear h hf hn
    go_enter Try.func96, Try.ntmps96
    go_wp2_with fail
    go_loopw [3, 11] (fun l i wr => ∃ k : Nat, k ≤ n ∧ i = .int .i64 k ∧ l = .int .i64 (lastOf vs k) ∧ Hid (goodN vs k) ∧ Hid (Below w.heap.size w wr)) (fun _ i _ => n - (intOf i).toNat)
    case atStart => exact ⟨0, Nat.zero_le _, rfl, rfl, Lib.hid rfl, Lib.hid (Below.refl _ _)⟩
    case round =>
      obtain ⟨k, hk, rfl, rfl, HG, HB⟩ := hrel
      by_cases hlt : k < n
      · have hkl : k < vs.length := by rw [HN.out]; exact hlt
        obtain ⟨b, off, a, c', hA, hbl, c1, c2, hly⟩ := HV.out.at_ HB.out hkl
        have hbw : b < wr.heap.size := Nat.lt_of_lt_of_le hbl HB.out.size
        have hwz : w.heap.size ≤ wr.heap.size := HB.out.size
        subst hA
        have hml := HF.out.2 _ (List.getElem_mem hkl)
        have hst := goodN_step HG.out hkl
        have HL := Lib.hid (lastOf_succ hkl)
        have hly' : ∀ o, Lies (wr.alloc o) (wr.alloc o).heap.size a (vs[k].2.map Value.string) := fun o => (hly.more hwz).next ((Below.refl _ _).alloc (Nat.le_refl _) o)
        have HLY := Lib.hid hly'
        obtain ⟨i1, hi1⟩ : ∃ i1, vs[k].1 = i1 := ⟨_, rfl⟩
        obtain ⟨bs, hbs⟩ : ∃ bs, vs[k].2 = bs := ⟨_, rfl⟩
        unfold volOk at hst
        rw [hi1, hbs] at hst
        rw [hi1] at c1 HL
        rw [hbs] at c2 HLY hml
        have HST := Lib.hid hst
        clear hi1 hbs hkl hly hly' hst
        obtain ⟨last, hlast⟩ : ∃ last, lastOf vs k = last := ⟨_, rfl⟩
        rw [hlast] at HST ⊢
        clear hlast
        have HSz := Lib.hid (HB.out.alloc hwz (.cells #[.int .i64 i1, .slice a bs.length c'] 127))
        by_cases h1 : last < i1
        · have h1' : decide (i1 ≤ last) = false := by rw [decide_eq_false_iff_not]; omega
          cases hs : shapeB i1 bs.length with
          | false =>
            have HS := Lib.hid hs
            clear hs
            go_wp2_with (go_at_call 98; refine (isShape_any _ _ _).mono ?_; rw [HS.out]; rintro e w' ⟨rfl, rfl⟩)
            go_ret
            exact ⟨by rw [HR.out false (by rw [HST.out, HS.out]; simp)]; rfl, HSz.out⟩
          | true =>
            have HS := Lib.hid hs
            clear hs
            cases ha : bs.all shortB with
            | false =>
              have HAl := Lib.hid ha
              clear ha
              go_wp2_with (first
                | (go_at_call 98; refine (isShape_any _ _ _).mono ?_; rw [HS.out]; rintro e w' ⟨rfl, rfl⟩)
                | (go_at_call 99; refine (ContainsFunc_any (HLY.out _) hml).mono ?_; rw [HAl.out]; rintro e w' ⟨rfl, rfl⟩))
              go_ret
              exact ⟨by rw [HR.out false (by rw [HST.out, HAl.out]; simp)]; rfl, HSz.out⟩
            | true =>
              have HAl := Lib.hid ha
              have HG2 : Hid (goodN vs (k + 1)) := Lib.hid (by
                show _ = _
                rw [HST.out, HS.out, ha, decide_eq_true h1]; simp)
              clear ha
              go_wp2_with (first
                | (go_at_call 98; refine (isShape_any _ _ _).mono ?_; rw [HS.out]; rintro e w' ⟨rfl, rfl⟩)
                | (go_at_call 99; refine (ContainsFunc_any (HLY.out _) hml).mono ?_; rw [HAl.out]; rintro e w' ⟨rfl, rfl⟩))
              go_roundw
              case rel => exact ⟨k + 1, by omega, by go_num, by rw [HL.out], HG2, HSz⟩
              case measure => simp [intOf]; omega
        · have h1' : decide (i1 ≤ last) = true := by rw [decide_eq_true_iff]; omega
          have H1 : Hid (decide (last < i1) = false) := Lib.hid (by rw [decide_eq_false_iff_not]; exact h1)
          go_wp2_with fail
          go_ret
          exact ⟨by rw [HR.out false (by rw [HST.out, H1.out]; simp)]; rfl, HSz.out⟩
      · have HE := Lib.hid (goodN_end HG.out (by rw [HN.out]; omega))
        go_wp2_with fail
        go_ret
        exact ⟨by rw [HR.out true HE.out]; rfl, HB.out⟩
  · have h4' : decide (4 < (vs.length : Int)) = true := by rw [decide_eq_true_iff]; omega
    rw [show rightB vs = false from by simp [rightB]; omega]
    clear h hf
    go_enter Try.func96, Try.ntmps96
    go_wp2_with fail
    go_ret
    exact ⟨rfl, Below.refl _ _⟩

theorem madeB (n : Nat) : (madeCells #[Value.string ByteArray.empty] n).toList = (blankB n).map Value.string := by
  rw [toList_madeCells_one]; simp [blankB]

/-- A new volume of n empty blocks. -/
def BlankEnd (id : Int) (n : Nat) (w : World) (e : Ending) (w' : World) : Prop :=
  ∃ g, e = .returned (.agg #[.int .i64 id, .slice (some ⟨g, 0, none⟩) n n]) ∧ w'.ownsRow w.heap.size 9 1 (.slice (some ⟨g, 0, none⟩) n n) n ((blankB n).map Value.string) ∧ Below w.heap.size w w' ∧ g < w'.heap.size

set_option maxHeartbeats 800000 in
theorem blank_any (id : Int) (n : Nat) (w : World) (hn : n ≤ 1000) :
    Calls Try.prog 95 #[.int .i64 id, .int .i64 n] w (BlankEnd id n w) := by
  obtain ⟨i0, hi0, hz0, hz1, hz2⟩ := info_parts Try.infoStrV
  have hmk : ∀ W : World, (Instr.makeSlice 125 (.int .i64 (n : Int)) (.int .i64 (n : Int))).run Try.prog W = .ok (.slice (some ⟨W.heap.size, 0, none⟩) n n) (W.alloc (.cells (madeCells #[Value.string ByteArray.empty] n) 9)) :=
    run_make_row 125 9 i0 (.string ByteArray.empty) Try.underlying125 hi0 hz0 hz1 rfl .i64 .i64 n (by rw [hz2]; omega) (by omega)
  have HMB : Hid ((madeCells #[Value.string ByteArray.empty] n).toList = (blankB n).map Value.string) := Lib.hid (madeB n)
  have HMS : Hid ((madeCells #[Value.string ByteArray.empty] n).size = n * 1) := Lib.hid (by rw [← Array.length_toList, madeB, List.length_map, blankB_length, Nat.mul_one])
  generalize madeCells #[Value.string ByteArray.empty] n = M at *
  go_enter Try.func95, Try.ntmps95
  go_wp2_with fail
  refine bodyPost_ret (v := .agg #[.int .i64 id, .slice (some ⟨w.heap.size + 1, 0, none⟩) n n]) (by simp [results, Try.results95, go_sem]) rfl ⟨w.heap.size + 1, rfl, ?_, ?_, by simp⟩
  · have := World.ownsRow_lit (base := w.heap.size) (e := 9) (size := 1) (w.alloc (.cells #[.int .i64 id, .slice (some ⟨w.heap.size + 1, 0, none⟩) n n] 127)) M n (by simp) (by unfold maxLen; omega) HMS.out
    rw [HMB.out] at this
    simpa using this
  · exact ((Below.refl _ _).alloc (Nat.le_refl _) _).alloc (by simp) _

theorem cell_two_newV (w : World) (x y : Value) (t : TypeId) : ∀ j u, [x, y][j]? = some u → (w.alloc (.cells #[x, y] t)).cell? ((⟨w.heap.size, 0, none⟩ : Addr).add j) = some u := by
  intro j u hu
  rw [WideShapes.add_plain, Nat.zero_add, Lib.cell_of_heap (heap_alloc_new _ _)]
  simpa using hu

def blankEr (l : List Int) : Int := if blankOk l = true then 0 else 1

theorem blank_no {l : List Int} (h : blankOk l = false) : blankVs l = [] ∧ blankEr l = 1 := by unfold blankVs blankEr; rw [h]; exact ⟨rfl, rfl⟩

/-- A volume that 'blank' made, laid behind the others. -/
theorem blank_more {w w0 w4 w3 : World} {base g cap g0 m : Nat} {v : Value} {vs : List Vl} {us : List Value} {id : Int} (h : OwnO w0 base v vs us) (hb0 : Below w.heap.size w w0) (hbase : base ≤ w0.heap.size) (hlow : w.heap.size ≤ base)
    (ho4 : w4.ownsRow w0.heap.size 9 1 (.slice (some ⟨g0, 0, none⟩) m m) m ((blankB m).map Value.string)) (hb4 : Below w0.heap.size w0 w4)
    (ho : w3.ownsRow base 127 2 (.slice (some ⟨g, 0, none⟩) (vs.length + 1) cap) (vs.length + 1) (volCells vs us ++ [.int .i64 id, .slice (some ⟨g0, 0, none⟩) m m]))
    (hg : (w4.alloc (.cells #[.int .i64 id, .slice (some ⟨g0, 0, none⟩) m m] 127)).grownBy w3 v.ownBlock) (hat : v.ownBlock = some g ∨ g = w4.heap.size + 1) :
    OwnO w3 base (.slice (some ⟨g, 0, none⟩) (vs.length + 1) cap) (vs ++ [(id, blankB m)]) (us ++ [.slice (some ⟨g0, 0, none⟩) m m]) ∧ Below w.heap.size w w3 := by
  have h2 := h.kept hb4
  refine ⟨h2.more (bs := blankB m) (by rw [blankB_length]; exact own_base ho4 (by omega)) (fun k hk e => ?_) ho hg hat, ?_⟩
  · have h3 := (ho4.lt k hk).1
    have h4 := (h.row.lt k e).2
    omega
  · have h1 : Below w.heap.size w w4 := hb0.trans (hb4.mono hb0.size)
    exact (h1.alloc h1.size _).grown hg (by have := h1.size; simp; omega) (fun k hk => by have := (h.row.lt k hk).1; omega)

set_option maxHeartbeats 8000000 in
set_option maxRecDepth 100000 in
theorem Blank_any {w : World} {A : Option Addr} {c : Nat} {l : List Int} (h : Lies w w.heap.size A (l.map (Value.int .i64))) (hl : l.length ≤ 9223372036854775807) :
    Calls Try.prog 84 #[.slice A l.length c] w (VolsEnd (blankVs l) (blankEr l) w) := by
  have HV := Lib.hid h
  by_cases hev : l.length % 2 = 0
  · by_cases h8 : l.length ≤ 8
    · obtain ⟨n, hn⟩ : ∃ n, l.length = n := ⟨_, rfl⟩
      have HN := Lib.hid hn
      have HOk : Hid (∀ b, prsOk l (n / 2) = true → rightB (prs l (n / 2)) = b → blankOk l = b) := Lib.hid (fun b h1 h2 => by simp [blankOk, hn, h1, h2, show n % 2 = 0 from by omega, show n ≤ 8 from by omega])
      rw [hn] at hev h8 hl ⊢
      have e1 : ((n : Int) % 2 != 0) = false := by rw [bne_eq_false_iff_eq]; omega
      have e2 : decide (8 < (n : Int)) = false := by rw [decide_eq_false_iff_not]; omega
      obtain ⟨iv, hiv, hv0, hv1, hv2⟩ := info_parts Try.infoVol
      clear h hn
      go_enter Try.func84, Try.ntmps84
      go_wp2_with fail
      go_loopw [4, 5] (fun o i wr => ∃ t j : Nat, 2 * t ≤ j ∧ j ≤ 2 * t ∧ j ≤ n ∧ i = .int .i64 j ∧ Hid (prsOk l t = true) ∧ (∃ us, Hid (OwnO wr w.heap.size o (prs l t) us)) ∧ Hid (Below w.heap.size w wr)) (fun _ i _ => n - (intOf i).toNat)
      case atStart => exact ⟨0, 0, by omega, by omega, Nat.zero_le _, rfl, Lib.hid rfl, ⟨[], Lib.hid (OwnO.none_ _ _)⟩, Lib.hid (Below.refl _ _)⟩
      case round =>
        obtain ⟨t, j, ht1, ht2, hj, rfl, HP, ⟨us, HO⟩, HB⟩ := hrel
        obtain ⟨Ao, co, ho, hxx⟩ := own_lies HO.out.row
        clear hxx
        subst ho
        rw [prs_length] at HO ⊢
        have hwz : w.heap.size ≤ wr.heap.size := HB.out.size
        by_cases hlt : j < n
        · have hj1 : j + 1 < n := by omega
          obtain ⟨b, off, hA, hbl, x1⟩ := HV.out.numB HB.out (k := j) (by rw [HN.out]; exact hlt)
          obtain ⟨b', off', hA', _, x2⟩ := HV.out.numB HB.out (k := j + 1) (by rw [HN.out]; exact hj1)
          subst hA
          cases hA'
          have HT : Hid (prs l (t + 1) = prs l t ++ [(l.getD j 0, blankB (l.getD (j + 1) 0).toNat)]) := Lib.hid (by rw [prs, show 2 * t = j from by omega])
          have HP2 : Hid (sizeB (l.getD (j + 1) 0) = true → prsOk l (t + 1) = true) := Lib.hid (fun hh => by rw [prsOk, HP.out, show 2 * t + 1 = j + 1 from by omega, hh]; rfl)
          have HNo : Hid (sizeB (l.getD (j + 1) 0) = false → blankOk l = false) := Lib.hid (fun hh => blankOk_no_size (t := t) (by rw [HN.out]; omega) (by rw [show 2 * t + 1 = j + 1 from by omega]; exact hh))
          obtain ⟨id, hid⟩ : ∃ id, l.getD j 0 = id := ⟨_, rfl⟩
          obtain ⟨q, hq⟩ : ∃ q, l.getD (j + 1) 0 = q := ⟨_, rfl⟩
          rw [hid] at x1 HT
          rw [hq] at x2 HT HP2 HNo
          clear hid hq
          have hj0 : (0 : Int) ≤ (j : Int) := Int.natCast_nonneg _
          have hj8 : (j : Int) < (n : Int) := by omega
          cases hs : sizeB q with
          | false =>
            have HE := Lib.hid (blank_no (HNo.out hs))
            have HS := Lib.hid hs
            clear hs HP2 HNo
            go_wp2_with (go_at_call 94; refine (isSize_any _ _).mono ?_; rw [HS.out]; rintro e w' ⟨rfl, rfl⟩)
            go_ret2
            rw [HE.out.1, HE.out.2]
            exact VolsEnd.none_ _ HB.out
          | true =>
            have HS := Lib.hid hs
            have HP3 := Lib.hid (HP2.out hs)
            have hqb : 1 ≤ q ∧ q ≤ 32 := by simpa [sizeB] using hs
            obtain ⟨m, rfl⟩ := Int.eq_ofNat_of_zero_le (show 0 ≤ q by omega)
            rw [Int.toNat_natCast] at HT
            clear hs HP2 HNo
            have HEnd : Hid (∀ g0 w4 g cap w3, w4.ownsRow wr.heap.size 9 1 (.slice (some ⟨g0, 0, none⟩) m m) m ((blankB m).map Value.string) → Below wr.heap.size wr w4 → w3.ownsRow w.heap.size 127 2 (.slice (some ⟨g, 0, none⟩) (t + 1) cap) (t + 1) (volCells (prs l t) us ++ [.int .i64 id, .slice (some ⟨g0, 0, none⟩) m m]) → (w4.alloc (.cells #[.int .i64 id, .slice (some ⟨g0, 0, none⟩) m m] 127)).grownBy w3 (Value.slice Ao t co).ownBlock → ((Value.slice Ao t co).ownBlock = some g ∨ g = w4.heap.size + 1) → OwnO w3 w.heap.size (.slice (some ⟨g, 0, none⟩) (t + 1) cap) (prs l (t + 1)) (us ++ [.slice (some ⟨g0, 0, none⟩) m m]) ∧ Below w.heap.size w w3) := Lib.hid (fun g0 w4 g cap w3 ho4 hb4 ho hg hat => by
              have := blank_more (w := w) HO.out HB.out hwz (Nat.le_refl _) ho4 hb4 (by rw [prs_length]; exact ho) hg hat
              rw [prs_length] at this
              rw [HT.out]
              exact this)
            have HOwnV : Hid (∀ w4, Below wr.heap.size wr w4 → w4.ownsRow w.heap.size 127 2 (.slice Ao t co) t (volCells (prs l t) us)) := Lib.hid (fun w4 hb => by have := (HO.out.kept hb).row; rw [prs_length] at this; exact this)
            go_wp2_with (go_at_call 94; refine (isSize_any _ _).mono ?_; rw [HS.out]; rintro e w' ⟨rfl, rfl⟩)
            have hw1 : IntKind.i64.wrap ((j : Int) + 1) = (j : Int) + 1 := by rw [IntKind.wrap_i64]; omega
            have hw2 : (0 : Int) ≤ (j : Int) + 1 := by omega
            have hw3 : ((j : Int) + 1).toNat = j + 1 := by omega
            have hw4 : (j : Int) + 1 < (n : Int) := by omega
            have HBl : Hid (Calls Try.prog 95 #[.int .i64 id, .int .i64 m] wr.drew fun e w4 => ∃ g0, e = .returned (.agg #[.int .i64 id, .slice (some ⟨g0, 0, none⟩) m m]) ∧ w4.ownsRow wr.heap.size 9 1 (.slice (some ⟨g0, 0, none⟩) m m) m ((blankB m).map Value.string) ∧ Below wr.heap.size wr w4) := Lib.hid ((blank_any id m wr.drew (by omega)).mono (fun e w4 ⟨g0, h1, h2, h3, _⟩ => ⟨g0, h1, h2, ⟨h3.os, h3.tape, h3.output, h3.size, h3.block⟩⟩))
            go_region_law (first
              | (refine step_append_lies _ (by rfl) _ _ _ (by rfl) w.heap.size 127 iv (.agg #[.int .i64 0, .slice none 0 0]) 2 32 Try.underlying88 hiv hv0 hv1 hv2 rfl (by decide) (.slice Ao t co) t _ (by rfl) ((HOwnV.out w4 HB4.out).alloc _) ⟨w4.heap.size, 0, none⟩ 1 1 [.int .i64 id, .slice (some ⟨g0, 0, none⟩) m m] (by rfl) (by rfl) (cell_two_newV _ _ _ _) (by simp [Value.oneCell']) (by omega) (by unfold maxLen; omega) (by omega) (by have := HB4.out.size; simp; omega) (w4.heap.size + 1) (by simp) ?_; intro g cap w3 ho3 hg3 hat3 hlt3)
              | (go_simp; go_at_call 95; refine HBl.out.mono ?_; rintro e w4 ⟨g0, rfl, ho4, hb4⟩; have HO4 := Lib.hid ho4; have HB4 := Lib.hid hb4; clear ho4 hb4; dsimp only))
            all_goals
              obtain ⟨hE1, hE2⟩ := HEnd.out g0 w4 g cap w3 HO4.out HB4.out ho3 hg3 hat3
              have HE1 := Lib.hid hE1
              have HE2 := Lib.hid hE2
              clear ho3 hg3 hat3 hE1 hE2 hw1 hw2 hw3 hw4
              go_wp2_with fail
              go_roundw
              case rel => exact ⟨t + 1, j + 2, by omega, by omega, by omega, by go_num, HP3, ⟨_, HE1⟩, HE2⟩
              case measure => simp [intOf]; omega
        · have HTn : Hid (t = n / 2) := Lib.hid (by omega)
          have HFt : Hid (VolsFit (prs l t)) := Lib.hid ⟨by rw [prs_length]; omega, fun v hv => by have := prs_bounds HP.out v hv; omega⟩
          obtain ⟨A9, c9, hv9, hvol9⟩ := HO.out.vols
          rw [prs_length] at hv9
          simp only [Value.slice.injEq] at hv9
          obtain ⟨rfl, _, rfl⟩ := hv9
          have HVol := Lib.hid hvol9
          have HRt : Hid (∀ c, Calls Try.prog 96 #[.slice Ao t c] wr fun e w' => e = .returned (.bool (rightB (prs l t))) ∧ Below wr.heap.size wr w') := Lib.hid (fun c => by
            have := Right_any (c := c) HVol.out HFt.out
            rw [prs_length] at this
            exact this)
          have HOk2 : Hid (blankOk l = rightB (prs l t)) := Lib.hid (HOk.out _ (by rw [← HTn.out]; exact HP.out) (by rw [HTn.out]))
          clear hvol9
          cases hr : rightB (prs l t) with
          | false =>
            rw [hr] at HRt HOk2
            have HE := Lib.hid (blank_no HOk2.out)
            clear hr
            go_wp2_with (go_at_call 96; refine (HRt.out _).mono ?_; rintro e w1 ⟨rfl, hb⟩; have HB1 := Lib.hid (below_next HB.out hb); clear hb)
            go_ret2
            rw [HE.out.1, HE.out.2]
            exact VolsEnd.none_ _ HB1.out
          | true =>
            rw [hr] at HRt HOk2
            have HE : Hid (∀ w1, Below wr.heap.size wr w1 → VolsEnd (blankVs l) (blankEr l) w (.returned (.tuple #[.slice Ao t co, .int .i64 0])) w1) := Lib.hid (fun w1 hb => by
              unfold blankVs blankEr
              rw [HOk2.out, if_pos rfl, if_pos rfl, HN.out, ← HTn.out]
              exact ⟨Ao, co, by rw [prs_length], HVol.out.next hb, below_next HB.out hb⟩)
            clear hr
            go_wp2_with (go_at_call 96; refine (HRt.out _).mono ?_; rintro e w1 ⟨rfl, hb⟩; have HE1 := Lib.hid (HE.out w1 hb); clear hb)
            go_ret2
            exact HE1.out
    · have e1 : ((l.length : Int) % 2 != 0) = false := by rw [bne_eq_false_iff_eq]; omega
      have e2 : decide (8 < (l.length : Int)) = true := by rw [decide_eq_true_iff]; omega
      have hno : blankOk l = false := by simp [blankOk, h8]
      rw [(blank_no hno).1, (blank_no hno).2]
      clear h hno
      go_enter Try.func84, Try.ntmps84
      go_wp2_with fail
      go_ret2
      exact VolsEnd.none_ _ (Below.refl _ _)
  · have e1 : ((l.length : Int) % 2 != 0) = true := by rw [bne_iff_ne]; omega
    have hno : blankOk l = false := by simp [blankOk, hev]
    rw [(blank_no hno).1, (blank_no hno).2]
    clear h hno
    go_enter Try.func84, Try.ntmps84
    go_wp2_with fail
    go_ret2
    exact VolsEnd.none_ _ (Below.refl _ _)

end Go.Proofs.Ytkpoeigoocbgeaa

namespace Go.Proofs.Ytkpoeigoocbgeaa
open Go.Shelf Go.RowKit Go.Lib Go.Sort
def cmpI (a b : Int) : Int := if a < b then -1 else if b < a then 1 else 0

def cmpW (a b : Wr) : Int := if a.vol = b.vol then cmpI a.block b.block else cmpI a.vol b.vol

theorem cmpI_lt (a b : Int) : cmpI a b < 0 ↔ a < b := by unfold cmpI; split <;> (try split) <;> omega

theorem cmpW_lt (a b : Wr) : cmpW a b < 0 ↔ ltW a b = true := by
  rw [ltW_iff]; unfold cmpW; split
  · rw [cmpI_lt]; omega
  · rw [cmpI_lt]; omega

set_option maxRecDepth 100000 in
theorem isNaN_any (a : Int) (w : World) : Calls Try.prog 101 #[.int .i64 a] w fun e w' => e = .returned (.bool false) ∧ w' = w := by
  go_enter Try.func101, Try.ntmps101
  go_wp2
  go_ret
  simp

set_option maxHeartbeats 800000 in
set_option maxRecDepth 100000 in
theorem Compare_any (a b : Int) (w : World) : Calls Try.prog 97 #[.int .i64 a, .int .i64 b] w fun e w' => e = .returned (.int .i64 (cmpI a b)) ∧ w' = w := by
  have hN := isNaN_any
  by_cases h1 : a < b
  · rw [show cmpI a b = -1 from by unfold cmpI; rw [if_pos h1]]
    go_enter Try.func97, Try.ntmps97
    go_wp2_with (go_at_call 101; refine (hN _ _).mono ?_; rintro e w' ⟨rfl, rfl⟩)
    go_ret
    exact ⟨rfl, rfl⟩
  · by_cases h2 : b < a
    · rw [show cmpI a b = 1 from by unfold cmpI; rw [if_neg h1, if_pos h2]]
      go_enter Try.func97, Try.ntmps97
      go_wp2_with (go_at_call 101; refine (hN _ _).mono ?_; rintro e w' ⟨rfl, rfl⟩)
      go_ret
      exact ⟨rfl, rfl⟩
    · rw [show cmpI a b = 0 from by unfold cmpI; rw [if_neg h1, if_neg h2]]
      go_enter Try.func97, Try.ntmps97
      go_wp2_with (go_at_call 101; refine (hN _ _).mono ?_; rintro e w' ⟨rfl, rfl⟩)
      go_ret
      exact ⟨rfl, rfl⟩

set_option maxHeartbeats 1000000 in
set_option maxRecDepth 100000 in
theorem compare_any (x y : Wr) (W : World) : Calls Try.prog 90 #[.agg #[.int .i64 x.vol, .int .i64 x.block, .string x.data], .agg #[.int .i64 y.vol, .int .i64 y.block, .string y.data]] W fun e w' => e = .returned (.int .i64 (cmpW x y)) ∧ ∃ q os', w' = grow (W.drewN q) os' := by
  obtain ⟨v1, b1, s1⟩ := x
  obtain ⟨v2, b2, s2⟩ := y
  have hC := Compare_any
  by_cases h : v1 = v2
  · subst h
    rw [show cmpW ⟨v1, b1, s1⟩ ⟨v1, b2, s2⟩ = cmpI b1 b2 from by unfold cmpW; simp]
    obtain ⟨r, hr⟩ : ∃ r, cmpI b1 b2 = r := ⟨_, rfl⟩
    have HR := Lib.hid hr
    rw [hr]
    clear hr
    simp only
    go_enter Try.func90, Try.ntmps90
    go_wp2_with (go_at_call 97; refine (hC _ _ _).mono ?_; rw [HR.out]; rintro e w' ⟨rfl, rfl⟩)
    go_ret
    exact ⟨rfl, 0, _, by rw [alloc_eq_grow, alloc_eq_grow, grow_grow]; rfl⟩
  · rw [show cmpW ⟨v1, b1, s1⟩ ⟨v2, b2, s2⟩ = cmpI v1 v2 from by unfold cmpW; simp [h]]
    obtain ⟨r, hr⟩ : ∃ r, cmpI v1 v2 = r := ⟨_, rfl⟩
    have HR := Lib.hid hr
    have h' : (v1 != v2) = true := by rw [bne_iff_ne]; exact h
    rw [hr]
    clear hr h
    simp only
    go_enter Try.func90, Try.ntmps90
    go_wp2_with (go_at_call 97; refine (hC _ _ _).mono ?_; rw [HR.out]; rintro e w' ⟨rfl, rfl⟩)
    go_ret
    exact ⟨rfl, 0, _, by rw [alloc_eq_grow, alloc_eq_grow, grow_grow]; rfl⟩

end Go.Proofs.Ytkpoeigoocbgeaa

namespace Go.Proofs.Ytkpoeigoocbgeaa
theorem sorted_at {l : List Wr} (h : sortedW l) {i : Nat} (hi : i + 1 < l.length) : ltW l[i] l[i + 1] = true := by
  induction l generalizing i with
  | nil => simp at hi
  | cons x r ih =>
    cases i with
    | zero => exact h.1 _ (List.getElem_mem (by simpa using hi))
    | succ i => simpa using ih h.2 (i := i) (by simpa using hi)

theorem sorted_of {l : List Wr} (h : ∀ i, (hi : i + 1 < l.length) → ltW l[i] l[i + 1] = true) : sortedW l := by
  induction l with
  | nil => trivial
  | cons x r ih =>
    have hr : sortedW r := ih (fun i hi => h (i + 1) (by simpa using hi))
    refine ⟨fun y hy => ?_, hr⟩
    cases r with
    | nil => cases hy
    | cons z r' =>
      have h0 : ltW x z = true := by simpa using h 0 (by simp)
      rcases List.mem_cons.1 hy with e | e
      · rw [e]; exact h0
      · exact ltW_trans h0 (hr.1 y e)

theorem not_fold {l : List Wr} {i : Nat} (hi : i + 1 < l.length) (h : ltW l[i] l[i + 1] = false) : l ≠ foldW l := fun e => by
  have hs : sortedW l := by rw [e]; exact foldW_sorted l
  rw [sorted_at hs hi] at h; cases h

end Go.Proofs.Ytkpoeigoocbgeaa

namespace Go.Proofs.Ytkpoeigoocbgeaa
open Go.Shelf Go.RowKit Go.Lib Go.Sort
set_option maxHeartbeats 4000000 in
set_option maxRecDepth 100000 in
theorem Folded_any {w : World} {A : Option Addr} {c : Nat} {ws : List Wr} (h : WrsAt w w.heap.size A ws) (hn : ws.length ≤ 4000) :
    Calls Try.prog 72 #[.slice A ws.length c] w fun e w' => e = .returned (.bool (eqW ws (foldW ws))) ∧ Below w.heap.size w w' := by
  have HV := Lib.hid h
  have mixed : Try.prog.follows .mixedOrders = true := by kernel_rfl
  obtain ⟨n, hnn⟩ : ∃ n, ws.length = n := ⟨_, rfl⟩
  have HN := Lib.hid hnn
  rw [hnn] at hn ⊢
  clear h hnn
  go_enter Try.func72, Try.ntmps72
  go_wp2
  go_loopg [3] n (fun kx s wr => ∃ k : Nat, k ≤ n ∧ n - k ≤ kx ∧ s = .int .i64 ((k : Int) + 1) ∧ Hid (∀ i, (hi : i + 1 < ws.length) → i < k → ltW ws[i] ws[i + 1] = true) ∧ Hid (Below w.heap.size w wr))
  case atStart => exact ⟨0, Nat.zero_le _, by omega, rfl, Lib.hid (fun i hi h => by omega), Lib.hid (Below.refl _ _)⟩
  case round =>
    obtain ⟨k, hk, hkx, rfl, HI, HB⟩ := hrel
    by_cases hlt : k + 1 < n
    · have hltz : (k : Int) + 1 < (n : Int) := by omega
      have h1 : k < ws.length := by rw [HN.out]; omega
      have h2 : k + 1 < ws.length := by rw [HN.out]; omega
      have hcg := fun q os => compare_any ws[k] ws[k + 1] (grow (wr.drewN q) os)
      obtain ⟨bb, oo, hA1, z0, z1, z2⟩ := HV.out.grown_at HB.out HB.out.size h1
      obtain ⟨bb', oo', hA2, y0, y1, y2⟩ := HV.out.grown_at HB.out HB.out.size h2
      subst hA1
      cases hA2
      have p0 : (0 : Int) ≤ (k : Int) := Int.natCast_nonneg _
      have p1 : (k : Int) < (n : Int) := by omega
      have p2 : (0 : Int) ≤ (k : Int) + 1 := by omega
      have p3 : ((k : Int) + 1).toNat = k + 1 := by omega
      have p4 : IntKind.i64.wrap (k : Int) = (k : Int) := by rw [IntKind.wrap_i64]; omega
      have p5 : IntKind.i64.wrap ((k : Int) + 1 - 1) = (k : Int) := by rw [IntKind.wrap_i64]; omega
      by_cases hc : cmpW ws[k] ws[k + 1] < 0
      · have HI2 : Hid (∀ i, (hi : i + 1 < ws.length) → i < k + 1 → ltW ws[i] ws[i + 1] = true) := Lib.hid (fun i hi h => by
          by_cases e : i = k
          · subst e; exact (cmpW_lt _ _).1 hc
          · exact HI.out i hi (by omega))
        obtain ⟨r, hr⟩ : ∃ r, cmpW ws[k] ws[k + 1] = r := ⟨_, rfl⟩
        rw [hr] at hcg hc
        have hc' : ¬ 0 ≤ r := by omega
        generalize ws[k] = xb at hcg z0 z1 z2
        generalize ws[k + 1] = xi at hcg y0 y1 y2
        clear hr
        go_wp2_with fail
        go_quiet_grown (first | (go_at_call 90; refine Calls.grown_of (hcg _ _)))
        have HB5 : Hid (Below w.heap.size w (grow (wr.drewN nq) osq)) := Lib.hid (HB.out.trans ((below_grown _ nq osq).mono HB.out.size))
        clear z0 z1 z2 y0 y1 y2 hcg
        generalize grow (wr.drewN nq) osq = w5 at HB5 ⊢
        go_wp2_with fail
        go_roundg (n - (k + 1))
        case measure => omega
        case rel => exact ⟨k + 1, by omega, Nat.le_refl _, by first | rfl | go_num | (congr 1; omega), HI2, HB5⟩
      · have HE : Hid (eqW ws (foldW ws) = false) := Lib.hid (eqW_ne (not_fold h2 (by
          cases hq : ltW ws[k] ws[k + 1] with
          | false => rfl
          | true => exact absurd ((cmpW_lt _ _).2 hq) hc)))
        obtain ⟨r, hr⟩ : ∃ r, cmpW ws[k] ws[k + 1] = r := ⟨_, rfl⟩
        rw [hr] at hcg hc
        have hc' : 0 ≤ r := by omega
        generalize ws[k] = xb at hcg z0 z1 z2
        generalize ws[k + 1] = xi at hcg y0 y1 y2
        clear hr hc
        go_wp2_with fail
        go_quiet_grown (first | (go_at_call 90; refine Calls.grown_of (hcg _ _)))
        have HB5 : Hid (Below w.heap.size w (grow (wr.drewN nq) osq)) := Lib.hid (HB.out.trans ((below_grown _ nq osq).mono HB.out.size))
        clear z0 z1 z2 y0 y1 y2 hcg
        generalize grow (wr.drewN nq) osq = w5 at HB5 ⊢
        go_wp2_with fail
        go_ret
        exact ⟨by rw [HE.out]; rfl, HB5.out⟩
    · have hltz : ¬ (k : Int) + 1 < (n : Int) := by omega
      have HE : Hid (eqW ws (foldW ws) = true) := Lib.hid (by
        have : foldW ws = ws := foldW_self (sorted_of (fun i hi => HI.out i hi (by rw [HN.out] at hi; omega)))
        rw [this]; exact eqW_self _)
      go_wp2_with fail
      go_ret
      exact ⟨by rw [HE.out]; rfl, HB.out⟩

end Go.Proofs.Ytkpoeigoocbgeaa
