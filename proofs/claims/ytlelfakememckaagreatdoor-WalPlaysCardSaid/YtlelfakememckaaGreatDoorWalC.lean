/- Contracts of numbers, decodeSlot, decodeRecord. -/
import Derived.Test.YtlelfakememckaaGreatDoorWalB
import Derived.Test.YtlelfakememckaaGreatDoorRefD
import Derived.StillTailTactics
namespace Go.Proofs.YtlelfakememckaaGreatDoor
open Go.RowKit

/-- The numbers of some widths at the beginning, nothing but zero bytes behind. -/
def numsOf : List UInt8 → List Int → Option (List Int)
  | r, [] => if zeroB r = true then some [] else none
  | r, k :: ks => if numE r k = 0 then (numsOf (numR r k) ks).map (fun xs => numN r k :: xs) else none
def headOf (l : List UInt8) (c : UInt8) (ks : List Int) : Option (List Int) := if cutE l c = true then numsOf (cutR l c) ks else none

def intV (x : Int) : Value := .int .i64 x
theorem intV_snoc (xs : List Int) (x : Int) : xs.map intV ++ [.int .i64 x] = (xs ++ [x]).map intV := by rw [List.map_append]; rfl

theorem numR_le (r : List UInt8) (k : Int) : (numR r k).length ≤ r.length := by
  unfold numR; split
  · rw [List.length_drop]; omega
  · simp
theorem cutR_le (l : List UInt8) (c : UInt8) : (cutR l c).length ≤ l.length := by
  unfold cutR; split
  · simp
  · exact Nat.le_refl _

/-- What numbers leaves. -/
def NumsEnd (o : Option (List Int)) (w : World) (e : Ending) (w' : World) : Prop :=
  (match o with
   | some xs => ∃ A c, e = .returned (.tuple #[.slice A xs.length c, .bool true]) ∧ Lies w' w'.heap.size A (xs.map intV)
   | none => e = .returned (.tuple #[.slice none 0 0, .bool false])) ∧ Below w.heap.size w w'

theorem numsEnd_none {w w' : World} (hb : Below w.heap.size w w') : NumsEnd none w (.returned (.tuple #[.slice none 0 0, .bool false])) w' := ⟨rfl, hb⟩

set_option maxHeartbeats 1600000 in
set_option maxRecDepth 100000 in
theorem numbers_any (l : List UInt8) (c : UInt8) (ks : List Int) (A : Option Addr) (n cap : Nat) (w : World) (hl : l.length ≤ 4096) (hk : ks.length = n) (hn : n ≤ 100) (hA : Lies w w.heap.size A (ks.map intV)) :
    Calls Tryz.prog 83 #[.string (str l), .string ⟨#[c]⟩, .slice A n cap] w (NumsEnd (headOf l c ks) w) := by
  obtain ⟨i1, hi1, hy0, hy1, hy2⟩ := info_parts Tryz.infoInt5
  have HC := Lib.hid (fun w => CutPrefix_any l c w (by omega))
  have HK := Lib.hid hk
  have HA := Lib.hid hA
  have hlen := cutR_le l c
  unfold headOf
  cases hc : cutE l c with
  | false =>
    rw [hc] at HC
    rw [if_neg (by simp)]
    generalize str (cutR l c) = R at *
    clear hc hlen HA HK hk hA
    go_enter Tryz.func83, Tryz.ntmps83
    go_wp2_with fail
    refine (HC.out _).mono ?_
    rintro e w' ⟨rfl, rfl⟩
    go_wp2_with fail
    go_ret2
    exact numsEnd_none (Below.refl _ _)
  | true =>
    rw [hc] at HC
    rw [if_pos rfl]
    generalize cutR l c = r0 at *
    have hr0 : r0.length ≤ 4096 := by omega
    clear hc hlen hk hA
    go_enter Tryz.func83, Tryz.ntmps83
    go_wp2_with fail
    refine (HC.out _).mono ?_
    rintro e w' ⟨rfl, rfl⟩
    go_wp2_with fail
    go_loopw [8, 10, 26] (fun s v i wr => ∃ (q : Nat) (r : List UInt8) (acc : List Int), q ≤ n ∧ r.length ≤ 4096 ∧ acc.length = q ∧ i = .int .i64 q ∧ s = .string (str r) ∧ Hid (numsOf r0 ks = (numsOf r (ks.drop q)).map (fun xs => acc ++ xs)) ∧ Hid (wr.ownsRow w.heap.size 3 1 v acc.length (acc.map intV) ∧ Below w.heap.size w wr)) (fun _ _ i _ => n - (intOf i).toNat)
    case atStart => exact ⟨0, r0, [], by omega, hr0, rfl, rfl, rfl, Lib.hid (by simp), Lib.hid ⟨World.ownsRow_nil _ _ _ _, Below.refl _ _⟩⟩
    case round =>
      obtain ⟨q, r, acc, hq, hr, hacc, rfl, rfl, HG, HO⟩ := hrel
      by_cases hlt : q < n
      · have hqk : q < ks.length := by rw [HK.out]; exact hlt
        obtain ⟨b, off, hA, _, hcell⟩ := HA.out.at_ (fun e => by simp at e; subst e; simp at hqk)
        subst hA
        have c1 := hcell q (by simpa using hqk)
        rw [List.getElem_map] at c1
        have hblt : b < w.heap.size := by
          obtain ⟨b', off', h1, h2, _⟩ := HA.out.at_ (fun e => by simp at e; subst e; simp at hqk)
          simp only [Option.some.injEq, Addr.mk.injEq, and_true] at h1
          omega
        have hdrop : ks.drop q = ks[q] :: ks.drop (q + 1) := List.drop_eq_getElem_cons hqk
        obtain ⟨k, hk⟩ : ∃ k, ks[q] = k := ⟨_, rfl⟩
        rw [hk] at c1 hdrop
        have c2 : wr.cell? ⟨b, off + q, none⟩ = some (.int .i64 k) := (HO.out.2.cell (p := ⟨b, off + q, none⟩) hblt).trans c1
        have hnum := fun w => Number_any (str r) k w (by rw [str_size]; unfold maxLen; omega)
        rw [str_list] at hnum
        have HN := Lib.hid hnum
        have hRle := numR_le r k
        have HG2 : Hid (numE r k = 0 → numsOf r0 ks = (numsOf (numR r k) (ks.drop (q + 1))).map (fun xs => (acc ++ [numN r k]) ++ xs)) := Lib.hid (fun h0 => by
          rw [HG.out, hdrop]
          show (if numE r k = 0 then _ else _ : Option (List Int)).map _ = _
          rw [if_pos h0, Option.map_map]
          congr 1
          funext xs
          simp)
        have HG3 : Hid (numE r k ≠ 0 → numsOf r0 ks = none) := Lib.hid (fun h0 => by
          rw [HG.out, hdrop]
          show (if numE r k = 0 then _ else _ : Option (List Int)).map _ = _
          rw [if_neg h0]; rfl)
        clear hcell c1 hdrop hk hnum hqk HG
        generalize numE r k = E at *
        generalize numN r k = X at *
        generalize numR r k = r2 at *
        go_wp2_with fail
        refine (HN.out _).mono ?_
        rintro e w1 ⟨rfl, hb1⟩
        have HO1 : Hid (w1.ownsRow w.heap.size 3 1 _ acc.length (acc.map intV) ∧ Below w.heap.size w w1) := Lib.hid ⟨own_kept HO.out.1 hb1, HO.out.2.trans (hb1.mono HO.out.2.size)⟩
        clear hb1 c2 HO
        by_cases hE : E = 0
        · subst hE
          have HGn := Lib.hid (HG2.out rfl)
          clear HG2 HG3
          go_wp2_with (at_builtin; refine wpList_append_own_at _ rfl (.tmp 39) (.tmp 41) 28 rfl w.heap.size 3 i1 (.int .i64 0) 1 8 Tryz.underlying28 hi1 hy0 hy1 hy2 rfl (by decide) _ acc.length (acc.map intV) rfl (HO1.out.1.alloc _) ⟨w1.heap.size, 0, none⟩ 1 1 [.int .i64 X] rfl rfl ?c1 ?c2 ?c3 ?c4 ?c5 ?_)
          case c1 => exact cell_one_new _ _ _
          case c2 => intro u hu; simp at hu; subst hu; rfl
          case c3 => unfold maxLen; omega
          case c4 => omega
          case c5 => have := HO1.out.2.size; simp; omega
          intro v3 w3 hown3 hg3 _ _
          rw [intV_snoc] at hown3
          have hbel2 : Below w.heap.size w (w1.alloc (.cells #[.int .i64 X] 3)) := HO1.out.2.alloc HO1.out.2.size _
          have HO3 : Hid (w3.ownsRow w.heap.size 3 1 v3 (acc ++ [X]).length ((acc ++ [X]).map intV) ∧ Below w.heap.size w w3) := Lib.hid ⟨by rw [List.length_append, hacc]; exact hown3, hbel2.grown hg3 hbel2.size (fun g hg => (HO1.out.1.lt g hg).1)⟩
          clear hg3 hown3 hbel2 HO1
          go_wp2
          go_roundw
          case rel => exact ⟨q + 1, r2, acc ++ [X], by omega, by omega, by simp [hacc], by go_num, rfl, HGn, HO3⟩
          case measure => simp [intOf]; omega
        · have hEb : (E != 0) = true := by simpa using hE
          have HGn := Lib.hid (HG3.out hE)
          clear HG2 HG3 hE
          go_wp2_with fail
          go_ret2
          rw [HGn.out]
          exact numsEnd_none HO1.out.2
      · have HQ : Hid (ks.drop q = []) := Lib.hid (by rw [List.drop_eq_nil_iff, HK.out]; omega)
        have hge : n ≤ q := by omega
        have hlt2 : decide ((q : Int) < (n : Int)) = false := by rw [decide_eq_false_iff_not]; omega
        have HT := Lib.hid (fun w => Trim_any r w (by omega))
        have hz := zeroB_trimL (trimR r)
        rw [zeroB_trimR] at hz
        have HG4 : Hid (numsOf r0 ks = if zeroB r = true then some acc else none) := Lib.hid (by
          rw [HG.out, HQ.out]
          unfold numsOf
          split
          · simp
          · rfl)
        obtain ⟨A9, c9, hv9, _, hl9⟩ := own_lies HO.out.1
        subst hv9
        have HL9 := Lib.hid hl9
        have HT9 : Hid ((str (trimL (trimR r))).toList = trimL (trimR r)) := Lib.hid (by rw [Lib.toList_data, str_list])
        generalize trimL (trimR r) = t at *
        clear HG HQ hl9
        cases hzb : zeroB r with
        | true =>
          rw [hzb] at hz HG4
          have HG5 : Hid (numsOf r0 ks = some acc) := Lib.hid (HG4.out.trans (if_pos rfl))
          clear HG4
          have ht : t = [] := by simpa using hz
          subst ht
          obtain ⟨S, hS⟩ : ∃ S, str [] = S := ⟨_, rfl⟩
          have hne : S.toList = [] := by rw [← hS]; exact HT9.out
          rw [hS] at HT
          clear hS HT9 hz hzb
          go_wp2_with fail
          refine (HT.out _).mono ?_
          rintro e w5 ⟨rfl, m5, rfl⟩
          go_wp2_with fail
          go_ret2
          rw [HG5.out]
          exact ⟨⟨A9, c9, by rw [hacc]; rfl, HL9.out.next (below_drawsW _ _)⟩, HO.out.2.trans ((below_drawsW _ _).mono HO.out.2.size)⟩
        | false =>
          rw [hzb] at hz HG4
          have HG5 : Hid (numsOf r0 ks = none) := Lib.hid (HG4.out.trans (if_neg (by simp)))
          clear HG4
          obtain ⟨S, hS⟩ : ∃ S, str t = S := ⟨_, rfl⟩
          have hne : (S.toList == []) = false := by rw [← hS, HT9.out]; cases t with | nil => simp at hz | cons x t => rfl
          have hne2 : S.toList ≠ [] := by simpa using hne
          rw [hS] at HT
          clear hS HT9 hz hzb
          go_wp2_with fail
          refine (HT.out _).mono ?_
          rintro e w5 ⟨rfl, m5, rfl⟩
          go_wp2_with fail
          go_ret2
          rw [HG5.out]
          exact numsEnd_none (HO.out.2.trans ((below_drawsW _ _).mono HO.out.2.size))

theorem numsOf_length : ∀ (ks : List Int) (r : List UInt8) {xs : List Int}, numsOf r ks = some xs → xs.length = ks.length
  | [], r, xs, h => by
    unfold numsOf at h
    split at h
    · simp at h; subst h; rfl
    · cases h
  | k :: ks, r, xs, h => by
    unfold numsOf at h
    split at h
    · cases hn : numsOf (numR r k) ks with
      | none => rw [hn] at h; cases h
      | some ys =>
        rw [hn] at h
        simp at h
        subst h
        simp [numsOf_length ks _ hn]
    · cases h
theorem headOf_length {l : List UInt8} {c : UInt8} {ks xs : List Int} (h : headOf l c ks = some xs) : xs.length = ks.length := by
  unfold headOf at h
  split at h
  · exact numsOf_length ks _ h
  · cases h

/-- A slot's header, a record's header, if the sector is one. -/
def decS (l : List UInt8) : Option (Int × Int × Int × Int) := match headOf l 83 [8, 4, 4, 8] with | some [a, b, c, d] => some (a, b, c, d) | _ => none
def decR (l : List UInt8) : Option (Int × Int) := match headOf l 82 [8, 4] with | some [a, b] => some (a, b) | _ => none

def DecSEnd (o : Option (Int × Int × Int × Int)) (w : World) (e : Ending) (w' : World) : Prop :=
  (match o with
   | some (a, b, c, d) => e = .returned (.tuple #[.agg #[.int .i64 a, .int .i64 b, .int .i64 c, .int .i64 d], .bool true])
   | none => e = .returned (.tuple #[.agg #[.int .i64 0, .int .i64 0, .int .i64 0, .int .i64 0], .bool false])) ∧ Below w.heap.size w w'
def DecREnd (o : Option (Int × Int)) (w : World) (e : Ending) (w' : World) : Prop :=
  (match o with
   | some (a, b) => e = .returned (.tuple #[.agg #[.int .i64 a, .int .i64 b], .bool true])
   | none => e = .returned (.tuple #[.agg #[.int .i64 0, .int .i64 0], .bool false])) ∧ Below w.heap.size w w'

theorem lies_new (w : World) (cs : Array Value) (t : TypeId) : Lies (w.alloc (.cells cs t)) (w.alloc (.cells cs t)).heap.size (some ⟨w.heap.size, 0, none⟩) cs.toList :=
  .inr ⟨w.heap.size, 0, rfl, by simp, fun i hi => by
    rw [Lib.cell_of_heap (heap_alloc_new _ _), Nat.zero_add]
    simp at hi ⊢⟩

set_option maxHeartbeats 800000 in
set_option maxRecDepth 100000 in
theorem decodeSlot_any (l : List UInt8) (w : World) (hl : l.length ≤ 4096) : Calls Tryz.prog 80 #[.string (str l)] w (DecSEnd (decS l) w) := by
  have HN : Hid (Calls Tryz.prog 83 #[.string (str l), .string ⟨#[83]⟩, .slice (some ⟨w.heap.size + 1, 0, none⟩) 4 4] ((w.alloc (.cells #[.int .i64 0, .int .i64 0, .int .i64 0, .int .i64 0] 107)).alloc (.cells #[.int .i64 8, .int .i64 4, .int .i64 4, .int .i64 8] 3)) (NumsEnd (headOf l 83 [8, 4, 4, 8]) ((w.alloc (.cells #[.int .i64 0, .int .i64 0, .int .i64 0, .int .i64 0] 107)).alloc (.cells #[.int .i64 8, .int .i64 4, .int .i64 4, .int .i64 8] 3)))) := Lib.hid (by
    refine numbers_any l 83 [8, 4, 4, 8] _ 4 4 _ hl rfl (by omega) ?_
    have := lies_new (w.alloc (.cells #[.int .i64 0, .int .i64 0, .int .i64 0, .int .i64 0] 107)) #[.int .i64 8, .int .i64 4, .int .i64 4, .int .i64 8] 3
    simpa [intV] using this)
  have HB0 : Hid (Below w.heap.size w ((w.alloc (.cells #[.int .i64 0, .int .i64 0, .int .i64 0, .int .i64 0] 107)).alloc (.cells #[.int .i64 8, .int .i64 4, .int .i64 4, .int .i64 8] 3))) := Lib.hid (((Below.refl _ _).alloc (Nat.le_refl _) _).alloc (by simp) _)
  have HC0 : Hid (((w.alloc (.cells #[.int .i64 0, .int .i64 0, .int .i64 0, .int .i64 0] 107)).alloc (.cells #[.int .i64 8, .int .i64 4, .int .i64 4, .int .i64 8] 3)).heap[w.heap.size]? = some (.cells #[.int .i64 0, .int .i64 0, .int .i64 0, .int .i64 0] 107 (0, 0)) ∧ w.heap.size < ((w.alloc (.cells #[.int .i64 0, .int .i64 0, .int .i64 0, .int .i64 0] 107)).alloc (.cells #[.int .i64 8, .int .i64 4, .int .i64 4, .int .i64 8] 3)).heap.size) := Lib.hid ⟨(Below.heap_alloc _ _ _ (by simp)).trans (heap_alloc_new _ _), by simp; omega⟩
  go_enter Tryz.func80, Tryz.ntmps80
  go_wp2_with fail
  refine HN.out.mono ?_
  clear HN
  generalize (w.alloc (.cells #[.int .i64 0, .int .i64 0, .int .i64 0, .int .i64 0] 107)).alloc (.cells #[.int .i64 8, .int .i64 4, .int .i64 4, .int .i64 8] 3) = V at *
  cases ho : headOf l 83 [8, 4, 4, 8] with
  | none =>
    have HD : Hid (decS l = none) := Lib.hid (by unfold decS; rw [ho])
    rintro e w1 ⟨rfl, hb1⟩
    have h1 : w1.heap[w.heap.size]? = some (.cells #[.int .i64 0, .int .i64 0, .int .i64 0, .int .i64 0] 107 (0, 0)) := (hb1.block _ HC0.out.2).trans HC0.out.1
    have HB1 : Hid (Below w.heap.size w w1) := Lib.hid (HB0.out.trans (hb1.mono HB0.out.size))
    have k0 := Lib.cell_of_heap h1
    have k1 := Lib.frozen_of_heap h1
    clear hb1 h1 ho
    go_wp2_with fail
    exact bodyPost_ret (v := .tuple #[.agg #[.int .i64 0, .int .i64 0, .int .i64 0, .int .i64 0], .bool false]) (by simp [results, Tryz.results80, go_sem, k0]) rfl (by rw [HD.out]; exact ⟨rfl, (((HB1.out.setCell (by simp) _).setCell (by simp) _).setCell (by simp) _).setCell (by simp) _⟩)
  | some xs =>
    have hx := headOf_length ho
    obtain ⟨a, b, c, d, rfl⟩ : ∃ a b c d, xs = [a, b, c, d] := by
      match xs, hx with
      | [a, b, c, d], _ => exact ⟨a, b, c, d, rfl⟩
    have HD : Hid (decS l = some (a, b, c, d)) := Lib.hid (by unfold decS; rw [ho])
    rintro e w1 ⟨⟨A, cap, rfl, hl1⟩, hb1⟩
    obtain ⟨bb, off, rfl, hbb, hc⟩ := hl1.at_ (by simp)
    have d0 := hc 0 (by simp)
    have d1 := hc 1 (by simp)
    have d2 := hc 2 (by simp)
    have d3 := hc 3 (by simp)
    have h1 : w1.heap[w.heap.size]? = some (.cells #[.int .i64 0, .int .i64 0, .int .i64 0, .int .i64 0] 107 (0, 0)) := (hb1.block _ HC0.out.2).trans HC0.out.1
    have HB1 : Hid (Below w.heap.size w w1) := Lib.hid (HB0.out.trans (hb1.mono HB0.out.size))
    have k0 := Lib.cell_of_heap h1
    have k1 := Lib.frozen_of_heap h1
    simp [intV] at d0 d1 d2 d3
    clear hb1 h1 ho hl1 hc
    go_wp2_with fail
    go_still_tail 13, (by kernel_rfl)
    change wpList _ _ _ _ _ w1.drew
    go_wp2
    exact bodyPost_ret (v := .tuple #[.agg #[.int .i64 a, .int .i64 b, .int .i64 c, .int .i64 d], .bool true]) (by simp [results, Tryz.results80, go_sem, k0]) rfl (by rw [HD.out]; exact ⟨rfl, (((HB1.out.drew.setCell (by simp) _).setCell (by simp) _).setCell (by simp) _).setCell (by simp) _⟩)

set_option maxHeartbeats 800000 in
set_option maxRecDepth 100000 in
theorem decodeRecord_any (l : List UInt8) (w : World) (hl : l.length ≤ 4096) : Calls Tryz.prog 61 #[.string (str l)] w (DecREnd (decR l) w) := by
  have HN : Hid (Calls Tryz.prog 83 #[.string (str l), .string ⟨#[82]⟩, .slice (some ⟨w.heap.size + 1, 0, none⟩) 2 2] ((w.alloc (.cells #[.int .i64 0, .int .i64 0] 111)).alloc (.cells #[.int .i64 8, .int .i64 4] 3)) (NumsEnd (headOf l 82 [8, 4]) ((w.alloc (.cells #[.int .i64 0, .int .i64 0] 111)).alloc (.cells #[.int .i64 8, .int .i64 4] 3)))) := Lib.hid (by
    refine numbers_any l 82 [8, 4] _ 2 2 _ hl rfl (by omega) ?_
    have := lies_new (w.alloc (.cells #[.int .i64 0, .int .i64 0] 111)) #[.int .i64 8, .int .i64 4] 3
    simpa [intV] using this)
  have HB0 : Hid (Below w.heap.size w ((w.alloc (.cells #[.int .i64 0, .int .i64 0] 111)).alloc (.cells #[.int .i64 8, .int .i64 4] 3))) := Lib.hid (((Below.refl _ _).alloc (Nat.le_refl _) _).alloc (by simp) _)
  have HC0 : Hid (((w.alloc (.cells #[.int .i64 0, .int .i64 0] 111)).alloc (.cells #[.int .i64 8, .int .i64 4] 3)).heap[w.heap.size]? = some (.cells #[.int .i64 0, .int .i64 0] 111 (0, 0)) ∧ w.heap.size < ((w.alloc (.cells #[.int .i64 0, .int .i64 0] 111)).alloc (.cells #[.int .i64 8, .int .i64 4] 3)).heap.size) := Lib.hid ⟨(Below.heap_alloc _ _ _ (by simp)).trans (heap_alloc_new _ _), by simp; omega⟩
  go_enter Tryz.func61, Tryz.ntmps61
  go_wp2_with fail
  refine HN.out.mono ?_
  clear HN
  generalize (w.alloc (.cells #[.int .i64 0, .int .i64 0] 111)).alloc (.cells #[.int .i64 8, .int .i64 4] 3) = V at *
  cases ho : headOf l 82 [8, 4] with
  | none =>
    have HD : Hid (decR l = none) := Lib.hid (by unfold decR; rw [ho])
    rintro e w1 ⟨rfl, hb1⟩
    have h1 : w1.heap[w.heap.size]? = some (.cells #[.int .i64 0, .int .i64 0] 111 (0, 0)) := (hb1.block _ HC0.out.2).trans HC0.out.1
    have HB1 : Hid (Below w.heap.size w w1) := Lib.hid (HB0.out.trans (hb1.mono HB0.out.size))
    have k0 := Lib.cell_of_heap h1
    have k1 := Lib.frozen_of_heap h1
    clear hb1 h1 ho
    go_wp2_with fail
    exact bodyPost_ret (v := .tuple #[.agg #[.int .i64 0, .int .i64 0], .bool false]) (by simp [results, Tryz.results61, go_sem, k0]) rfl (by rw [HD.out]; exact ⟨rfl, (HB1.out.setCell (by simp) _).setCell (by simp) _⟩)
  | some xs =>
    have hx := headOf_length ho
    obtain ⟨a, b, rfl⟩ : ∃ a b, xs = [a, b] := by
      match xs, hx with
      | [a, b], _ => exact ⟨a, b, rfl⟩
    have HD : Hid (decR l = some (a, b)) := Lib.hid (by unfold decR; rw [ho])
    rintro e w1 ⟨⟨A, cap, rfl, hl1⟩, hb1⟩
    obtain ⟨bb, off, rfl, hbb, hc⟩ := hl1.at_ (by simp)
    have d0 := hc 0 (by simp)
    have d1 := hc 1 (by simp)
    have h1 : w1.heap[w.heap.size]? = some (.cells #[.int .i64 0, .int .i64 0] 111 (0, 0)) := (hb1.block _ HC0.out.2).trans HC0.out.1
    have HB1 : Hid (Below w.heap.size w w1) := Lib.hid (HB0.out.trans (hb1.mono HB0.out.size))
    have k0 := Lib.cell_of_heap h1
    have k1 := Lib.frozen_of_heap h1
    simp [intV] at d0 d1
    clear hb1 h1 ho hl1 hc
    go_wp2_with fail
    go_still_tail 7, (by kernel_rfl)
    change wpList _ _ _ _ _ w1.drew
    go_wp2
    exact bodyPost_ret (v := .tuple #[.agg #[.int .i64 a, .int .i64 b], .bool true]) (by simp [results, Tryz.results61, go_sem, k0]) rfl (by rw [HD.out]; exact ⟨rfl, (HB1.out.drew.setCell (by simp) _).setCell (by simp) _⟩)
end Go.Proofs.YtlelfakememckaaGreatDoor
