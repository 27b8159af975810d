/- Contract of currentSlot where no slot has a header. Contract of currentSlot. -/
import Derived.Test.YtlelfakememckaaGreatDoorWalF
import Derived.IntWalk
import Derived.Test.YtlelfakememckaaGreatDoorWalV
namespace Go.Proofs.YtlelfakememckaaGreatDoor
open Go.RowKit

theorem lies_at {xs : List (List UInt8)} {w : World} {g : Nat} (h : Lies w w.heap.size (some ⟨g, 0, none⟩) (xs.map secV)) {i : Nat} (hi : i < xs.length) : w.cell? ⟨g, i, none⟩ = some (.string (str (xs.getD i []))) ∧ g < w.heap.size := by
  obtain ⟨b, off, hA, hb, hc⟩ := h.at_ (by intro e; rw [List.map_eq_nil_iff] at e; subst e; simp at hi)
  simp only [Option.some.injEq, Addr.mk.injEq, and_true] at hA
  obtain ⟨rfl, rfl⟩ := hA
  have := hc i (by simpa using hi)
  rw [List.getElem_map, Nat.zero_add] at this
  refine ⟨this.trans ?_, hb⟩
  rw [List.getD_eq_getElem?_getD, List.getElem?_eq_getElem hi]; rfl

set_option maxHeartbeats 4000000 in
set_option maxRecDepth 100000 in
theorem currentSlot_none (xs : List (List UInt8)) (g n cap slot : Nat) (w : World) (hn : xs.length = n) (hA : Lies w w.heap.size (some ⟨g, 0, none⟩) (xs.map secV)) (hs : slot < n) (hn4 : n ≤ 4096) (hx : ∀ x ∈ xs, x.length ≤ 4096)
    (h0 : decS (xs.getD 0 []) = none) (h1 : decS (xs.getD slot []) = none) :
    Calls Tryz.prog 57 #[.slice (some ⟨g, 0, none⟩) n cap, .int .i64 slot] w fun e w' => e = .returned (.agg #[.int .i64 0, .int .i64 0, .int .i64 0, .int .i64 1]) ∧ Below w.heap.size w w' := by
  have HD : Hid (∀ (at_ : Nat) w', at_ = 0 ∨ at_ = slot → Calls Tryz.prog 80 #[.string (str (xs.getD at_ []))] w' (DecSEnd none w')) := Lib.hid (by
    intro q w' hq
    have hq2 : decS (xs.getD q []) = none := by rcases hq with rfl | rfl; exact h0; exact h1
    have := decodeSlot_any (xs.getD q []) w' (by
      rw [List.getD_eq_getElem?_getD]
      by_cases hqn : q < xs.length
      · rw [List.getElem?_eq_getElem hqn]; exact hx _ (List.getElem_mem hqn)
      · rw [List.getElem?_eq_none (by omega)]; simp)
    rw [hq2] at this
    exact this)
  have HC : Hid (∀ (at_ : Nat) w', at_ < n → Below w.heap.size w w' → w'.cell? ⟨g, at_, none⟩ = some (.string (str (xs.getD at_ [])))) := Lib.hid (fun q w' hq hb => by
    obtain ⟨e1, e2⟩ := lies_at hA (hn ▸ hq)
    exact (hb.cell (p := ⟨g, q, none⟩) e2).trans e1)
  clear hA hn h0 h1 hx
  have HV : Hid (∀ V, V = ((w.alloc (.cells #[.int .i64 0, .int .i64 0, .int .i64 0, .int .i64 0] 107)).alloc (.cells #[.int .i64 0, .int .i64 0, .int .i64 0, .int .i64 1] 107)).alloc (.cells #[.int .i64 0, .int .i64 slot] 3) → ∀ w', Below V.heap.size V w' → Below w.heap.size w w' ∧ w'.heap[w.heap.size]? = some (.cells #[.int .i64 0, .int .i64 0, .int .i64 0, .int .i64 0] 107 (0, 0)) ∧ w'.heap[w.heap.size + 1]? = some (.cells #[.int .i64 0, .int .i64 0, .int .i64 0, .int .i64 1] 107 (0, 0)) ∧ w'.heap[w.heap.size + 1 + 1]? = some (.cells #[.int .i64 0, .int .i64 slot] 3 (0, 0))) := Lib.hid (by
    rintro V rfl w' hb
    have b0 : Below w.heap.size w (((w.alloc (.cells #[.int .i64 0, .int .i64 0, .int .i64 0, .int .i64 0] 107)).alloc (.cells #[.int .i64 0, .int .i64 0, .int .i64 0, .int .i64 1] 107)).alloc (.cells #[.int .i64 0, .int .i64 slot] 3)) := (((Below.refl _ _).alloc (Nat.le_refl _) _).alloc (by simp) _).alloc (by simp; omega) _
    refine ⟨b0.trans (hb.mono b0.size), ?_, ?_, ?_⟩
    · rw [hb.block _ (by simp; omega), Below.heap_alloc _ _ _ (by simp; omega), Below.heap_alloc _ _ _ (by simp)]; exact heap_alloc_new _ _
    · rw [hb.block _ (by simp), Below.heap_alloc _ _ _ (by simp)]
      have := heap_alloc_new (w.alloc (.cells #[.int .i64 0, .int .i64 0, .int .i64 0, .int .i64 0] 107)) (.cells #[.int .i64 0, .int .i64 0, .int .i64 0, .int .i64 1] 107)
      simpa using this
    · rw [hb.block _ (by simp)]
      have := heap_alloc_new ((w.alloc (.cells #[.int .i64 0, .int .i64 0, .int .i64 0, .int .i64 0] 107)).alloc (.cells #[.int .i64 0, .int .i64 0, .int .i64 0, .int .i64 1] 107)) (.cells #[.int .i64 0, .int .i64 slot] 3)
      simpa using this)
  go_enter Tryz.func57, Tryz.ntmps57
  go_wp2_with fail
  have HV1 := Lib.hid (HV.out _ rfl)
  clear HV
  generalize ((w.alloc (.cells #[.int .i64 0, .int .i64 0, .int .i64 0, .int .i64 0] 107)).alloc (.cells #[.int .i64 0, .int .i64 0, .int .i64 0, .int .i64 1] 107)).alloc (.cells #[.int .i64 0, .int .i64 slot] 3) = V at *
  go_loopw [14] (fun i wr => ∃ q : Nat, q ≤ 2 ∧ i = .int .i64 q ∧ Hid (Below V.heap.size V wr)) (fun i _ => 2 - (intOf i).toNat)
  case atStart => exact ⟨0, by omega, rfl, Lib.hid (Below.refl _ _)⟩
  case round =>
    obtain ⟨q, hq, rfl, HB⟩ := hrel
    obtain ⟨v1, v2, v3, v4⟩ := HV1.out _ HB.out
    have k0 := Lib.cell_of_heap v4
    have k1 := Lib.cell_of_heap v3
    by_cases hlt : q < 2
    · obtain ⟨at_, hat, hatn, kc⟩ : ∃ at_ : Nat, (at_ = 0 ∨ at_ = slot) ∧ at_ < n ∧ wr.cell? ⟨w.heap.size + 1 + 1, q, none⟩ = some (.int .i64 at_) := by
        rcases (show q = 0 ∨ q = 1 by omega) with rfl | rfl
        · exact ⟨0, .inl rfl, by omega, by rw [k0]; rfl⟩
        · exact ⟨slot, .inr rfl, hs, by rw [k0]; rfl⟩
      have HCall := Lib.hid (fun w' => HD.out at_ w' hat)
      have cc := HC.out at_ wr hatn v1
      have HB2 : Hid (Below V.heap.size V (wr.alloc (.cells #[.int .i64 0, .int .i64 0, .int .i64 0, .int .i64 0] 107)).drew) := Lib.hid (HB.out.alloc HB.out.size _).drew
      have HB3 : Hid (Below V.heap.size V wr.drew) := Lib.hid HB.out.drew
      have cc2 := HC.out at_ _ hatn (HV1.out _ HB2.out).1
      have cc3 := HC.out at_ _ hatn (HV1.out _ HB3.out).1
      have hq0 : (q : Int) < 2 := by omega
      have ha0 : (0 : Int) ≤ (at_ : Int) := Int.natCast_nonneg _
      have ha1 : (at_ : Int) < (n : Int) := by omega
      clear HD HC v1 v2 v3 v4 k0 hat hs
      generalize str (xs.getD at_ []) = S at *
      go_wp2_with fail
      refine (HCall.out _).mono ?_
      rintro e w1 ⟨rfl, hb1⟩
      have HB1 : Hid (Below V.heap.size V w1) := Lib.hid (HB.out.trans (hb1.mono HB.out.size))
      clear hb1 HB2 HB3 cc cc2 cc3 kc k1 HCall
      have HB9 : Hid (∀ m : Nat, Below V.heap.size V ((w1.alloc (.cells #[.int .i64 0, .int .i64 0, .int .i64 0, .int .i64 0] 107)).drewN m)) := Lib.hid (fun m => (HB1.out.alloc HB1.out.size _).trans ((below_drawsW _ m).mono (by have := HB1.out.size; simp; omega)))
      go_wp2_with fail
      go_roundw
      case rel => exact ⟨q + 1, by omega, by go_num, Lib.hid (HB9.out 0)⟩
      case measure => simp [intOf]; omega
    · have hge : 2 ≤ q := by omega
      have hlt2 : decide ((q : Int) < 2) = false := by rw [decide_eq_false_iff_not]; omega
      have d0 := Lib.cell_of_heap v2
      have d1 := Lib.frozen_of_heap v2
      have HE := Lib.hid v1
      clear HD HC v1 v2 v3 v4 k0
      go_wp2_with fail
      exact bodyPost_ret (v := .agg #[.int .i64 0, .int .i64 0, .int .i64 0, .int .i64 1]) (by simp [results, Tryz.results57, go_sem, d0]) rfl ⟨rfl, (((HE.out.setCell (by simp) _).setCell (by simp) _).setCell (by simp) _).setCell (by simp) _⟩
end Go.Proofs.YtlelfakememckaaGreatDoor

namespace Go.Proofs.YtlelfakememckaaGreatDoor
open Go.RowKit

abbrev Hd := Int × Int × Int × Int
def hdV (h : Hd) : Array Value := #[.int .i64 h.1, .int .i64 h.2.1, .int .i64 h.2.2.1, .int .i64 h.2.2.2]
def stepS (xs : List (List UInt8)) (slot at_ : Nat) (cur : Hd) : Hd := match decS (xs.getD at_ []) with
  | some h => if (validB h.1 h.2.1 h.2.2.1 h.2.2.2 xs.length slot at_ && decide (cur.1 < h.1)) = true then h else cur
  | none => cur
def curQ (xs : List (List UInt8)) (slot : Nat) : Nat → Hd
  | 0 => (0, 0, 0, 1)
  | 1 => stepS xs slot 0 (0, 0, 0, 1)
  | _ => stepS xs slot slot (stepS xs slot 0 (0, 0, 0, 1))
def curS (xs : List (List UInt8)) (slot : Nat) : Hd := curQ xs slot 2

theorem numN_pos (r : List UInt8) (k : Int) : 0 ≤ numN r k := by unfold numN; split <;> omega
theorem numsOf_pos : ∀ (ks : List Int) (r : List UInt8) {xs : List Int}, numsOf r ks = some xs → ∀ x ∈ xs, 0 ≤ x
  | [], r, xs, h => by
    unfold numsOf at h
    split at h
    · cases h; simp
    · cases h
  | k :: ks, r, xs, h => by
    unfold numsOf at h
    split at h
    · cases hq : numsOf (numR r k) ks with
      | none => rw [hq] at h; cases h
      | some ys =>
        rw [hq] at h
        simp only [Option.map_some, Option.some.injEq] at h
        subst h
        intro x hx
        rcases List.mem_cons.1 hx with e | e
        · rw [e]; exact numN_pos r k
        · exact numsOf_pos ks _ hq x e
    · cases h
theorem decS_pos {l : List UInt8} {h : Hd} (hd : decS l = some h) : 0 ≤ h.1 ∧ 0 ≤ h.2.1 ∧ 0 ≤ h.2.2.1 ∧ 0 ≤ h.2.2.2 := by
  unfold decS at hd
  split at hd
  · rename_i a b c d he
    simp only [Option.some.injEq] at hd
    subst hd
    unfold headOf at he
    split at he
    · have := numsOf_pos _ _ he
      exact ⟨this a (by simp), this b (by simp), this c (by simp), this d (by simp)⟩
    · cases he
  · cases hd

/-- What the loop of currentSlot keeps: the result's cells, the best header so far, the two sectors. -/
structure CurAt (w wr : World) (slot : Nat) (cur : Hd) : Prop where
  bel : Below w.heap.size w wr
  res : wr.heap[w.heap.size]? = some (.cells #[.int .i64 0, .int .i64 0, .int .i64 0, .int .i64 0] 107 (0, 0))
  cur : wr.heap[w.heap.size + 1]? = some (.cells (hdV cur) 107 (0, 0))
  two : wr.heap[w.heap.size + 2]? = some (.cells #[.int .i64 0, .int .i64 slot] 3 (0, 0))
theorem CurAt.lt {w wr : World} {slot : Nat} {cur : Hd} (h : CurAt w wr slot cur) : w.heap.size + 2 < wr.heap.size := heap_lt h.two
theorem CurAt.cells {w wr : World} {slot : Nat} {cur : Hd} (h : CurAt w wr slot cur) : wr.cell? ⟨w.heap.size + 1, 0, none⟩ = some (.int .i64 cur.1) ∧ wr.cell? ⟨w.heap.size + 1, 1, none⟩ = some (.int .i64 cur.2.1) ∧ wr.cell? ⟨w.heap.size + 1, 2, none⟩ = some (.int .i64 cur.2.2.1) ∧ wr.cell? ⟨w.heap.size + 1, 3, none⟩ = some (.int .i64 cur.2.2.2) ∧ ∀ j, wr.frozen? ⟨w.heap.size + 1, j, none⟩ = false := by
  refine ⟨?_, ?_, ?_, ?_, fun j => Lib.frozen_of_heap h.cur j⟩ <;> rw [Lib.cell_of_heap h.cur] <;> rfl
theorem CurAt.next {w wr w' : World} {slot : Nat} {cur : Hd} (h : CurAt w wr slot cur) (hb : Below wr.heap.size wr w') : CurAt w w' slot cur := by
  have := h.lt
  exact ⟨h.bel.trans (hb.mono h.bel.size), (hb.block _ (by omega)).trans h.res, (hb.block _ (by omega)).trans h.cur, (hb.block _ (by omega)).trans h.two⟩
theorem CurAt.set {w wr : World} {slot : Nat} {cur : Hd} (h : CurAt w wr slot cur) (n : Hd) :
    CurAt w ((((wr.setCell ⟨w.heap.size + 1, 0, none⟩ (.int .i64 n.1)).setCell ⟨w.heap.size + 1, 1, none⟩ (.int .i64 n.2.1)).setCell ⟨w.heap.size + 1, 2, none⟩ (.int .i64 n.2.2.1)).setCell ⟨w.heap.size + 1, 3, none⟩ (.int .i64 n.2.2.2)) slot n := by
  refine ⟨(((h.bel.setCell (by simp) _).setCell (by simp) _).setCell (by simp) _).setCell (by simp) _, ?_, ?_, ?_⟩
  · rw [Below.heap_setCell _ _ _ _ (by simp), Below.heap_setCell _ _ _ _ (by simp), Below.heap_setCell _ _ _ _ (by simp), Below.heap_setCell _ _ _ _ (by simp)]; exact h.res
  · exact row_set (row_set (row_set (row_set h.cur 0 (.int .i64 n.1)) 1 (.int .i64 n.2.1)) 2 (.int .i64 n.2.2.1)) 3 (.int .i64 n.2.2.2)
  · rw [Below.heap_setCell _ _ _ _ (by simp), Below.heap_setCell _ _ _ _ (by simp), Below.heap_setCell _ _ _ _ (by simp), Below.heap_setCell _ _ _ _ (by simp)]; exact h.two
theorem CurAt.start (w : World) (slot : Nat) : CurAt w (((w.alloc (.cells #[.int .i64 0, .int .i64 0, .int .i64 0, .int .i64 0] 107)).alloc (.cells #[.int .i64 0, .int .i64 0, .int .i64 0, .int .i64 1] 107)).alloc (.cells #[.int .i64 0, .int .i64 slot] 3)) slot (0, 0, 0, 1) := by
  refine ⟨(((Below.refl _ _).alloc (Nat.le_refl _) _).alloc (by simp) _).alloc (by simp; omega) _, ?_, ?_, ?_⟩
  · rw [Below.heap_alloc _ _ _ (by simp; omega), Below.heap_alloc _ _ _ (by simp)]; exact heap_alloc_new _ _
  · rw [Below.heap_alloc _ _ _ (by simp)]
    have := heap_alloc_new (w.alloc (.cells #[.int .i64 0, .int .i64 0, .int .i64 0, .int .i64 0] 107)) (.cells #[.int .i64 0, .int .i64 0, .int .i64 0, .int .i64 1] 107)
    simpa [hdV] using this
  · have := heap_alloc_new ((w.alloc (.cells #[.int .i64 0, .int .i64 0, .int .i64 0, .int .i64 0] 107)).alloc (.cells #[.int .i64 0, .int .i64 0, .int .i64 0, .int .i64 1] 107)) (.cells #[.int .i64 0, .int .i64 slot] 3)
    simpa using this

set_option maxHeartbeats 8000000 in
set_option maxRecDepth 100000 in
theorem currentSlot_any (xs : List (List UInt8)) (g n cap slot : Nat) (w : World) (hn : xs.length = n) (hA : Lies w w.heap.size (some ⟨g, 0, none⟩) (xs.map secV)) (hs : slot < n) (hn4 : n ≤ 4096) (hx : ∀ x ∈ xs, x.length ≤ 4096) :
    Calls Tryz.prog 57 #[.slice (some ⟨g, 0, none⟩) n cap, .int .i64 slot] w fun e w' => e = .returned (.agg (hdV (curS xs slot))) ∧ Below w.heap.size w w' := by
  have HD : Hid (∀ (at_ : Nat) w', Calls Tryz.prog 80 #[.string (str (xs.getD at_ []))] w' (DecSEnd (decS (xs.getD at_ [])) w')) := Lib.hid (fun q w' => decodeSlot_any (xs.getD q []) w' (by
      rw [List.getD_eq_getElem?_getD]
      by_cases hqn : q < xs.length
      · rw [List.getElem?_eq_getElem hqn]; exact hx _ (List.getElem_mem hqn)
      · rw [List.getElem?_eq_none (by omega)]; simp))
  have HC : Hid (∀ (at_ : Nat) w', at_ < n → Below w.heap.size w w' → w'.cell? ⟨g, at_, none⟩ = some (.string (str (xs.getD at_ [])))) := Lib.hid (fun q w' hq hb => by
    obtain ⟨e1, e2⟩ := lies_at hA (hn ▸ hq)
    exact (hb.cell (p := ⟨g, q, none⟩) e2).trans e1)
  have HVal : Hid (∀ (h : Hd) (at_ : Nat) w', 0 ≤ h.1 → Calls Tryz.prog 81 #[.agg #[.int .i64 h.1, .int .i64 h.2.1, .int .i64 h.2.2.1, .int .i64 h.2.2.2], .int .i64 n, .int .i64 slot, .int .i64 at_] w' fun e w'' => e = .returned (.bool (validB h.1 h.2.1 h.2.2.1 h.2.2.2 n slot at_)) ∧ Below w'.heap.size w' w'') := Lib.hid (fun h at_ w' h0 => validIn_any h.1 h.2.1 h.2.2.1 h.2.2.2 n slot at_ w' hn4 (by omega) h0)
  have HN := Lib.hid hn
  clear hA hn hx
  go_enter Tryz.func57, Tryz.ntmps57
  go_wp2_with fail
  have HS0 := Lib.hid (CurAt.start w slot)
  generalize ((w.alloc (.cells #[.int .i64 0, .int .i64 0, .int .i64 0, .int .i64 0] 107)).alloc (.cells #[.int .i64 0, .int .i64 0, .int .i64 0, .int .i64 1] 107)).alloc (.cells #[.int .i64 0, .int .i64 slot] 3) = V at *
  go_loopg [14] 2 (fun kx i wr => ∃ q : Nat, q ≤ 2 ∧ 2 - q ≤ kx ∧ i = .int .i64 q ∧ Hid (CurAt w wr slot (curQ xs slot q)))
  case atStart => exact ⟨0, by omega, by omega, rfl, HS0⟩
  case round =>
    clear HS0
    obtain ⟨q, hq, hkx, rfl, HS⟩ := hrel
    have hsz := HS.out.lt
    by_cases hlt : q < 2
    · have hltz : (q : Int) < 2 := by omega
      obtain ⟨at_, hatn, kc, HQ⟩ : ∃ at_ : Nat, at_ < n ∧ wr.cell? ⟨w.heap.size + 1 + 1, q, none⟩ = some (.int .i64 at_) ∧ Hid (curQ xs slot (q + 1) = stepS xs slot at_ (curQ xs slot q)) := by
        have k0 := Lib.cell_of_heap HS.out.two
        rcases (show q = 0 ∨ q = 1 by omega) with rfl | rfl
        · exact ⟨0, by omega, by rw [k0]; rfl, Lib.hid rfl⟩
        · exact ⟨slot, hs, by rw [k0]; rfl, Lib.hid rfl⟩
      have cc := HC.out at_ wr hatn HS.out.bel
      have ha0 : (0 : Int) ≤ (at_ : Int) := Int.natCast_nonneg _
      have ha1 : (at_ : Int) < (n : Int) := by omega
      obtain ⟨cur, hcur⟩ : ∃ cur, curQ xs slot q = cur := ⟨_, rfl⟩
      rw [hcur] at HS HQ
      unfold stepS at HQ
      rw [HN.out] at HQ
      have HCall := Lib.hid (HD.out at_)
      obtain ⟨o, ho⟩ : ∃ o, decS (xs.getD at_ []) = o := ⟨_, rfl⟩
      have HO := Lib.hid ho
      rw [ho] at HCall HQ
      generalize str (xs.getD at_ []) = S at cc HCall
      clear hcur ho
      cases o with
      | none =>
        go_wp2_with fail
        refine (HCall.out _).mono ?_
        rintro e w1 ⟨rfl, hb1⟩
        have HS1 := Lib.hid (HS.out.next hb1)
        have HS2 : Hid (CurAt w (w1.alloc (.cells #[.int .i64 0, .int .i64 0, .int .i64 0, .int .i64 0] 107)) slot cur) := Lib.hid (HS1.out.next ((Below.refl _ _).alloc (Nat.le_refl _) _))
        clear hb1
        go_wp2_with fail
        go_roundg (2 - (q + 1))
        case measure => omega
        case rel => exact ⟨q + 1, by omega, Nat.le_refl _, by go_num, Lib.hid (by rw [HQ.out]; exact HS2.out)⟩
      | some h =>
        have h0 := (decS_pos HO.out).1
        have HVl := Lib.hid (fun w' => HVal.out h at_ w' h0)
        obtain ⟨h1, h2, h3, h4⟩ := h
        simp only at HVl HQ h0
        obtain ⟨vb, hvb⟩ : ∃ vb, validB h1 h2 h3 h4 n slot at_ = vb := ⟨_, rfl⟩
        rw [hvb] at HVl HQ
        clear hvb
        cases vb with
        | false =>
          have HQ2 : Hid (curQ xs slot (q + 1) = cur) := Lib.hid (by rw [HQ.out]; rfl)
          clear HQ
          go_wp2_with fail
          refine (HCall.out _).mono ?_
          rintro e w1 ⟨rfl, hb1⟩
          have HS1 := Lib.hid (HS.out.next hb1)
          have HS2 : Hid (CurAt w (w1.alloc (.cells #[.int .i64 h1, .int .i64 h2, .int .i64 h3, .int .i64 h4] 107)) slot cur) := Lib.hid (HS1.out.next ((Below.refl _ _).alloc (Nat.le_refl _) _))
          have HH : Hid (∀ w2, Below (w1.alloc (.cells #[.int .i64 h1, .int .i64 h2, .int .i64 h3, .int .i64 h4] 107)).heap.size (w1.alloc (.cells #[.int .i64 h1, .int .i64 h2, .int .i64 h3, .int .i64 h4] 107)) w2 → w2.cell? ⟨w1.heap.size, 0, none⟩ = some (.int .i64 h1) ∧ w2.cell? ⟨w1.heap.size, 1, none⟩ = some (.int .i64 h2) ∧ w2.cell? ⟨w1.heap.size, 2, none⟩ = some (.int .i64 h3) ∧ w2.cell? ⟨w1.heap.size, 3, none⟩ = some (.int .i64 h4)) := Lib.hid (fun w2 hb => below_cells4 hb)
          clear hb1
          go_wp2_with fail
          refine (HVl.out _).mono ?_
          rintro e w2 ⟨rfl, hb2⟩
          have HS3 := Lib.hid (HS2.out.next hb2)
          obtain ⟨x0, x1, x2, x3⟩ := HH.out w2 hb2
          obtain ⟨y0, y1, y2, y3, yf⟩ := HS3.out.cells
          have hne : w1.heap.size ≠ w.heap.size + 1 := by have := HS1.out.lt; omega
          have hne2 : w.heap.size + 1 ≠ w1.heap.size := by omega
          clear hb2 HH
          go_wp2_with fail
          go_roundg (2 - (q + 1))
          case measure => omega
          case rel => exact ⟨q + 1, by omega, Nat.le_refl _, by go_num, Lib.hid (by rw [HQ2.out]; exact HS3.out)⟩
        | true =>
          by_cases hg : cur.1 < h1
          · have HQ2 : Hid (curQ xs slot (q + 1) = (h1, h2, h3, h4)) := Lib.hid (by rw [HQ.out]; simp [hg])
            clear HQ
            go_wp2_with fail
            refine (HCall.out _).mono ?_
            rintro e w1 ⟨rfl, hb1⟩
            have HS1 := Lib.hid (HS.out.next hb1)
            have HS2 : Hid (CurAt w (w1.alloc (.cells #[.int .i64 h1, .int .i64 h2, .int .i64 h3, .int .i64 h4] 107)) slot cur) := Lib.hid (HS1.out.next ((Below.refl _ _).alloc (Nat.le_refl _) _))
            have HH : Hid (∀ w2, Below (w1.alloc (.cells #[.int .i64 h1, .int .i64 h2, .int .i64 h3, .int .i64 h4] 107)).heap.size (w1.alloc (.cells #[.int .i64 h1, .int .i64 h2, .int .i64 h3, .int .i64 h4] 107)) w2 → w2.cell? ⟨w1.heap.size, 0, none⟩ = some (.int .i64 h1) ∧ w2.cell? ⟨w1.heap.size, 1, none⟩ = some (.int .i64 h2) ∧ w2.cell? ⟨w1.heap.size, 2, none⟩ = some (.int .i64 h3) ∧ w2.cell? ⟨w1.heap.size, 3, none⟩ = some (.int .i64 h4)) := Lib.hid (fun w2 hb => below_cells4 hb)
            clear hb1
            go_wp2_with fail
            refine (HVl.out _).mono ?_
            rintro e w2 ⟨rfl, hb2⟩
            have HS3 := Lib.hid (HS2.out.next hb2)
            obtain ⟨x0, x1, x2, x3⟩ := HH.out w2 hb2
            obtain ⟨y0, y1, y2, y3, yf⟩ := HS3.out.cells
            have hne : w1.heap.size ≠ w.heap.size + 1 := by have := HS1.out.lt; omega
            have hne2 : w.heap.size + 1 ≠ w1.heap.size := by omega
            clear hb2 HH
            have HS4 := Lib.hid (HS3.out.set (h1, h2, h3, h4))
            simp only at HS4
            go_wp2_with fail
            go_roundg (2 - (q + 1))
            case measure => omega
            case rel => exact ⟨q + 1, by omega, Nat.le_refl _, by go_num, Lib.hid (by rw [HQ2.out]; exact HS4.out)⟩
          · have HQ2 : Hid (curQ xs slot (q + 1) = cur) := Lib.hid (by rw [HQ.out]; simp [hg])
            clear HQ
            go_wp2_with fail
            refine (HCall.out _).mono ?_
            rintro e w1 ⟨rfl, hb1⟩
            have HS1 := Lib.hid (HS.out.next hb1)
            have HS2 : Hid (CurAt w (w1.alloc (.cells #[.int .i64 h1, .int .i64 h2, .int .i64 h3, .int .i64 h4] 107)) slot cur) := Lib.hid (HS1.out.next ((Below.refl _ _).alloc (Nat.le_refl _) _))
            have HH : Hid (∀ w2, Below (w1.alloc (.cells #[.int .i64 h1, .int .i64 h2, .int .i64 h3, .int .i64 h4] 107)).heap.size (w1.alloc (.cells #[.int .i64 h1, .int .i64 h2, .int .i64 h3, .int .i64 h4] 107)) w2 → w2.cell? ⟨w1.heap.size, 0, none⟩ = some (.int .i64 h1) ∧ w2.cell? ⟨w1.heap.size, 1, none⟩ = some (.int .i64 h2) ∧ w2.cell? ⟨w1.heap.size, 2, none⟩ = some (.int .i64 h3) ∧ w2.cell? ⟨w1.heap.size, 3, none⟩ = some (.int .i64 h4)) := Lib.hid (fun w2 hb => below_cells4 hb)
            clear hb1
            go_wp2_with fail
            refine (HVl.out _).mono ?_
            rintro e w2 ⟨rfl, hb2⟩
            have HS3 := Lib.hid (HS2.out.next hb2)
            obtain ⟨x0, x1, x2, x3⟩ := HH.out w2 hb2
            obtain ⟨y0, y1, y2, y3, yf⟩ := HS3.out.cells
            have hne : w1.heap.size ≠ w.heap.size + 1 := by have := HS1.out.lt; omega
            have hne2 : w.heap.size + 1 ≠ w1.heap.size := by omega
            clear hb2 HH
            go_wp2_with fail
            go_roundg (2 - (q + 1))
            case measure => omega
            case rel => exact ⟨q + 1, by omega, Nat.le_refl _, by go_num, Lib.hid (by rw [HQ2.out]; exact HS3.out)⟩
    · have hlt2 : ¬ (q : Int) < 2 := by omega
      have hq2 : q = 2 := by omega
      rw [hq2] at HS
      rw [show curQ xs slot 2 = curS xs slot from rfl] at HS
      obtain ⟨y0, y1, y2, y3, yf⟩ := HS.out.cells
      have d1 := Lib.frozen_of_heap HS.out.res
      have r0 : wr.cell? ⟨w.heap.size, 0, none⟩ = some (.int .i64 0) := by rw [Lib.cell_of_heap HS.out.res]; rfl
      have r1 : wr.cell? ⟨w.heap.size, 1, none⟩ = some (.int .i64 0) := by rw [Lib.cell_of_heap HS.out.res]; rfl
      have r2 : wr.cell? ⟨w.heap.size, 2, none⟩ = some (.int .i64 0) := by rw [Lib.cell_of_heap HS.out.res]; rfl
      have r3 : wr.cell? ⟨w.heap.size, 3, none⟩ = some (.int .i64 0) := by rw [Lib.cell_of_heap HS.out.res]; rfl
      go_wp2_with fail
      exact bodyPost_ret (v := .agg #[.int .i64 (curS xs slot).1, .int .i64 (curS xs slot).2.1, .int .i64 (curS xs slot).2.2.1, .int .i64 (curS xs slot).2.2.2]) (by simp [results, Tryz.results57, go_sem, r0, r1, r2, r3]) rfl ⟨rfl, (((HS.out.bel.setCell (by simp) _).setCell (by simp) _).setCell (by simp) _).setCell (by simp) _⟩
end Go.Proofs.YtlelfakememckaaGreatDoor
