/- Contract of currentSlot where no slot has a header. -/
import Derived.Test.YtjeabnlmanfplaaGreatDoorWalF
import Derived.IntWalk
namespace Go.Proofs.YtjeabnlmanfplaaGreatDoor
open Go.RowKit

theorem lies_at {xs : List (List UInt8)} {w : World} {g : Nat} (h : Lies w w.heap.size (some ⟨g, 0, none⟩) (xs.map secV)) {i : Nat} (hi : i < xs.length) : w.cell? ⟨g, i, none⟩ = some (.string (str (xs.getD i []))) ∧ g < w.heap.size := by
  obtain ⟨b, off, hA, hb, hc⟩ := h.at_ (by intro e; rw [List.map_eq_nil_iff] at e; subst e; simp at hi)
  simp only [Option.some.injEq, Addr.mk.injEq, and_true] at hA
  obtain ⟨rfl, rfl⟩ := hA
  have := hc i (by simpa using hi)
  rw [List.getElem_map, Nat.zero_add] at this
  refine ⟨this.trans ?_, hb⟩
  rw [List.getD_eq_getElem?_getD, List.getElem?_eq_getElem hi]; rfl

set_option maxHeartbeats 4000000 in
set_option maxRecDepth 100000 in
theorem currentSlot_none (xs : List (List UInt8)) (g n cap slot : Nat) (w : World) (hn : xs.length = n) (hA : Lies w w.heap.size (some ⟨g, 0, none⟩) (xs.map secV)) (hs : slot < n) (hn4 : n ≤ 4096) (hx : ∀ x ∈ xs, x.length ≤ 4096)
    (h0 : decS (xs.getD 0 []) = none) (h1 : decS (xs.getD slot []) = none) :
    Calls Tryz.prog 73 #[.slice (some ⟨g, 0, none⟩) n cap, .int .i64 slot] w fun e w' => e = .returned (.agg #[.int .i64 0, .int .i64 0, .int .i64 0, .int .i64 1]) ∧ Below w.heap.size w w' := by
  have HD : Hid (∀ (at_ : Nat) w', at_ = 0 ∨ at_ = slot → Calls Tryz.prog 94 #[.string (str (xs.getD at_ []))] w' (DecSEnd none w')) := Lib.hid (by
    intro q w' hq
    have hq2 : decS (xs.getD q []) = none := by rcases hq with rfl | rfl; exact h0; exact h1
    have := decodeSlot_any (xs.getD q []) w' (by
      rw [List.getD_eq_getElem?_getD]
      by_cases hqn : q < xs.length
      · rw [List.getElem?_eq_getElem hqn]; exact hx _ (List.getElem_mem hqn)
      · rw [List.getElem?_eq_none (by omega)]; simp)
    rw [hq2] at this
    exact this)
  have HC : Hid (∀ (at_ : Nat) w', at_ < n → Below w.heap.size w w' → w'.cell? ⟨g, at_, none⟩ = some (.string (str (xs.getD at_ [])))) := Lib.hid (fun q w' hq hb => by
    obtain ⟨e1, e2⟩ := lies_at hA (hn ▸ hq)
    exact (hb.cell (p := ⟨g, q, none⟩) e2).trans e1)
  clear hA hn h0 h1 hx
  have HV : Hid (∀ V, V = ((w.alloc (.cells #[.int .i64 0, .int .i64 0, .int .i64 0, .int .i64 0] 120)).alloc (.cells #[.int .i64 0, .int .i64 0, .int .i64 0, .int .i64 1] 120)).alloc (.cells #[.int .i64 0, .int .i64 slot] 3) → ∀ w', Below V.heap.size V w' → Below w.heap.size w w' ∧ w'.heap[w.heap.size]? = some (.cells #[.int .i64 0, .int .i64 0, .int .i64 0, .int .i64 0] 120 (0, 0)) ∧ w'.heap[w.heap.size + 1]? = some (.cells #[.int .i64 0, .int .i64 0, .int .i64 0, .int .i64 1] 120 (0, 0)) ∧ w'.heap[w.heap.size + 1 + 1]? = some (.cells #[.int .i64 0, .int .i64 slot] 3 (0, 0))) := Lib.hid (by
    rintro V rfl w' hb
    have b0 : Below w.heap.size w (((w.alloc (.cells #[.int .i64 0, .int .i64 0, .int .i64 0, .int .i64 0] 120)).alloc (.cells #[.int .i64 0, .int .i64 0, .int .i64 0, .int .i64 1] 120)).alloc (.cells #[.int .i64 0, .int .i64 slot] 3)) := (((Below.refl _ _).alloc (Nat.le_refl _) _).alloc (by simp) _).alloc (by simp; omega) _
    refine ⟨b0.trans (hb.mono b0.size), ?_, ?_, ?_⟩
    · rw [hb.block _ (by simp; omega), Below.heap_alloc _ _ _ (by simp; omega), Below.heap_alloc _ _ _ (by simp)]; exact heap_alloc_new _ _
    · rw [hb.block _ (by simp), Below.heap_alloc _ _ _ (by simp)]
      have := heap_alloc_new (w.alloc (.cells #[.int .i64 0, .int .i64 0, .int .i64 0, .int .i64 0] 120)) (.cells #[.int .i64 0, .int .i64 0, .int .i64 0, .int .i64 1] 120)
      simpa using this
    · rw [hb.block _ (by simp)]
      have := heap_alloc_new ((w.alloc (.cells #[.int .i64 0, .int .i64 0, .int .i64 0, .int .i64 0] 120)).alloc (.cells #[.int .i64 0, .int .i64 0, .int .i64 0, .int .i64 1] 120)) (.cells #[.int .i64 0, .int .i64 slot] 3)
      simpa using this)
  go_enter Tryz.func73, Tryz.ntmps73
  go_wp2_with fail
  have HV1 := Lib.hid (HV.out _ rfl)
  clear HV
  generalize ((w.alloc (.cells #[.int .i64 0, .int .i64 0, .int .i64 0, .int .i64 0] 120)).alloc (.cells #[.int .i64 0, .int .i64 0, .int .i64 0, .int .i64 1] 120)).alloc (.cells #[.int .i64 0, .int .i64 slot] 3) = V at *
  go_loopw [14] (fun i wr => ∃ q : Nat, q ≤ 2 ∧ i = .int .i64 q ∧ Hid (Below V.heap.size V wr)) (fun i _ => 2 - (intOf i).toNat)
  case atStart => exact ⟨0, by omega, rfl, Lib.hid (Below.refl _ _)⟩
  case round =>
    obtain ⟨q, hq, rfl, HB⟩ := hrel
    obtain ⟨v1, v2, v3, v4⟩ := HV1.out _ HB.out
    have k0 := Lib.cell_of_heap v4
    have k1 := Lib.cell_of_heap v3
    by_cases hlt : q < 2
    · obtain ⟨at_, hat, hatn, kc⟩ : ∃ at_ : Nat, (at_ = 0 ∨ at_ = slot) ∧ at_ < n ∧ wr.cell? ⟨w.heap.size + 1 + 1, q, none⟩ = some (.int .i64 at_) := by
        rcases (show q = 0 ∨ q = 1 by omega) with rfl | rfl
        · exact ⟨0, .inl rfl, by omega, by rw [k0]; rfl⟩
        · exact ⟨slot, .inr rfl, hs, by rw [k0]; rfl⟩
      have HCall := Lib.hid (fun w' => HD.out at_ w' hat)
      have cc := HC.out at_ wr hatn v1
      have HB2 : Hid (Below V.heap.size V (wr.alloc (.cells #[.int .i64 0, .int .i64 0, .int .i64 0, .int .i64 0] 120)).drew) := Lib.hid (HB.out.alloc HB.out.size _).drew
      have HB3 : Hid (Below V.heap.size V wr.drew) := Lib.hid HB.out.drew
      have cc2 := HC.out at_ _ hatn (HV1.out _ HB2.out).1
      have cc3 := HC.out at_ _ hatn (HV1.out _ HB3.out).1
      have hq0 : (q : Int) < 2 := by omega
      have ha0 : (0 : Int) ≤ (at_ : Int) := Int.natCast_nonneg _
      have ha1 : (at_ : Int) < (n : Int) := by omega
      clear HD HC v1 v2 v3 v4 k0 hat hs
      generalize str (xs.getD at_ []) = S at *
      go_wp2_with fail
      refine (HCall.out _).mono ?_
      rintro e w1 ⟨rfl, hb1⟩
      have HB1 : Hid (Below V.heap.size V w1) := Lib.hid (HB.out.trans (hb1.mono HB.out.size))
      clear hb1 HB2 HB3 cc cc2 cc3 kc k1 HCall
      have HB9 : Hid (∀ m : Nat, Below V.heap.size V ((w1.alloc (.cells #[.int .i64 0, .int .i64 0, .int .i64 0, .int .i64 0] 120)).drewN m)) := Lib.hid (fun m => (HB1.out.alloc HB1.out.size _).trans ((below_drawsW _ m).mono (by have := HB1.out.size; simp; omega)))
      go_wp2_with fail
      go_roundw
      case rel => exact ⟨q + 1, by omega, by go_num, Lib.hid (HB9.out 0)⟩
      case measure => simp [intOf]; omega
    · have hge : 2 ≤ q := by omega
      have hlt2 : decide ((q : Int) < 2) = false := by rw [decide_eq_false_iff_not]; omega
      have d0 := Lib.cell_of_heap v2
      have d1 := Lib.frozen_of_heap v2
      have HE := Lib.hid v1
      clear HD HC v1 v2 v3 v4 k0
      go_wp2_with fail
      exact bodyPost_ret (v := .agg #[.int .i64 0, .int .i64 0, .int .i64 0, .int .i64 1]) (by simp [results, Tryz.results73, go_sem, d0]) rfl ⟨rfl, (((HE.out.setCell (by simp) _).setCell (by simp) _).setCell (by simp) _).setCell (by simp) _⟩
end Go.Proofs.YtjeabnlmanfplaaGreatDoor
