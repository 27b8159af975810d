/- Contract of loadState, given what currentSlot tells. Contract of pass. -/
import Derived.Test.YtlelfakememckaaGreatDoorWalF
import Derived.Test.YtlelfakememckaaGreatDoorPlain
import Derived.IntWalk
import Derived.BigRegion
namespace Go.Proofs.YtlelfakememckaaGreatDoor
open Go.RowKit

set_option maxHeartbeats 4000000 in
set_option maxRecDepth 100000 in
theorem loadState_of {w : World} {a g : Nat} {v : WalV} (h : WalAt w a v) (xs : List (List UInt8)) (n cap : Nat) (hn : xs.length = n) (hc : n ≤ cap) (hA : Lies w w.heap.size (some ⟨g, 0, none⟩) (xs.map secV)) (hga : g ≠ a) (hn4 : n ≤ 4096) (hx : ∀ x ∈ xs, x.length = 32)
    (gen len pos : Nat) (num : Int) (_hgen : gen ≤ 1099511627776) (hlen : len ≤ 32 * (v.slot - 1)) (hs2 : 2 ≤ v.slot) (hfit : 2 * v.slot + 3 ≤ n)
    (HS : Calls Tryz.prog 57 #[.slice (some ⟨g, 0, none⟩) n cap, .int .i64 v.slot] w fun e w' => e = .returned (.agg #[.int .i64 gen, .int .i64 len, .int .i64 pos, .int .i64 num]) ∧ Below w.heap.size w w') :
    Calls Tryz.prog 33 #[.pointer (some ⟨a, 0, none⟩), .slice (some ⟨g, 0, none⟩) n cap] w fun e w' => e = .returned (.string (str (stateOf xs v.slot gen len))) ∧ WalAt w' a { v with gen := gen, next := pos, num := num } ∧ Moves (fun q => q = a) w w' := by
  have halt : a < w.heap.size := heap_lt h
  obtain ⟨c0, c1, c2, c3, c4, c5, c6, cf⟩ := h.cells
  have HS1 := Lib.hid HS
  have HW := Lib.hid h
  have HA := Lib.hid hA
  have HX := Lib.hid hx
  have HN := Lib.hid hn
  clear HS h hA hx hn
  go_enter Tryz.func33, Tryz.ntmps33
  go_wp2_with fail
  refine HS1.out.mono ?_
  rintro e w1 ⟨rfl, hb1⟩
  have HW1 : Hid (WalAt w1 a v) := Lib.hid ((hb1.block _ halt).trans HW.out)
  obtain ⟨d0, d1, d2, d3, d4, d5, d6, df⟩ := HW1.out.cells
  have halt1 : a < w1.heap.size := Nat.lt_of_lt_of_le halt hb1.size
  have HB1 := Lib.hid hb1
  clear hb1 HS1 c0 c1 c2 c3 c4 c5 c6 cf
  go_wp2_with fail
  have HV : Hid (WalAt (w1.alloc (.cells #[.int .i64 gen, .int .i64 len, .int .i64 pos, .int .i64 num] 107)) a v ∧ (w1.alloc (.cells #[.int .i64 gen, .int .i64 len, .int .i64 pos, .int .i64 num] 107)).heap[w1.heap.size]? = some (.cells #[.int .i64 gen, .int .i64 len, .int .i64 pos, .int .i64 num] 107 (0, 0)) ∧ Below w.heap.size w (w1.alloc (.cells #[.int .i64 gen, .int .i64 len, .int .i64 pos, .int .i64 num] 107))) := Lib.hid ⟨(Below.heap_alloc _ _ _ halt1).trans HW1.out, heap_alloc_new _ _, HB1.out.alloc HB1.out.size _⟩
  clear d0 d1 d2 d3 d4 d5 d6 df HW1 HB1
  generalize w1.alloc (.cells #[.int .i64 gen, .int .i64 len, .int .i64 pos, .int .i64 num] 107) = V at *
  have hne : w1.heap.size ≠ a := by omega
  have hne2 : a ≠ w1.heap.size := by omega
  generalize w1.heap.size = H at *
  obtain ⟨d0, d1, d2, d3, d4, d5, d6, df⟩ := HV.out.1.cells
  have e0 := Lib.cell_of_heap HV.out.2.1
  have e1 : V.cell? ⟨H, 0, none⟩ = some (.int .i64 gen) := e0 0
  have e2 : V.cell? ⟨H, 1, none⟩ = some (.int .i64 len) := e0 1
  have e3 : V.cell? ⟨H, 2, none⟩ = some (.int .i64 pos) := e0 2
  have e4 : V.cell? ⟨H, 3, none⟩ = some (.int .i64 num) := e0 3
  clear e0
  have HV2 : Hid (∀ W, W = (((V.setCell ⟨a, 2, none⟩ (.int .i64 gen)).setCell ⟨a, 4, none⟩ (.int .i64 pos)).setCell ⟨a, 3, none⟩ (.int .i64 num)).drew → WalAt W a { v with gen := gen, next := pos, num := num } ∧ W.heap[H]? = some (.cells #[.int .i64 gen, .int .i64 len, .int .i64 pos, .int .i64 num] 107 (0, 0)) ∧ Moves (fun q => q = a) w W) := Lib.hid (by
    rintro W rfl
    have m0 : Moves (fun q => q = a) w V := Moves.of_below HV.out.2.2
    refine ⟨?_, ?_, (((m0.setCell (p := ⟨a, 2, none⟩) rfl _).setCell (p := ⟨a, 4, none⟩) rfl _).setCell (p := ⟨a, 3, none⟩) rfl _).drew⟩
    · exact row_set (row_set (row_set HV.out.1 2 (.int .i64 gen)) 4 (.int .i64 pos)) 3 (.int .i64 num)
    · show (((V.setCell ⟨a, 2, none⟩ (.int .i64 gen)).setCell ⟨a, 4, none⟩ (.int .i64 pos)).setCell ⟨a, 3, none⟩ (.int .i64 num)).heap[H]? = _
      rw [Below.heap_setCell _ _ _ _ hne, Below.heap_setCell _ _ _ _ hne, Below.heap_setCell _ _ _ _ hne]
      exact HV.out.2.1)
  go_region
  go_wp2_with fail
  have HV3 := Lib.hid (HV2.out _ rfl)
  clear HV2 d0 d1 d2 d3 d4 d5 d6 df e1 e2 e3 e4 HV HW halt1
  generalize (((V.setCell ⟨a, 2, none⟩ (.int .i64 gen)).setCell ⟨a, 4, none⟩ (.int .i64 pos)).setCell ⟨a, 3, none⟩ (.int .i64 num)).drew = W at *
  have halt3 : a < W.heap.size := heap_lt HV3.out.1
  have hH3 : H < W.heap.size := heap_lt HV3.out.2.1
  obtain ⟨d0, d1, d2, d3, d4, d5, d6, df⟩ := HV3.out.1.cells
  have e0 := Lib.cell_of_heap HV3.out.2.1
  have e1 : W.cell? ⟨H, 0, none⟩ = some (.int .i64 gen) := e0 0
  have e2 : W.cell? ⟨H, 1, none⟩ = some (.int .i64 len) := e0 1
  have e3 : W.cell? ⟨H, 2, none⟩ = some (.int .i64 pos) := e0 2
  have e4 : W.cell? ⟨H, 3, none⟩ = some (.int .i64 num) := e0 3
  have hsl : v.slot ≤ 4096 := by omega
  have HSec := Lib.hid (fun w' => slotSector_any (gen : Int) (len : Int) (pos : Int) num v.slot w' (Int.natCast_nonneg _) hsl)
  have HM : Hid (((gen : Int) % 2 * (v.slot : Int)) = ((gen % 2 * v.slot : Nat) : Int)) := Lib.hid (by rw [Int.natCast_mul, Int.natCast_emod]; rfl)
  rw [HM.out] at HSec
  obtain ⟨fi, hfi⟩ : ∃ fi, gen % 2 * v.slot = fi := ⟨_, rfl⟩
  have hfi2 : fi ≤ v.slot := by
    rw [← hfi]
    rcases (show gen % 2 = 0 ∨ gen % 2 = 1 by omega) with e | e <;> rw [e] <;> omega
  have HF := Lib.hid hfi
  rw [hfi] at HSec
  clear e0 hfi HM
  have hsc : secs len + 1 ≤ v.slot := by unfold secs; omega
  have HQ := Lib.hid (fun w => sectorsOf_any len w (by omega))
  have hlenb : len ≤ 140000 := by omega
  obtain ⟨sc, hsc2⟩ : ∃ sc, secs len = sc := ⟨_, rfl⟩
  have HC2 := Lib.hid hsc2
  rw [hsc2] at hsc HQ
  clear hsc2
  have q0 : IntKind.i64.wrap ((fi : Int) + 1) = (fi : Int) + 1 := IntWalk.i64_in _ (by omega)
  have E1 : ∀ p : LatW W, p.wd.cell? ⟨H, 0, none⟩ = some (.int .i64 gen) := fun p => p.cell e1 hH3
  have E2 : ∀ p : LatW W, p.wd.cell? ⟨H, 1, none⟩ = some (.int .i64 len) := fun p => p.cell e2 hH3
  have E3 : ∀ p : LatW W, p.wd.cell? ⟨H, 2, none⟩ = some (.int .i64 pos) := fun p => p.cell e3 hH3
  have E4 : ∀ p : LatW W, p.wd.cell? ⟨H, 3, none⟩ = some (.int .i64 num) := fun p => p.cell e4 hH3
  have D1 : ∀ p : LatW W, p.wd.cell? ⟨a, 1, none⟩ = some (.int .i64 v.slot) := fun p => p.cell d1 halt3
  clear d0 d1 d2 d3 d4 d5 d6 df e1 e2 e3 e4
  refine wp_region_later (by kernel_rfl) (by kernel_rfl) ?_
  repeat (quiet_step (first
    | (go_at_call 58; exact Calls.later_of (HSec.out _))))
  refine wpQuiet_nil ?_
  intro w9 hw9
  obtain ⟨p9, hw9'⟩ := hw9
  subst hw9'
  have F2 : ∀ p : LatW p9.wd, p.wd.cell? ⟨H, 1, none⟩ = some (.int .i64 len) := fun p => p.cell (E2 p9) (Nat.lt_of_lt_of_le hH3 p9.bel.size)
  have HJ : Hid (∀ (p : LatW p9.wd), Calls Tryz.prog 59 #[.slice (some ⟨g, fi + 1, none⟩) sc (cap - (fi + 1)), .int .i64 len] p.wd fun e w' => e = .returned (.string (str (stateOf xs v.slot gen len))) ∧ Below p.wd.heap.size p.wd w') := Lib.hid (fun p => by
    have hl1 : Lies W W.heap.size (some ⟨g, 0, none⟩) (xs.map secV) := HA.out.moves6 HV3.out.2.2 (fun b off e => by simp only [Option.some.injEq, Addr.mk.injEq, and_true] at e; rw [← e.1]; exact hga)
    have hl2 := (hl1.next (p9.bel.trans (p.bel.mono p9.bel.size))).part (fi + 1) sc
    have hl3 : Lies p.wd p.wd.heap.size (some ⟨g, fi + 1, none⟩) (((xs.drop (fi + 1)).take sc).map secV) := by
      rw [List.map_take, List.map_drop]
      rw [Nat.zero_add] at hl2
      exact hl2
    have hxl : ((xs.drop (fi + 1)).take sc).length = sc := by rw [List.length_take, List.length_drop, HN.out]; omega
    have hfl : ((xs.drop (fi + 1)).take sc).flatten.length = 32 * sc := by rw [flatten_32 _ (fun x hx => HX.out x (List.mem_of_mem_drop (List.mem_of_mem_take hx))), hxl]
    have hls : len ≤ 32 * sc := by have := HC2.out; unfold secs at this; omega
    have := joined_any ((xs.drop (fi + 1)).take sc) (some ⟨g, fi + 1, none⟩) sc (cap - (fi + 1)) len p.wd hxl (by omega) hl3 (by omega) (by omega) (by omega)
    unfold stateOf
    rw [HF.out, HC2.out]
    exact this)
  have HE : Hid (∀ (p : LatW p9.wd), WalAt p.wd a { v with gen := gen, next := pos, num := num } ∧ Moves (fun q => q = a) w p.wd) := Lib.hid (fun p => by
    have b2 : Below W.heap.size W p.wd := p9.bel.trans (p.bel.mono p9.bel.size)
    exact ⟨(b2.block _ halt3).trans HV3.out.1, HV3.out.2.2.trans (G := fun _ => False) (Moves.of_below b2) (fun _ h => h.elim)⟩)
  have q1 : IntKind.i64.wrap ((fi : Int) + 1 + (sc : Int)) = (fi : Int) + 1 + (sc : Int) := IntWalk.i64_in _ (by omega)
  have t1 : ((fi : Int) + 1).toNat = fi + 1 := by omega
  have t2 : ((fi : Int) + 1 + (sc : Int)).toNat = fi + 1 + sc := by omega
  have b1 : (0 : Int) ≤ (fi : Int) + 1 := by omega
  have b2 : (fi : Int) + 1 ≤ (fi : Int) + 1 + (sc : Int) := by omega
  have b3 : (fi : Int) + 1 + (sc : Int) ≤ (cap : Int) := by omega
  have b4 : fi + 1 < cap := by omega
  have b5 : ¬ cap = fi + 1 := by omega
  clear HA HX HN HV3 HC2 HF hga hfit hlen E1 E2 E3 E4 D1 HSec
  go_wp2_with fail
  refine wp_region_later (by kernel_rfl) (by kernel_rfl) ?_
  repeat (quiet_step (first
    | (go_at_call 60; exact Calls.later_same (HQ.out _))
    | (go_at_call 59; exact Calls.later_of (HJ.out _))))
  refine wpQuiet_nil ?_
  intro w8 hw8
  obtain ⟨p8, hw8'⟩ := hw8
  subst hw8'
  go_wp2_with fail
  go_ret
  exact ⟨rfl, HE.out _⟩
end Go.Proofs.YtlelfakememckaaGreatDoor

namespace Go.Proofs.YtlelfakememckaaGreatDoor
open Go.RowKit

/-- The log behind a record of k bytes. -/
def WalV.pass (v : WalV) (n k : Nat) : WalV := { v with next := v.place n (1 + secs k), used := v.used + (1 + secs k), num := v.num + 1 }

set_option maxHeartbeats 1600000 in
set_option maxRecDepth 100000 in
theorem pass_any {w : World} {F : Nat → Prop} {a : Nat} {v : WalV} {d : DSt} (h : LogAt w F a v d) (k : Nat) (hk : k ≤ 1000000) :
    Calls Tryz.prog 64 #[.pointer (some ⟨a, 0, none⟩), .int .i64 k] w fun e w' => e = .returned (.tuple #[]) ∧ WalAt w' a (v.pass d.seen.length k) ∧ Moves (fun q => q = a) w w' := by
  have hs : 1 + secs k ≤ 1000000 := by unfold secs; omega
  have hu := h.ok.used
  have hn1 := h.ok.n1
  have hk2 := h.ok.k2
  have hk1 := h.ok.k1
  have HP := Lib.hid (position_any h (1 + secs k) (by omega))
  have HW := Lib.hid h.wal
  obtain ⟨c0, c1, c2, c3, c4, c5, c6, cf⟩ := h.wal.cells
  have HE : Hid (∀ m : Nat, ∀ w', w' = ((((w.drewN m).setCell ⟨a, 4, none⟩ (.int .i64 (v.place d.seen.length (1 + secs k) : Nat))).setCell ⟨a, 5, none⟩ (.int .i64 ((v.used : Int) + (1 + secs k : Nat)))).setCell ⟨a, 3, none⟩ (.int .i64 (v.num + 1))) → WalAt w' a (v.pass d.seen.length k) ∧ Moves (fun q => q = a) w w') := Lib.hid (by
    rintro m w' rfl
    have m0 : Moves (fun q => q = a) w (w.drewN m) := Moves.of_below (below_drawsW w m)
    refine ⟨?_, ((m0.setCell (p := ⟨a, 4, none⟩) rfl _).setCell (p := ⟨a, 5, none⟩) rfl _).setCell (p := ⟨a, 3, none⟩) rfl _⟩
    have h0 : WalAt (w.drewN m) a v := h.wal
    have h1 := row_set (row_set (row_set h0 4 (.int .i64 (v.place d.seen.length (1 + secs k) : Nat))) 5 (.int .i64 ((v.used : Int) + (1 + secs k : Nat)))) 3 (.int .i64 (v.num + 1))
    exact h1)
  have HQ := Lib.hid (fun w => positionsOf_any k w (by omega))
  clear h
  generalize v.place d.seen.length (1 + secs k) = pl at *
  go_enter Tryz.func64, Tryz.ntmps64
  go_wp2_with fail
  refine (positionsOf_any k _ (by omega)).mono ?_
  rintro e w' ⟨rfl, rfl⟩
  go_wp2_with fail
  refine HP.out.mono ?_
  rintro e w' ⟨rfl, m, rfl⟩
  go_wp2_with fail
  have hw1 : IntKind.i64.wrap ((v.used : Int) + ((1 + secs k : Nat) : Int)) = (v.used : Int) + ((1 + secs k : Nat) : Int) := IntWalk.i64_in _ (by omega)
  clear HP
  generalize 1 + secs k = sk at *
  go_region_with (first | (go_at_call 63; refine (HQ.out _).mono ?_; rintro e w' ⟨rfl, rfl⟩))
  all_goals
    go_wp2
    go_end0
    exact ⟨rfl, HE.out (m + 1) _ rfl⟩
end Go.Proofs.YtlelfakememckaaGreatDoor
