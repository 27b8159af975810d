/- Contract of pass. -/
import Derived.Test.YtjeabnlmanfplaaGreatDoorWalF
import Derived.IntWalk
namespace Go.Proofs.YtjeabnlmanfplaaGreatDoor
open Go.RowKit

/-- The log behind a record of k bytes. -/
def WalV.pass (v : WalV) (n k : Nat) : WalV := { v with next := v.place n (1 + secs k), used := v.used + (1 + secs k), num := v.num + 1 }

set_option maxHeartbeats 1600000 in
set_option maxRecDepth 100000 in
theorem pass_any {w : World} {F : Nat → Prop} {a : Nat} {v : WalV} {d : DSt} (h : LogAt w F a v d) (k : Nat) (hk : k ≤ 1000000) :
    Calls Tryz.prog 80 #[.pointer (some ⟨a, 0, none⟩), .int .i64 k] w fun e w' => e = .returned (.tuple #[]) ∧ WalAt w' a (v.pass d.seen.length k) ∧ Moves (fun q => q = a) w w' := by
  have hs : 1 + secs k ≤ 1000000 := by unfold secs; omega
  have hu := h.ok.used
  have hn1 := h.ok.n1
  have hk2 := h.ok.k2
  have hk1 := h.ok.k1
  have HP := Lib.hid (position_any h (1 + secs k) (by omega))
  have HW := Lib.hid h.wal
  obtain ⟨c0, c1, c2, c3, c4, c5, c6, cf⟩ := h.wal.cells
  have HE : Hid (∀ m : Nat, ∀ w', w' = ((((w.drewN m).setCell ⟨a, 4, none⟩ (.int .i64 (v.place d.seen.length (1 + secs k) : Nat))).setCell ⟨a, 5, none⟩ (.int .i64 ((v.used : Int) + (1 + secs k : Nat)))).setCell ⟨a, 3, none⟩ (.int .i64 (v.num + 1))) → WalAt w' a (v.pass d.seen.length k) ∧ Moves (fun q => q = a) w w') := Lib.hid (by
    rintro m w' rfl
    have m0 : Moves (fun q => q = a) w (w.drewN m) := Moves.of_below (below_drawsW w m)
    refine ⟨?_, ((m0.setCell (p := ⟨a, 4, none⟩) rfl _).setCell (p := ⟨a, 5, none⟩) rfl _).setCell (p := ⟨a, 3, none⟩) rfl _⟩
    have h0 : WalAt (w.drewN m) a v := h.wal
    have h1 := row_set (row_set (row_set h0 4 (.int .i64 (v.place d.seen.length (1 + secs k) : Nat))) 5 (.int .i64 ((v.used : Int) + (1 + secs k : Nat)))) 3 (.int .i64 (v.num + 1))
    exact h1)
  have HQ := Lib.hid (fun w => positionsOf_any k w (by omega))
  clear h
  generalize v.place d.seen.length (1 + secs k) = pl at *
  go_enter Tryz.func80, Tryz.ntmps80
  go_wp2_with fail
  refine (positionsOf_any k _ (by omega)).mono ?_
  rintro e w' ⟨rfl, rfl⟩
  go_wp2_with fail
  refine HP.out.mono ?_
  rintro e w' ⟨rfl, m, rfl⟩
  go_wp2_with fail
  have hw1 : IntKind.i64.wrap ((v.used : Int) + ((1 + secs k : Nat) : Int)) = (v.used : Int) + ((1 + secs k : Nat) : Int) := IntWalk.i64_in _ (by omega)
  clear HP
  generalize 1 + secs k = sk at *
  go_region_with (first | (go_at_call 79; refine (HQ.out _).mono ?_; rintro e w' ⟨rfl, rfl⟩))
  all_goals
    go_wp2
    go_end0
    exact ⟨rfl, HE.out (m + 1) _ rfl⟩
end Go.Proofs.YtjeabnlmanfplaaGreatDoor
