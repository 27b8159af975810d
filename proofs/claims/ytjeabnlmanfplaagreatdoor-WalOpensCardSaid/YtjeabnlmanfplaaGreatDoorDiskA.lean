/- Contracts of the small functions of the package disk: Down, has, Size, Loose, Arm, lasts. -/
import Derived.Test.YtjeabnlmanfplaaGreatDoorDiskM
namespace Go.Proofs.YtjeabnlmanfplaaGreatDoor
open Go.RowKit

def dptr (a : Nat) : Value := .pointer (some ⟨a, 0, none⟩)

theorem Down_nil (w : World) : Calls Tryz.prog 68 #[.pointer none] w fun e w' => e = .returned (.bool true) ∧ w = w' := by
  go_enter Tryz.func68, Tryz.ntmps68
  go_wp2
  go_ret
  exact ⟨rfl, rfl⟩

theorem Down_any {w : World} {F : Nat → Prop} {a : Nat} {d : DSt} (h : IsDisk w F a d) : Calls Tryz.prog 68 #[.pointer (some ⟨a, 0, none⟩)] w fun e w' => e = .returned (.bool d.off) ∧ w = w' := by
  obtain ⟨_, s, cs, u, cu, v, h⟩ := h
  obtain ⟨_, _, _, h3, _, _⟩ := h.cell
  clear h
  go_enter Tryz.func68, Tryz.ntmps68
  go_wp2
  go_ret
  exact ⟨rfl, rfl⟩

theorem has_any {w : World} {F : Nat → Prop} {a : Nat} {d : DSt} (h : IsDisk w F a d) (i : Int) : Calls Tryz.prog 69 #[.pointer (some ⟨a, 0, none⟩), .int .i64 i] w fun e w' => e = .returned (.bool (d.has i)) ∧ w = w' := by
  obtain ⟨ho, s, cs, u, cu, v, h⟩ := h
  obtain ⟨h0, _, _, _, _, _⟩ := h.cell
  have hle := ho.le
  clear h ho
  by_cases h1 : 0 ≤ i
  · by_cases h2 : i < d.seen.length
    · rw [(d.has_iff i).2 ⟨h1, h2⟩]
      go_enter Tryz.func69, Tryz.ntmps69
      go_wp2
      go_ret
      exact ⟨rfl, rfl⟩
    · rw [(d.has_not i).2 (fun h => h2 h.2)]
      have h3 : decide (i < (d.seen.length : Int)) = false := by simpa using h2
      go_enter Tryz.func69, Tryz.ntmps69
      go_wp2
      go_ret
      exact ⟨rfl, rfl⟩
  · rw [(d.has_not i).2 (fun h => h1 h.1)]
    have h3 : decide (0 ≤ i) = false := by simpa using h1
    go_enter Tryz.func69, Tryz.ntmps69
    go_wp2
    go_ret
    exact ⟨rfl, rfl⟩

theorem Size_nil (w : World) : Calls Tryz.prog 45 #[.pointer none] w fun e w' => e = .returned (.int .i64 0) ∧ w = w' := by
  go_enter Tryz.func45, Tryz.ntmps45
  go_wp2
  go_ret
  exact ⟨rfl, rfl⟩

theorem Size_any {w : World} {F : Nat → Prop} {a : Nat} {d : DSt} (h : IsDisk w F a d) : Calls Tryz.prog 45 #[.pointer (some ⟨a, 0, none⟩)] w fun e w' => e = .returned (.int .i64 d.seen.length) ∧ w = w' := by
  obtain ⟨ho, s, cs, u, cu, v, h⟩ := h
  obtain ⟨h0, _, _, _, _, _⟩ := h.cell
  have hle := ho.le
  clear h ho
  go_enter Tryz.func45, Tryz.ntmps45
  go_wp2
  go_ret
  exact ⟨rfl, rfl⟩

theorem Loose_nil (w : World) : Calls Tryz.prog 38 #[.pointer none] w fun e w' => e = .returned (.int .i64 0) ∧ w = w' := by
  go_enter Tryz.func38, Tryz.ntmps38
  go_wp2
  go_ret
  exact ⟨rfl, rfl⟩

/-- What a slice that owns a row looks like. -/
theorem own_form {w : World} {base : Nat} {e : TypeId} {size : Nat} {v : Value} {n : Nat} {xs : List Value} (h : w.ownsRow base e size v n xs) : ∃ A c, v = .slice A n c ∧ n ≤ c ∧ c ≤ maxLen := by
  rcases h.2 with ⟨rfl, rfl⟩ | ⟨g, cap, cur, rfl, _, _, h1, h2, _⟩
  · exact ⟨none, 0, rfl, Nat.le_refl _, Nat.zero_le _⟩
  · exact ⟨_, cap, rfl, h1, h2⟩

theorem Loose_any {w : World} {F : Nat → Prop} {a : Nat} {d : DSt} (h : IsDisk w F a d) : Calls Tryz.prog 38 #[.pointer (some ⟨a, 0, none⟩)] w fun e w' => e = .returned (.int .i64 d.loose.length) ∧ w = w' := by
  obtain ⟨ho, s, cs, u, cu, v, h⟩ := h
  obtain ⟨A, c, hv, h1, h2⟩ := own_form h.own
  subst hv
  obtain ⟨_, _, h3, _, _, _⟩ := h.cell
  unfold maxLen at h2
  clear h ho
  go_enter Tryz.func38, Tryz.ntmps38
  go_wp2
  go_ret
  exact ⟨rfl, rfl⟩

theorem Arm_nil (n : Int) (w : World) : Calls Tryz.prog 20 #[.pointer none, .int .i64 n] w fun e w' => e = .returned (.tuple #[]) ∧ w = w' := by
  go_enter Tryz.func20, Tryz.ntmps20
  go_wp2
  refine bodyPost_ret (results_none rfl _ _ _) rfl ?_
  exact ⟨rfl, rfl⟩

/-- One cell of the disk's own block stored: the power's. -/
theorem DiskAt.cellSet {w : World} {F : Nat → Prop} {a : Nat} {d d' : DSt} {s cs u cu : Nat} {v : Value} (h : DiskAt w F a d s cs u cu v) (j : Nat) (x : Value)
    (hc : (diskCells d s cs u cu v).setIfInBounds j x = diskCells d' s cs u cu v) (h1 : d'.seen = d.seen) (h2 : d'.firm = d.firm) (h3 : d'.loose = d.loose) : DiskAt (w.setCell ⟨a, j, none⟩ x) F a d' s cs u cu v := by
  have hb : ∀ k, k ≠ a → (w.setCell ⟨a, j, none⟩ x).heap[k]? = w.heap[k]? := fun k hk => Below.heap_setCell _ _ _ _ hk
  have hs : (w.setCell ⟨a, j, none⟩ x).heap.size = w.heap.size := by simp [World.setCell]
  refine ⟨by rw [← hc]; exact row_set h.blk j x, ?_, ?_, ?_, ?_, h.as_, h.au, h.su, h.va, h.vs, h.vu, h.fa, h.fs, h.fu, h.fv, fun k hk => by rw [hs]; exact h.low k hk⟩
  · rw [h1]; exact h.seen.kept (hb s h.as_.symm) (Nat.le_of_eq hs.symm)
  · rw [h2]; exact h.firm.kept (hb u h.au.symm) (Nat.le_of_eq hs.symm)
  · rw [h3]
    exact h.own.kept (row := some a) ⟨rfl, rfl, rfl, Nat.le_of_eq hs.symm, fun k _ hk => hb k (fun e => hk (by rw [e]))⟩ (Or.inr h.va)
  · rw [h1, h2]; exact h.caps

set_option maxHeartbeats 400000 in
theorem Arm_any {w : World} {F : Nat → Prop} {a : Nat} {d : DSt} (h : IsDisk w F a d) (n : Int) (hn1 : -9223372036854775808 ≤ n) (hn2 : n ≤ 9223372036854775807) :
    Calls Tryz.prog 20 #[.pointer (some ⟨a, 0, none⟩), .int .i64 n] w (DiskEnd w F a (d.armD n) (.tuple #[])) := by
  obtain ⟨ho, s, cs, u, cu, v, h⟩ := h
  have H := Lib.hid h
  have HO := Lib.hid ho
  obtain ⟨_, _, _, _, h4, h5⟩ := h.cell
  have f4 := h.frozen 4
  have f5 := h.frozen 5
  clear h ho
  go_enter Tryz.func20, Tryz.ntmps20
  go_wp2
  go_end0
  refine ⟨rfl, ((Moves.refl F w).setCell (p := ⟨a, 4, none⟩) H.out.fa _).setCell (p := ⟨a, 5, none⟩) H.out.fa _, F, ⟨HO.out.armD hn1 hn2, s, cs, u, cu, v, ?_⟩, fun _ h => Or.inl h⟩
  exact (H.out.cellSet (d' := { d with armed := decide (0 ≤ n) }) 4 _ rfl rfl rfl rfl).cellSet 5 _ rfl rfl rfl rfl

def LastsEnd (w : World) (F : Nat → Prop) (a : Nat) (d : DSt) (e : Ending) (w' : World) : Prop :=
  e = .returned (.bool d.lasts) ∧ Moves F w w' ∧ w'.heap.size = w.heap.size ∧ ∀ s cs u cu v, DiskAt w F a d s cs u cu v → DiskAt w' F a d.spent s cs u cu v

set_option maxHeartbeats 400000 in
theorem lasts_any {w : World} {F : Nat → Prop} {a : Nat} {d : DSt} (h : IsDisk w F a d) :
    Calls Tryz.prog 70 #[.pointer (some ⟨a, 3, none⟩)] w (LastsEnd w F a d) := by
  obtain ⟨ho, s, cs, u, cu, v, h⟩ := h
  have H := Lib.hid h
  obtain ⟨_, _, _, h3, h4, h5⟩ := h.cell
  have f3 := h.frozen 3
  have f5 := h.frozen 5
  clear h
  have hlo := ho.lo
  have hhi := ho.hi
  by_cases hA : d.armed = true
  · have h0 := ho.arm hA
    clear ho
    rw [hA] at h4
    by_cases hL : d.left = 0
    · rw [hL] at h5
      have e1 : d.lasts = false := by unfold DSt.lasts; rw [hA, hL]; rfl
      have e2 : d.spent = { d with off := true } := by unfold DSt.spent; rw [if_pos hA, if_pos hL]
      have E1 := Lib.hid e1
      have E2 := Lib.hid e2
      clear e1 e2 hA hL hlo hhi h0
      go_enter Tryz.func70, Tryz.ntmps70
      go_wp2
      go_ret
      refine ⟨by rw [E1.out]; rfl, (Moves.refl F w).setCell (p := ⟨a, 3, none⟩) H.out.fa _, by simp [World.setCell], fun s cs u cu v h => ?_⟩
      rw [E2.out]
      exact h.cellSet 3 _ rfl rfl rfl rfl
    · have e1 : d.lasts = true := by unfold DSt.lasts; rw [hA]; simpa using hL
      have e2 : d.spent = { d with left := d.left - 1 } := by unfold DSt.spent; rw [if_pos hA, if_neg hL]
      have e3 : (d.left == 0) = false := by simpa using hL
      have E1 := Lib.hid e1
      have E2 := Lib.hid e2
      clear e1 e2 hA hL
      go_enter Tryz.func70, Tryz.ntmps70
      go_wp2
      go_ret
      refine ⟨by rw [E1.out]; rfl, (Moves.refl F w).setCell (p := ⟨a, 5, none⟩) H.out.fa _, by simp [World.setCell], fun s cs u cu v h => ?_⟩
      rw [E2.out]
      exact h.cellSet 5 _ rfl rfl rfl rfl
  · have hA' : d.armed = false := by simpa using hA
    rw [hA'] at h4
    have e1 : d.lasts = true := by unfold DSt.lasts; rw [hA']; rfl
    have e2 : d.spent = d := by unfold DSt.spent; rw [if_neg hA]
    have E1 := Lib.hid e1
    have E2 := Lib.hid e2
    clear e1 e2 hA hA' ho
    go_enter Tryz.func70, Tryz.ntmps70
    go_wp2
    go_ret
    refine ⟨by rw [E1.out]; rfl, Moves.refl F w, rfl, fun s cs u cu v h => ?_⟩
    rw [E2.out]
    exact h
end Go.Proofs.YtjeabnlmanfplaaGreatDoor
