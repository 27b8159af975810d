/- Contracts of the small functions of the package disk: Down, has, Size, Loose, Arm, lasts. Contracts of disk.Read and disk.New. -/
import Derived.Test.YtlelfakememckaaGreatDoorDiskP
namespace Go.Proofs.YtlelfakememckaaGreatDoor
open Go.RowKit

def dptr (a : Nat) : Value := .pointer (some ⟨a, 0, none⟩)

theorem Down_nil (w : World) : Calls Tryz.prog 54 #[.pointer none] w fun e w' => e = .returned (.bool true) ∧ w = w' := by
  go_enter Tryz.func54, Tryz.ntmps54
  go_wp2
  go_ret
  exact ⟨rfl, rfl⟩

theorem Down_any {w : World} {F : Nat → Prop} {a : Nat} {d : DSt} (h : IsDisk w F a d) : Calls Tryz.prog 54 #[.pointer (some ⟨a, 0, none⟩)] w fun e w' => e = .returned (.bool d.off) ∧ w = w' := by
  obtain ⟨_, s, cs, u, cu, v, h⟩ := h
  obtain ⟨_, _, _, h3, _, _⟩ := h.cell
  clear h
  go_enter Tryz.func54, Tryz.ntmps54
  go_wp2
  go_ret
  exact ⟨rfl, rfl⟩

theorem has_any {w : World} {F : Nat → Prop} {a : Nat} {d : DSt} (h : IsDisk w F a d) (i : Int) : Calls Tryz.prog 55 #[.pointer (some ⟨a, 0, none⟩), .int .i64 i] w fun e w' => e = .returned (.bool (d.has i)) ∧ w = w' := by
  obtain ⟨ho, s, cs, u, cu, v, h⟩ := h
  obtain ⟨h0, _, _, _, _, _⟩ := h.cell
  have hle := ho.le
  clear h ho
  by_cases h1 : 0 ≤ i
  · by_cases h2 : i < d.seen.length
    · rw [(d.has_iff i).2 ⟨h1, h2⟩]
      go_enter Tryz.func55, Tryz.ntmps55
      go_wp2
      go_ret
      exact ⟨rfl, rfl⟩
    · rw [(d.has_not i).2 (fun h => h2 h.2)]
      have h3 : decide (i < (d.seen.length : Int)) = false := by simpa using h2
      go_enter Tryz.func55, Tryz.ntmps55
      go_wp2
      go_ret
      exact ⟨rfl, rfl⟩
  · rw [(d.has_not i).2 (fun h => h1 h.1)]
    have h3 : decide (0 ≤ i) = false := by simpa using h1
    go_enter Tryz.func55, Tryz.ntmps55
    go_wp2
    go_ret
    exact ⟨rfl, rfl⟩

theorem Size_nil (w : World) : Calls Tryz.prog 30 #[.pointer none] w fun e w' => e = .returned (.int .i64 0) ∧ w = w' := by
  go_enter Tryz.func30, Tryz.ntmps30
  go_wp2
  go_ret
  exact ⟨rfl, rfl⟩

theorem Size_any {w : World} {F : Nat → Prop} {a : Nat} {d : DSt} (h : IsDisk w F a d) : Calls Tryz.prog 30 #[.pointer (some ⟨a, 0, none⟩)] w fun e w' => e = .returned (.int .i64 d.seen.length) ∧ w = w' := by
  obtain ⟨ho, s, cs, u, cu, v, h⟩ := h
  obtain ⟨h0, _, _, _, _, _⟩ := h.cell
  have hle := ho.le
  clear h ho
  go_enter Tryz.func30, Tryz.ntmps30
  go_wp2
  go_ret
  exact ⟨rfl, rfl⟩

/-- What a slice that owns a row looks like. -/
theorem own_form {w : World} {base : Nat} {e : TypeId} {size : Nat} {v : Value} {n : Nat} {xs : List Value} (h : w.ownsRow base e size v n xs) : ∃ A c, v = .slice A n c ∧ n ≤ c ∧ c ≤ maxLen := by
  rcases h.2 with ⟨rfl, rfl⟩ | ⟨g, cap, cur, rfl, _, _, h1, h2, _⟩
  · exact ⟨none, 0, rfl, Nat.le_refl _, Nat.zero_le _⟩
  · exact ⟨_, cap, rfl, h1, h2⟩

theorem Arm_nil (n : Int) (w : World) : Calls Tryz.prog 15 #[.pointer none, .int .i64 n] w fun e w' => e = .returned (.tuple #[]) ∧ w = w' := by
  go_enter Tryz.func15, Tryz.ntmps15
  go_wp2
  refine bodyPost_ret (results_none rfl _ _ _) rfl ?_
  exact ⟨rfl, rfl⟩

/-- One cell of the disk's own block stored: the power's. -/
theorem DiskAt.cellSet {w : World} {F : Nat → Prop} {a : Nat} {d d' : DSt} {s cs u cu : Nat} {v : Value} (h : DiskAt w F a d s cs u cu v) (j : Nat) (x : Value)
    (hc : (diskCells d s cs u cu v).setIfInBounds j x = diskCells d' s cs u cu v) (h1 : d'.seen = d.seen) (h2 : d'.firm = d.firm) (h3 : d'.loose = d.loose) : DiskAt (w.setCell ⟨a, j, none⟩ x) F a d' s cs u cu v := by
  have hb : ∀ k, k ≠ a → (w.setCell ⟨a, j, none⟩ x).heap[k]? = w.heap[k]? := fun k hk => Below.heap_setCell _ _ _ _ hk
  have hs : (w.setCell ⟨a, j, none⟩ x).heap.size = w.heap.size := by simp [World.setCell]
  refine ⟨by rw [← hc]; exact row_set h.blk j x, ?_, ?_, ?_, ?_, h.as_, h.au, h.su, h.va, h.vs, h.vu, h.fa, h.fs, h.fu, h.fv, fun k hk => by rw [hs]; exact h.low k hk⟩
  · rw [h1]; exact h.seen.kept (hb s h.as_.symm) (Nat.le_of_eq hs.symm)
  · rw [h2]; exact h.firm.kept (hb u h.au.symm) (Nat.le_of_eq hs.symm)
  · rw [h3]
    exact h.own.kept (row := some a) ⟨rfl, rfl, rfl, Nat.le_of_eq hs.symm, fun k _ hk => hb k (fun e => hk (by rw [e]))⟩ (Or.inr h.va)
  · rw [h1, h2]; exact h.caps

set_option maxHeartbeats 400000 in
theorem Arm_any {w : World} {F : Nat → Prop} {a : Nat} {d : DSt} (h : IsDisk w F a d) (n : Int) (hn1 : -9223372036854775808 ≤ n) (hn2 : n ≤ 9223372036854775807) :
    Calls Tryz.prog 15 #[.pointer (some ⟨a, 0, none⟩), .int .i64 n] w (DiskEnd w F a (d.armD n) (.tuple #[])) := by
  obtain ⟨ho, s, cs, u, cu, v, h⟩ := h
  have H := Lib.hid h
  have HO := Lib.hid ho
  obtain ⟨_, _, _, _, h4, h5⟩ := h.cell
  have f4 := h.frozen 4
  have f5 := h.frozen 5
  clear h ho
  go_enter Tryz.func15, Tryz.ntmps15
  go_wp2
  go_end0
  refine ⟨rfl, ((Moves.refl F w).setCell (p := ⟨a, 4, none⟩) H.out.fa _).setCell (p := ⟨a, 5, none⟩) H.out.fa _, F, ⟨HO.out.armD hn1 hn2, s, cs, u, cu, v, ?_⟩, fun _ h => Or.inl h⟩
  exact (H.out.cellSet (d' := { d with armed := decide (0 ≤ n) }) 4 _ rfl rfl rfl rfl).cellSet 5 _ rfl rfl rfl rfl

def LastsEnd (w : World) (F : Nat → Prop) (a : Nat) (d : DSt) (e : Ending) (w' : World) : Prop :=
  e = .returned (.bool d.lasts) ∧ Moves F w w' ∧ w'.heap.size = w.heap.size ∧ ∀ s cs u cu v, DiskAt w F a d s cs u cu v → DiskAt w' F a d.spent s cs u cu v

set_option maxHeartbeats 400000 in
theorem lasts_any {w : World} {F : Nat → Prop} {a : Nat} {d : DSt} (h : IsDisk w F a d) :
    Calls Tryz.prog 116 #[.pointer (some ⟨a, 3, none⟩)] w (LastsEnd w F a d) := by
  obtain ⟨ho, s, cs, u, cu, v, h⟩ := h
  have H := Lib.hid h
  obtain ⟨_, _, _, h3, h4, h5⟩ := h.cell
  have f3 := h.frozen 3
  have f5 := h.frozen 5
  clear h
  have hlo := ho.lo
  have hhi := ho.hi
  by_cases hA : d.armed = true
  · have h0 := ho.arm hA
    clear ho
    rw [hA] at h4
    by_cases hL : d.left = 0
    · rw [hL] at h5
      have e1 : d.lasts = false := by unfold DSt.lasts; rw [hA, hL]; rfl
      have e2 : d.spent = { d with off := true } := by unfold DSt.spent; rw [if_pos hA, if_pos hL]
      have E1 := Lib.hid e1
      have E2 := Lib.hid e2
      clear e1 e2 hA hL hlo hhi h0
      go_enter Tryz.func116, Tryz.ntmps116
      go_wp2
      go_ret
      refine ⟨by rw [E1.out]; rfl, (Moves.refl F w).setCell (p := ⟨a, 3, none⟩) H.out.fa _, by simp [World.setCell], fun s cs u cu v h => ?_⟩
      rw [E2.out]
      exact h.cellSet 3 _ rfl rfl rfl rfl
    · have e1 : d.lasts = true := by unfold DSt.lasts; rw [hA]; simpa using hL
      have e2 : d.spent = { d with left := d.left - 1 } := by unfold DSt.spent; rw [if_pos hA, if_neg hL]
      have e3 : (d.left == 0) = false := by simpa using hL
      have E1 := Lib.hid e1
      have E2 := Lib.hid e2
      clear e1 e2 hA hL
      go_enter Tryz.func116, Tryz.ntmps116
      go_wp2
      go_ret
      refine ⟨by rw [E1.out]; rfl, (Moves.refl F w).setCell (p := ⟨a, 5, none⟩) H.out.fa _, by simp [World.setCell], fun s cs u cu v h => ?_⟩
      rw [E2.out]
      exact h.cellSet 5 _ rfl rfl rfl rfl
  · have hA' : d.armed = false := by simpa using hA
    rw [hA'] at h4
    have e1 : d.lasts = true := by unfold DSt.lasts; rw [hA']; rfl
    have e2 : d.spent = d := by unfold DSt.spent; rw [if_neg hA]
    have E1 := Lib.hid e1
    have E2 := Lib.hid e2
    clear e1 e2 hA hA' ho
    go_enter Tryz.func116, Tryz.ntmps116
    go_wp2
    go_ret
    refine ⟨by rw [E1.out]; rfl, Moves.refl F w, rfl, fun s cs u cu v h => ?_⟩
    rw [E2.out]
    exact h
end Go.Proofs.YtlelfakememckaaGreatDoor

namespace Go.Proofs.YtlelfakememckaaGreatDoor
open Go.RowKit

/-- 'string(b[:])' of a sector. -/
theorem text_of_sector {w : World} {b : Nat} {l : List (List UInt8)} (h : Secs w b l) (i : Nat) (hi : i < l.length) :
    (convert 101 9 (.slice (some ⟨b, i * 32, none⟩) 32 32)).run Tryz.prog w = .ok (.string (str l[i])) w := by
  obtain ⟨h1, h2, _⟩ := h.2 i hi
  have := run_convert_bytes_back (P := Tryz.prog) w 101 9 5 ⟨b, i * 32, none⟩ 32 l[i] Tryz.underlying101 Tryz.underlying5 Tryz.underlying9 (fun j hj => by
    rw [WideShapes.add_plain]
    exact h2 j _ (by simp [byteVals, List.getElem?_eq_getElem hj]))
  rwa [h1] at this

theorem Read_nil (i : Int) (w : World) : Calls Tryz.prog 25 #[.pointer none, .int .i64 i] w fun e w' => e = .returned (.tuple #[.string (str []), .int .i64 7]) ∧ w = w' := by
  go_enter Tryz.func25, Tryz.ntmps25
  go_wp2_with (go_at_call 54; refine (Down_nil _).mono ?_; rintro e w' ⟨rfl, rfl⟩)
  go_ret2
  exact ⟨rfl, rfl⟩

set_option maxHeartbeats 400000 in
theorem Read_any {w : World} {F : Nat → Prop} {a : Nat} {d : DSt} (h : IsDisk w F a d) (i : Int) :
    Calls Tryz.prog 25 #[.pointer (some ⟨a, 0, none⟩), .int .i64 i] w fun e w' => e = .returned (.tuple #[.string (str (d.readB i)), .int .i64 (d.readE i)]) ∧ w = w' := by
  have HD := Lib.hid h
  obtain ⟨ho, s, cs, u, cu, v, h⟩ := h
  by_cases h1 : d.off = true
  · have e1 : d.readE i = 7 := by unfold DSt.readE; rw [if_pos h1]
    have e2 : d.readB i = [] := by unfold DSt.readB; rw [e1]; rfl
    rw [e1, e2]
    have H1 := Lib.hid h1
    clear ho h h1 e1 e2
    go_enter Tryz.func25, Tryz.ntmps25
    go_wp2_with (go_at_call 54; refine (Down_any HD.out).mono ?_; rw [H1.out]; rintro e w' ⟨rfl, rfl⟩)
    go_ret2
    exact ⟨rfl, rfl⟩
  · have h1' : d.off = false := by simpa using h1
    have H1 := Lib.hid h1'
    by_cases h2 : d.has i = true
    · obtain ⟨h3, h4⟩ := (d.has_iff i).1 h2
      have H2 := Lib.hid h2
      have e1 : d.readE i = 0 := by unfold DSt.readE; rw [if_neg h1, if_pos h2]
      obtain ⟨k, rfl⟩ := Int.eq_ofNat_of_zero_le h3
      have h5 : k < d.seen.length := by omega
      have e2 : d.readB k = d.seen[k] := by unfold DSt.readB; rw [if_pos e1, Int.toNat_natCast, List.getD_eq_getElem?_getD, List.getElem?_eq_getElem h5]; rfl
      rw [e1, e2]
      obtain ⟨h0, _, _, _, _, _⟩ := h.cell
      have ht := text_of_sector h.seen k h5
      have hle := ho.le
      clear ho h h1 h1' h2 e1 e2
      go_enter Tryz.func25, Tryz.ntmps25
      go_wp2_with (first
        | (go_at_call 54; refine (Down_any HD.out).mono ?_; rw [H1.out]; rintro e w' ⟨rfl, rfl⟩)
        | (go_at_call 55; refine (has_any HD.out _).mono ?_; rw [H2.out]; rintro e w' ⟨rfl, rfl⟩))
      go_ret2
      exact ⟨rfl, rfl⟩
    · have h2' : d.has i = false := by simpa using h2
      have H2 := Lib.hid h2'
      have e1 : d.readE i = 1 := by unfold DSt.readE; rw [if_neg h1, if_neg h2]
      have e2 : d.readB i = [] := by unfold DSt.readB; rw [e1]; rfl
      rw [e1, e2]
      clear ho h h1 h1' h2 h2' e1 e2
      go_enter Tryz.func25, Tryz.ntmps25
      go_wp2_with (first
        | (go_at_call 54; refine (Down_any HD.out).mono ?_; rw [H1.out]; rintro e w' ⟨rfl, rfl⟩)
        | (go_at_call 55; refine (has_any HD.out _).mono ?_; rw [H2.out]; rintro e w' ⟨rfl, rfl⟩))
      go_ret2
      exact ⟨rfl, rfl⟩
end Go.Proofs.YtlelfakememckaaGreatDoor
