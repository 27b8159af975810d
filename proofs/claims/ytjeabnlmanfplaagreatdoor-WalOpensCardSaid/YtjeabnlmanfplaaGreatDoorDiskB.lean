/- Contracts of disk.Read and disk.New. -/
import Derived.Test.YtjeabnlmanfplaaGreatDoorDiskA
namespace Go.Proofs.YtjeabnlmanfplaaGreatDoor
open Go.RowKit

/-- 'string(b[:])' of a sector. -/
theorem text_of_sector {w : World} {b : Nat} {l : List (List UInt8)} (h : Secs w b l) (i : Nat) (hi : i < l.length) :
    (convert 115 9 (.slice (some ⟨b, i * 32, none⟩) 32 32)).run Tryz.prog w = .ok (.string (str l[i])) w := by
  obtain ⟨h1, h2, _⟩ := h.2 i hi
  have := run_convert_bytes_back (P := Tryz.prog) w 115 9 5 ⟨b, i * 32, none⟩ 32 l[i] Tryz.underlying115 Tryz.underlying5 Tryz.underlying9 (fun j hj => by
    rw [WideShapes.add_plain]
    exact h2 j _ (by simp [byteVals, List.getElem?_eq_getElem hj]))
  rwa [h1] at this

theorem Read_nil (i : Int) (w : World) : Calls Tryz.prog 30 #[.pointer none, .int .i64 i] w fun e w' => e = .returned (.tuple #[.string (str []), .int .i64 7]) ∧ w = w' := by
  go_enter Tryz.func30, Tryz.ntmps30
  go_wp2_with (go_at_call 68; refine (Down_nil _).mono ?_; rintro e w' ⟨rfl, rfl⟩)
  go_ret2
  exact ⟨rfl, rfl⟩

set_option maxHeartbeats 400000 in
theorem Read_any {w : World} {F : Nat → Prop} {a : Nat} {d : DSt} (h : IsDisk w F a d) (i : Int) :
    Calls Tryz.prog 30 #[.pointer (some ⟨a, 0, none⟩), .int .i64 i] w fun e w' => e = .returned (.tuple #[.string (str (d.readB i)), .int .i64 (d.readE i)]) ∧ w = w' := by
  have HD := Lib.hid h
  obtain ⟨ho, s, cs, u, cu, v, h⟩ := h
  by_cases h1 : d.off = true
  · have e1 : d.readE i = 7 := by unfold DSt.readE; rw [if_pos h1]
    have e2 : d.readB i = [] := by unfold DSt.readB; rw [e1]; rfl
    rw [e1, e2]
    have H1 := Lib.hid h1
    clear ho h h1 e1 e2
    go_enter Tryz.func30, Tryz.ntmps30
    go_wp2_with (go_at_call 68; refine (Down_any HD.out).mono ?_; rw [H1.out]; rintro e w' ⟨rfl, rfl⟩)
    go_ret2
    exact ⟨rfl, rfl⟩
  · have h1' : d.off = false := by simpa using h1
    have H1 := Lib.hid h1'
    by_cases h2 : d.has i = true
    · obtain ⟨h3, h4⟩ := (d.has_iff i).1 h2
      have H2 := Lib.hid h2
      have e1 : d.readE i = 0 := by unfold DSt.readE; rw [if_neg h1, if_pos h2]
      obtain ⟨k, rfl⟩ := Int.eq_ofNat_of_zero_le h3
      have h5 : k < d.seen.length := by omega
      have e2 : d.readB k = d.seen[k] := by unfold DSt.readB; rw [if_pos e1, Int.toNat_natCast, List.getD_eq_getElem?_getD, List.getElem?_eq_getElem h5]; rfl
      rw [e1, e2]
      obtain ⟨h0, _, _, _, _, _⟩ := h.cell
      have ht := text_of_sector h.seen k h5
      have hle := ho.le
      clear ho h h1 h1' h2 e1 e2
      go_enter Tryz.func30, Tryz.ntmps30
      go_wp2_with (first
        | (go_at_call 68; refine (Down_any HD.out).mono ?_; rw [H1.out]; rintro e w' ⟨rfl, rfl⟩)
        | (go_at_call 69; refine (has_any HD.out _).mono ?_; rw [H2.out]; rintro e w' ⟨rfl, rfl⟩))
      go_ret2
      exact ⟨rfl, rfl⟩
    · have h2' : d.has i = false := by simpa using h2
      have H2 := Lib.hid h2'
      have e1 : d.readE i = 1 := by unfold DSt.readE; rw [if_neg h1, if_neg h2]
      have e2 : d.readB i = [] := by unfold DSt.readB; rw [e1]; rfl
      rw [e1, e2]
      clear ho h h1 h1' h2 h2' e1 e2
      go_enter Tryz.func30, Tryz.ntmps30
      go_wp2_with (first
        | (go_at_call 68; refine (Down_any HD.out).mono ?_; rw [H1.out]; rintro e w' ⟨rfl, rfl⟩)
        | (go_at_call 69; refine (has_any HD.out _).mono ?_; rw [H2.out]; rintro e w' ⟨rfl, rfl⟩))
      go_ret2
      exact ⟨rfl, rfl⟩
end Go.Proofs.YtjeabnlmanfplaaGreatDoor
