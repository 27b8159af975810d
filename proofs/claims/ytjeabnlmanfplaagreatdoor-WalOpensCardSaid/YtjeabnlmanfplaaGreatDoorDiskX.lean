/- Contract of disk.Write, over all inputs. -/
import Derived.Test.YtjeabnlmanfplaaGreatDoorDiskW
namespace Go.Proofs.YtjeabnlmanfplaaGreatDoor
open Go.RowKit

theorem lasts_end {w w' : World} {F : Nat → Prop} {a : Nat} {d : DSt} {e : Ending} (hd : IsDisk w F a d) (h : LastsEnd w F a d e w') (v : Value) : DiskEnd w F a d.spent v (.returned v) w' := by
  obtain ⟨_, hm, _, hk⟩ := h
  obtain ⟨ho, s, cs, u, cu, x, h⟩ := hd
  exact ⟨rfl, hm, F, ⟨ho.spent, s, cs, u, cu, x, hk _ _ _ _ _ h⟩, fun _ h => Or.inl h⟩

set_option maxHeartbeats 800000 in
theorem Write_any {w : World} {F : Nat → Prop} {a : Nat} {d : DSt} (h : IsDisk w F a d) (i : Int) (t : ByteArray) (ht : t.size ≤ 9223372036854775807) (hL : d.loose.length ≤ 1000000) :
    Calls Tryz.prog 33 #[.pointer (some ⟨a, 0, none⟩), .int .i64 i, .string t] w (DiskEnd w F a (d.writeD i t.data.toList) (.int .i64 (d.writeE i t.data.toList))) := by
  have HD := Lib.hid h
  by_cases h1 : d.off = true
  · rw [show d.writeE i t.data.toList = 7 from by unfold DSt.writeE; rw [if_pos h1], show d.writeD i t.data.toList = d from by unfold DSt.writeD; rw [if_pos (Or.inl h1)]]
    have H1 := Lib.hid h1
    clear h h1
    go_enter Tryz.func33, Tryz.ntmps33
    go_wp2_with (go_at_call 68; refine (Down_any HD.out).mono ?_; rw [H1.out]; rintro e w' ⟨rfl, rfl⟩)
    go_ret
    exact DiskEnd.same HD.out
  have h1' : d.off = false := by simpa using h1
  have H1 := Lib.hid h1'
  by_cases h2 : d.has i = true
  case neg =>
    have h2' : d.has i = false := by simpa using h2
    rw [show d.writeE i t.data.toList = 1 from by unfold DSt.writeE; rw [if_neg h1, if_pos h2'], show d.writeD i t.data.toList = d from by unfold DSt.writeD; rw [if_pos (Or.inr (Or.inl h2'))]]
    have H2 := Lib.hid h2'
    clear h h1 h1' h2 h2'
    go_enter Tryz.func33, Tryz.ntmps33
    go_wp2_with (first
      | (go_at_call 68; refine (Down_any HD.out).mono ?_; rw [H1.out]; rintro e w' ⟨rfl, rfl⟩)
      | (go_at_call 69; refine (has_any HD.out _).mono ?_; rw [H2.out]; rintro e w' ⟨rfl, rfl⟩))
    go_ret
    exact DiskEnd.same HD.out
  by_cases h3 : 32 < t.size
  · have h3' : 32 < t.data.toList.length := by rw [list_length]; exact h3
    rw [show d.writeE i t.data.toList = 5 from by unfold DSt.writeE; rw [if_neg h1, if_neg (by rw [h2]; simp), if_pos h3'], show d.writeD i t.data.toList = d from by unfold DSt.writeD; rw [if_pos (Or.inr (Or.inr h3'))]]
    have H2 := Lib.hid h2
    clear h h1 h1' h2 h3'
    go_enter Tryz.func33, Tryz.ntmps33
    go_wp2_with (first
      | (go_at_call 68; refine (Down_any HD.out).mono ?_; rw [H1.out]; rintro e w' ⟨rfl, rfl⟩)
      | (go_at_call 69; refine (has_any HD.out _).mono ?_; rw [H2.out]; rintro e w' ⟨rfl, rfl⟩))
    go_ret
    exact DiskEnd.same HD.out
  have h3' : ¬ 32 < t.data.toList.length := by rw [list_length]; exact h3
  have hn : ¬ (d.off = true ∨ d.has i = false ∨ 32 < t.data.toList.length) := by rw [h2]; simp [h1', h3]
  by_cases h4 : d.lasts = true
  · rw [show d.writeE i t.data.toList = 0 from by unfold DSt.writeE; rw [if_neg h1, if_neg (by rw [h2]; simp), if_neg h3', if_pos h4], show d.writeD i t.data.toList = d.spent.put i.toNat (padB t.data.toList) from by unfold DSt.writeD; rw [if_neg hn, if_pos h4]]
    obtain ⟨h5, h6⟩ := (d.has_iff i).1 h2
    obtain ⟨k, rfl⟩ := Int.eq_ofNat_of_zero_le h5
    rw [Int.toNat_natCast]
    exact Write_ok h k t h1' (by omega) (by omega) h4 hL
  · have h4' : d.lasts = false := by simpa using h4
    rw [show d.writeE i t.data.toList = 7 from by unfold DSt.writeE; rw [if_neg h1, if_neg (by rw [h2]; simp), if_neg h3', if_neg h4], show d.writeD i t.data.toList = d.spent from by unfold DSt.writeD; rw [if_neg hn, if_neg h4]]
    have H2 := Lib.hid h2
    have H4 := Lib.hid h4'
    clear h h1 h1' h2 h3' hn h4 h4'
    go_enter Tryz.func33, Tryz.ntmps33
    go_wp2_with (first
      | (go_at_call 68; refine (Down_any HD.out).mono ?_; rw [H1.out]; rintro e w' ⟨rfl, rfl⟩)
      | (go_at_call 69; refine (has_any HD.out _).mono ?_; rw [H2.out]; rintro e w' ⟨rfl, rfl⟩)
      | (go_at_call 70; refine (lasts_any HD.out).mono ?_; rintro e w1 hl; have HE := Lib.hid (lasts_end HD.out hl (.int .i64 7)); obtain ⟨he, _⟩ := hl; rw [H4.out] at he; subst he))
    go_ret
    exact HE.out
end Go.Proofs.YtjeabnlmanfplaaGreatDoor
