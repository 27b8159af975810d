/- Folded writes: contracts of Pick and of the document's Pick. -/
import Derived.Test.YtpmllckfijfehaaFoldI
namespace Go.Proofs.Ytpmllckfijfehaa
open Go.Shelf Go.RowKit Go.Lib Go.Sort

theorem pickE_drop {vs : List Vl} {ms : List Mk} {k : Nat} (hk : k < ms.length) : pickE vs (ms.drop k) = if gotE vs ms[k].1 ms[k].2 = 0 then pickE vs (ms.drop (k + 1)) else gotE vs ms[k].1 ms[k].2 := by
  rw [List.drop_eq_getElem_cons hk, pickE]
theorem pickL_take {vs : List Vl} {ms : List Mk} {k : Nat} (hk : k < ms.length) : pickL vs (ms.take (k + 1)) = pickL vs (ms.take k) ++ [⟨ms[k].1, ms[k].2, gotS vs ms[k].1 ms[k].2⟩] := by
  unfold pickL; rw [List.take_succ_eq_append_getElem hk, List.map_append]; rfl
theorem pickL_length (vs : List Vl) (ms : List Mk) : (pickL vs ms).length = ms.length := by unfold pickL; simp
/-- What a call that hands back writes and an error leaves. -/
def WrsErr (us : List Wr) (n : Int) (w : World) (e : Ending) (w' : World) : Prop :=
  ∃ A c, e = .returned (.tuple #[.slice A us.length c, .int .i64 n]) ∧ WrsAt w' w'.heap.size A us ∧ (A = none → c = 0) ∧ Below w.heap.size w w'
theorem WrsErr.none_ (n : Int) {w w' : World} (hb : Below w.heap.size w w') : WrsErr [] n w (.returned (.tuple #[.slice none 0 0, .int .i64 n])) w' := ⟨none, 0, rfl, .inl rfl, fun _ => rfl, hb⟩
theorem pick_bad {vs : List Vl} (ms : List Mk) (h : rightB vs = false) : pickV vs ms = [] ∧ pickEr vs ms = 1 := by
  have : pickEr vs ms = 1 := by unfold pickEr; rw [h]; rfl
  exact ⟨by unfold pickV; rw [this]; rfl, this⟩
theorem pick_err {vs : List Vl} {ms : List Mk} {n : Int} (h : rightB vs = true) (he : pickE vs ms = n) (hn : n ≠ 0) : pickV vs ms = [] ∧ pickEr vs ms = n := by
  have : pickEr vs ms = n := by unfold pickEr; rw [h]; exact he
  exact ⟨by unfold pickV; rw [this, if_neg hn], this⟩
theorem pick_ok {vs : List Vl} {ms : List Mk} (h : rightB vs = true) (he : pickE vs ms = 0) : pickV vs ms = pickL vs ms ∧ pickEr vs ms = 0 := by
  have : pickEr vs ms = 0 := by unfold pickEr; rw [h]; exact he
  exact ⟨by unfold pickV; rw [this, if_pos rfl], this⟩
theorem own_errW {w0 w : World} {base : Nat} {v : Value} {us : List Wr} {t : TypeId} (h : w.ownsRow base t 3 v us.length (wrCells us)) (hb : Below w0.heap.size w0 w) : WrsErr us 0 w0 (.returned (.tuple #[v, .int .i64 0])) w := by
  obtain ⟨A, c, e, h1, h2, h3⟩ := own_end h hb
  cases e
  exact ⟨A, c, rfl, h1, h2, h3⟩

end Go.Proofs.Ytpmllckfijfehaa
