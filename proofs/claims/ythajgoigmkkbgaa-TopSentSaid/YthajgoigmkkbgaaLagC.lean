/- The lag: the fixed answer. -/
import Derived.Test.YthajgoigmkkbgaaLagB
namespace Go.Proofs.Ythajgoigmkkbgaa
open Go.Shelf Go.RowKit Go.Lib Go.Sort

def wakeBd : Bd := ⟨2, 100, true⟩
theorem wake13_right (t : Int) (h : 0 ≤ t ∧ t ≤ 1099511627776) : quRight ⟨[], [], 0, t⟩ = true :=
  (quRight_iff _).2 ⟨by simp, trivial, by show okN 0 = true; rw [okN_iff]; omega, by show okN t = true; rw [okN_iff]; exact h, h.1, rfl, fun _ => rfl⟩
theorem wake13_one : judgeB wakeBd ⟨[], [], 0, 0⟩ [] = 1 := judge_take (by decide) (wake13_right 0 (by omega)) ⟨by show (0 : Int) - 0 + 1 ≤ 2; omega, by show ((bytesW (quJoined ⟨[], [], 0, 0⟩) + bytesW [] : Nat) : Int) ≤ 100; simp [quJoined, bytesW]⟩
theorem wake13_two : judgeB wakeBd ⟨[], [], 0, 2⟩ [] = 2 := by
  rw [judge_out (by decide) (wake13_right 2 (by omega)) (fun k => by have h : (2 : Int) - 0 + 1 ≤ 2 := k.1; omega)]; rfl
theorem Judge_bare (t : Int) (w : World) : Calls Try.prog 10 #[.agg #[.int .i64 2, .int .i64 100, .bool true], .agg #[.slice none 0 0, .slice none 0 0, .int .i64 0, .int .i64 t], .slice none 0 0] w fun e w' => e = .returned (.int .i64 (judgeB wakeBd ⟨[], [], 0, t⟩ [])) ∧ Below w.heap.size w w' :=
  Judge_any (c3 := 0) wakeBd (q := ⟨none, 0, [], none, 0, [], 0, t⟩) (A3 := none) (ws := []) ⟨SetsAt.nil _ _ _, .inl rfl, fun _ => rfl, fun _ => rfl⟩ ⟨by simp, by simp, by simp⟩ (by simp [joinS, plainS]) (.inl rfl) (by simp) (by show bytesW (quJoined ⟨[], [], 0, t⟩) + bytesW [] ≤ _; simp [quJoined, bytesW])

set_option maxHeartbeats 4000000 in
set_option maxRecDepth 100000 in
theorem awake13_any (w : World) : Calls Try.prog 9 #[] w fun e w' => e = .returned (.bool true) ∧ Below w.heap.size w w' := by
  have HJ1 : Hid (∀ w, Calls Try.prog 10 #[.agg #[.int .i64 2, .int .i64 100, .bool true], .agg #[.slice none 0 0, .slice none 0 0, .int .i64 0, .int .i64 0], .slice none 0 0] w fun e w' => e = .returned (.int .i64 1) ∧ Below w.heap.size w w') := Lib.hid (fun w => by have := Judge_bare 0 w; rw [wake13_one] at this; exact this)
  have HJ2 : Hid (∀ w, Calls Try.prog 10 #[.agg #[.int .i64 2, .int .i64 100, .bool true], .agg #[.slice none 0 0, .slice none 0 0, .int .i64 0, .int .i64 2], .slice none 0 0] w fun e w' => e = .returned (.int .i64 2) ∧ Below w.heap.size w w') := Lib.hid (fun w => by have := Judge_bare 2 w; rw [wake13_two] at this; exact this)
  go_enter Try.func9, Try.ntmps9
  go_wp2_with fail
  obtain ⟨V, hV⟩ : ∃ V, V = w.alloc (.cells #[.int .i64 2, .int .i64 100, .bool true] 23 (0, 0)) := ⟨_, rfl⟩
  have HB1 : Hid (Below w.heap.size w V) := Lib.hid (by rw [hV]; exact below_one _ _)
  have HX : Hid (Thr V w.heap.size (.int .i64 2) (.int .i64 100) (.bool true) 23) := Lib.hid (by rw [hV]; exact Thr.new _ _ _ _ _)
  rw [← hV]
  clear hV
  generalize w.heap.size = H at HX ⊢
  refine (HJ1.out _).mono ?_
  rintro e w2 ⟨rfl, hb2⟩
  have HB2 := Lib.hid (below_next HB1.out hb2)
  replace HX := Lib.hid (HX.out.kept hb2)
  clear hb2
  have x0 := HX.out.c0
  have x1 := HX.out.c1
  have x2 := HX.out.c2
  go_wp2_with fail
  refine (HJ2.out _).mono ?_
  rintro e w3 ⟨rfl, hb3⟩
  have HB3 := Lib.hid (below_next HB2.out hb3)
  clear hb3
  go_wp2_with fail
  go_ret
  exact ⟨rfl, HB3.out⟩
end Go.Proofs.Ythajgoigmkkbgaa
