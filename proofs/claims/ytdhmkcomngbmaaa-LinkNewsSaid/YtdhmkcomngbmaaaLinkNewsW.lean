/- The walks of LinkNews and LinkOld. -/
import Derived.Test.YtdhmkcomngbmaaaLinkM
namespace Go.Proofs.Ytdhmkcomngbmaaa
open Go.RowKit

set_option maxHeartbeats 1000000 in
set_option maxRecDepth 100000 in
theorem LinkNews_walk (n : Int) (w : World) : Calls Try.prog 5 #[.int .i64 n] w fun e w' => e = .returned (.bool true) ∧ Below w.heap.size w w' := by
  by_cases h : 1 ≤ n ∧ n ≤ 1099511627776
  · have h1 : ¬ n < 1 := by omega
    have h2 : ¬ 1099511627776 < n := by omega
    have HNw := Lib.hid (New_ok n w h)
    have HRf : Hid (∀ W, Calls Try.prog 16 #[.agg #[.int .i64 n, .int .i64 0, .int .i64 1, .slice none 0 0, .int .i64 1]] W fun e w' => e = .returned (.agg #[.int .i64 n, .int .i64 0, .int .i64 1, .int .i64 1, .slice none 0 0]) ∧ Below W.heap.size W w') := Lib.hid (fun W => ref_any (LEnd.new_ n) none 0 W)
    have HEq : Hid (∀ W, Calls Try.prog 17 #[.agg #[.int .i64 n, .int .i64 0, .int .i64 1, .int .i64 1, .slice none 0 0], .agg #[.int .i64 n, .int .i64 0, .int .i64 1, .int .i64 1, .slice none 0 0]] W fun e w' => e = .returned (.bool true) ∧ Below W.heap.size W w') := Lib.hid (fun W => REqual_yes (LEnd.new_ n) none none 0 0 0 0 W (by simp [LEnd.new_]) (.inl rfl) (.inl rfl) (Nat.zero_le _) (Nat.zero_le _))
    simp only [LEnd.val, LEnd.new_, List.length_nil] at HNw
    clear h
    go_enter Try.func5, Try.ntmps5
    go_wp2_with fail
    refine HNw.out.mono ?_
    rintro e w1 ⟨rfl, hb1⟩
    have HB1 := Lib.hid (below_next hb1 (below_one w1 (.cells #[.int .i64 n, .int .i64 0, .int .i64 1, .slice none 0 0, .int .i64 1] 24)))
    clear hb1
    go_wp2_with fail
    refine (HRf.out _).mono ?_
    rintro e w2 ⟨rfl, hb2⟩
    go_wp2_with fail
    refine (HEq.out _).mono ?_
    rintro e w3 ⟨rfl, hb3⟩
    go_wp2_with fail
    refine (awake15_any _).mono ?_
    rintro e w4 ⟨rfl, hb4⟩
    go_wp2_with fail
    go_ret
    exact ⟨rfl, below_next (below_next (below_next HB1.out hb2) hb3) hb4⟩
  · have HNw := Lib.hid (New_no n w h)
    have HRf : Hid (∀ W, Calls Try.prog 16 #[.agg #[.int .i64 0, .int .i64 0, .int .i64 0, .slice none 0 0, .int .i64 0]] W fun e w' => e = .returned (.agg #[.int .i64 0, .int .i64 0, .int .i64 0, .int .i64 0, .slice none 0 0]) ∧ Below W.heap.size W w') := Lib.hid (fun W => ref_any LEnd.none_ none 0 W)
    have HEq : Hid (∀ W, Calls Try.prog 17 #[.agg #[.int .i64 0, .int .i64 0, .int .i64 0, .int .i64 0, .slice none 0 0], .agg #[.int .i64 0, .int .i64 0, .int .i64 0, .int .i64 0, .slice none 0 0]] W fun e w' => e = .returned (.bool true) ∧ Below W.heap.size W w') := Lib.hid (fun W => REqual_yes LEnd.none_ none none 0 0 0 0 W (by simp [LEnd.none_]) (.inl rfl) (.inl rfl) (Nat.zero_le _) (Nat.zero_le _))
    simp only [LEnd.val, LEnd.none_, List.length_nil] at HNw
    by_cases h1 : n < 1
    · clear h
      go_enter Try.func5, Try.ntmps5
      go_wp2_with fail
      refine HNw.out.mono ?_
      rintro e w1 ⟨rfl, hb1⟩
      have HB1 := Lib.hid (below_next hb1 (below_one w1 (.cells #[.int .i64 0, .int .i64 0, .int .i64 0, .slice none 0 0, .int .i64 0] 24)))
      clear hb1
      go_wp2_with fail
      refine (HRf.out _).mono ?_
      rintro e w2 ⟨rfl, hb2⟩
      go_wp2_with fail
      refine (HEq.out _).mono ?_
      rintro e w3 ⟨rfl, hb3⟩
      go_wp2_with fail
      refine (awake15_any _).mono ?_
      rintro e w4 ⟨rfl, hb4⟩
      go_wp2_with fail
      go_ret
      exact ⟨rfl, below_next (below_next (below_next HB1.out hb2) hb3) hb4⟩
    · have h2 : 1099511627776 < n := by omega
      clear h
      go_enter Try.func5, Try.ntmps5
      go_wp2_with fail
      refine HNw.out.mono ?_
      rintro e w1 ⟨rfl, hb1⟩
      have HB1 := Lib.hid (below_next hb1 (below_one w1 (.cells #[.int .i64 0, .int .i64 0, .int .i64 0, .slice none 0 0, .int .i64 0] 24)))
      clear hb1
      go_wp2_with fail
      refine (HRf.out _).mono ?_
      rintro e w2 ⟨rfl, hb2⟩
      go_wp2_with fail
      refine (HEq.out _).mono ?_
      rintro e w3 ⟨rfl, hb3⟩
      go_wp2_with fail
      refine (awake15_any _).mono ?_
      rintro e w4 ⟨rfl, hb4⟩
      go_wp2_with fail
      go_ret
      exact ⟨rfl, below_next (below_next (below_next HB1.out hb2) hb3) hb4⟩
end Go.Proofs.Ytdhmkcomngbmaaa
