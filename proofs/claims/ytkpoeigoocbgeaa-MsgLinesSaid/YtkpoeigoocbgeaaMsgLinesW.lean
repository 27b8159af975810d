/- The walk of MsgLines. -/
import Derived.Test.YtkpoeigoocbgeaaMsgK
import Derived.Test.YtkpoeigoocbgeaaMsgO
namespace Go.Proofs.Ytkpoeigoocbgeaa
open Go.RowKit

set_option maxHeartbeats 4000000 in
set_option maxRecDepth 100000 in
theorem MsgLines_walk {w : World} {A : Option Addr} {c : Nat} (l : List Br) (s : List UInt8) (h : BrsAt w w.heap.size A l) (hx : l.length ≤ 9223372036854775807) (hs : s.length ≤ 140737488351232) :
    Calls Try.prog 3 #[.slice A l.length c, .string (str s)] w fun e w' => e = .returned (.bool true) ∧ Below w.heap.size w w' := by
  obtain ⟨T, hT⟩ : ∃ T, str s = T := ⟨_, rfl⟩
  have hsz : T.size = s.length := by rw [← hT, str_size]
  rw [hT]
  by_cases hlen : 100 < l.length
  · have hlen2 : (100 : Int) < (l.length : Int) := by omega
    generalize l.length = n at *
    clear h
    go_enter Try.func3, Try.ntmps3
    go_wp2_with (go_at_call 9; (with_reducible refine (awake17_any _).mono ?_); rintro e w9 ⟨rfl, hb⟩; have HB9 := Lib.hid (hb); clear hb)
    go_ret
    exact ⟨rfl, HB9.out⟩
  have hlen2 : ¬ (100 : Int) < (l.length : Int) := by omega
  have HPu := Lib.hid (PPutLine_any (c := c) h (by omega))
  have HOk := Lib.hid (fun W (hb : Below w.heap.size w W) => lined17_any (c := c) (h.next hb) (by omega))
  have HTk := Lib.hid (fun W => PTakeLine_any s W (by omega))
  have HRt := Lib.hid (fun W => takeLine17_any s 0 W (by omega) (by omega))
  rw [List.drop_zero, show ((0 : Nat) : Int) = 0 from rfl] at HRt
  rw [hT] at HTk HRt
  unfold TLn at HTk
  unfold LnEnd17 at HRt
  unfold putLnE putLnS at HPu
  cases q : lined l with
  | true =>
    rw [q] at HPu HOk
    have HRp := Lib.hid (fun W (hb : Below w.heap.size w W) => putLine17_any (c := c) (h.next hb) q)
    rw [if_pos rfl, if_pos rfl] at HPu
    obtain ⟨X, hX⟩ : ∃ X, str (lineB l) = X := ⟨_, rfl⟩
    rw [hX] at HPu HRp
    clear hX
    cases r : lnOk s with
    | true =>
      have HTa : Hid (∀ W, Calls Try.prog 13 #[.string T] W fun e w' => ∃ A c, e = .returned (.tuple #[.slice A (lnL s).length c, .string (str (lnR s)), .int .i64 0]) ∧ BrsAt w' w'.heap.size A (lnL s) ∧ Below W.heap.size W w') := Lib.hid (fun W => (HTk.out W).mono (fun e w' h => by
        rcases h with ⟨_, h⟩ | ⟨h, _⟩
        · exact h
        · rw [r] at h; cases h))
      have hin := ln_size r
      obtain ⟨at_, hat⟩ : ∃ a, 1 + 16 * lnN s = a := ⟨_, rfl⟩
      rw [hat] at hin
      have HRa : Hid (∀ W, Calls Try.prog 14 #[.string T, .int .i64 0] W fun e w' => ∃ A c, e = .returned (.tuple #[.slice A (lnL s).length c, .int .i64 (at_ : Int), .bool true]) ∧ BrsAt w' w'.heap.size A (lnL s) ∧ Below W.heap.size W w') := Lib.hid (fun W => (HRt.out W).mono (fun e w' h => by
        rcases h with ⟨_, A, c, rfl, h1, h2⟩ | ⟨h, _⟩
        · refine ⟨A, c, ?_, h1, h2⟩
          rw [lnL_length, show ((0 : Nat) : Int) + 1 + 16 * (lnN s : Int) = (at_ : Int) from by omega]
        · rw [r] at h; cases h))
      have hex : T.extract at_ T.size = str (lnR s) := by rw [← hT, ← hat]; exact extract_drop_str _ _
      have hat2 : (at_ : Int) ≤ (T.size : Int) := by omega
      have hat3 : at_ ≤ T.size := by omega
      obtain ⟨Y, hY⟩ : ∃ Y, str (lnR s) = Y := ⟨_, rfl⟩
      obtain ⟨M, hM⟩ : ∃ M, lnL s = M := ⟨_, rfl⟩
      rw [hY] at HTa hex
      rw [hM] at HTa HRa
      have hMl : M.length ≤ 255 := by rw [← hM, lnL_length]; have := lnN_lt s; omega
      clear HTk HRt hin hat hY hM hT hsz
      clear h
      generalize l.length = n at *
      go_enter Try.func3, Try.ntmps3
      go_wp2_with (first
        | (go_at_call 10; (with_reducible refine (HPu.out).mono ?_); rintro e w1 ⟨rfl, hb⟩; have HB1 := Lib.hid (hb); clear hb)
        | (go_at_call 11; (with_reducible refine (HOk.out _ HB1.out).mono ?_); rintro e w2 ⟨rfl, hb⟩; have HB2 := Lib.hid (below_next HB1.out hb); clear hb)
        | (go_at_call 12; (with_reducible refine (HRp.out _ HB2.out).mono ?_); rintro e w3 ⟨rfl, hb⟩; have HB3 := Lib.hid (below_next HB2.out hb); clear hb)
        | (go_at_call 13; (with_reducible refine (HTa.out _).mono ?_); rintro e w4 ⟨A4, c4, rfl, ha, hb⟩; have HB4 := Lib.hid (below_next HB3.out hb); have HA4 := Lib.hid ha; clear ha; clear hb)
        | (go_at_call 14; (with_reducible refine (HRa.out _).mono ?_); rintro e w5 ⟨A5, c5, rfl, ha, hb⟩; have HB5 := Lib.hid (below_next HB4.out hb); have HA5 := Lib.hid ha; have HA4b := Lib.hid (HA4.out.next hb); clear ha; clear hb)
        | (go_at_call 15; (with_reducible refine (eqself17 (DocEqualL_any (c1 := c4) (c2 := c5) HA4b.out HA5.out (by omega))).mono ?_); rintro e w6 ⟨rfl, hb⟩; have HB6 := Lib.hid (below_next HB5.out hb); clear hb)
        | (go_at_call 9; (with_reducible refine (awake17_any _).mono ?_); rintro e w9 ⟨rfl, hb⟩; have HB9 := Lib.hid (below_next HB6.out hb); clear hb))
      go_ret
      exact ⟨rfl, HB9.out⟩
    | false =>
      have HTa : Hid (∀ W, Calls Try.prog 13 #[.string T] W fun e w' => ∃ A c, e = .returned (.tuple #[.slice A 0 c, .string ⟨#[]⟩, .int .i64 3]) ∧ Below W.heap.size W w') := Lib.hid (fun W => (HTk.out W).mono (fun e w' h => by
        rcases h with ⟨h, _⟩ | ⟨_, h⟩
        · rw [r] at h; cases h
        · exact h))
      have HRa : Hid (∀ W, Calls Try.prog 14 #[.string T, .int .i64 0] W fun e w' => ∃ v i, e = .returned (.tuple #[v, .int .i64 i, .bool false]) ∧ Below W.heap.size W w') := Lib.hid (fun W => (HRt.out W).mono (fun e w' h => by
        rcases h with ⟨h, _⟩ | ⟨_, h⟩
        · rw [r] at h; cases h
        · exact h))
      clear HTk HRt hT hsz
      clear h
      generalize l.length = n at *
      go_enter Try.func3, Try.ntmps3
      go_wp2_with (first
        | (go_at_call 10; (with_reducible refine (HPu.out).mono ?_); rintro e w1 ⟨rfl, hb⟩; have HB1 := Lib.hid (hb); clear hb)
        | (go_at_call 11; (with_reducible refine (HOk.out _ HB1.out).mono ?_); rintro e w2 ⟨rfl, hb⟩; have HB2 := Lib.hid (below_next HB1.out hb); clear hb)
        | (go_at_call 12; (with_reducible refine (HRp.out _ HB2.out).mono ?_); rintro e w3 ⟨rfl, hb⟩; have HB3 := Lib.hid (below_next HB2.out hb); clear hb)
        | (go_at_call 13; (with_reducible refine (HTa.out _).mono ?_); rintro e w4 ⟨A4, c4, rfl, hb⟩; have HB4 := Lib.hid (below_next HB3.out hb); clear hb)
        | (go_at_call 14; (with_reducible refine (HRa.out _).mono ?_); rintro e w5 ⟨v5, i5, rfl, hb⟩; have HB5 := Lib.hid (below_next HB4.out hb); clear hb)
        | (go_at_call 9; (with_reducible refine (awake17_any _).mono ?_); rintro e w9 ⟨rfl, hb⟩; have HB9 := Lib.hid (below_next HB5.out hb); clear hb))
      go_ret
      exact ⟨rfl, HB9.out⟩
  | false =>
    rw [q] at HPu HOk
    rw [if_neg (by simp), if_neg (by simp), show str [] = ⟨#[]⟩ from rfl] at HPu
    cases r : lnOk s with
    | true =>
      have HTa : Hid (∀ W, Calls Try.prog 13 #[.string T] W fun e w' => ∃ A c, e = .returned (.tuple #[.slice A (lnL s).length c, .string (str (lnR s)), .int .i64 0]) ∧ BrsAt w' w'.heap.size A (lnL s) ∧ Below W.heap.size W w') := Lib.hid (fun W => (HTk.out W).mono (fun e w' h => by
        rcases h with ⟨_, h⟩ | ⟨h, _⟩
        · exact h
        · rw [r] at h; cases h))
      have hin := ln_size r
      obtain ⟨at_, hat⟩ : ∃ a, 1 + 16 * lnN s = a := ⟨_, rfl⟩
      rw [hat] at hin
      have HRa : Hid (∀ W, Calls Try.prog 14 #[.string T, .int .i64 0] W fun e w' => ∃ A c, e = .returned (.tuple #[.slice A (lnL s).length c, .int .i64 (at_ : Int), .bool true]) ∧ BrsAt w' w'.heap.size A (lnL s) ∧ Below W.heap.size W w') := Lib.hid (fun W => (HRt.out W).mono (fun e w' h => by
        rcases h with ⟨_, A, c, rfl, h1, h2⟩ | ⟨h, _⟩
        · refine ⟨A, c, ?_, h1, h2⟩
          rw [lnL_length, show ((0 : Nat) : Int) + 1 + 16 * (lnN s : Int) = (at_ : Int) from by omega]
        · rw [r] at h; cases h))
      have hex : T.extract at_ T.size = str (lnR s) := by rw [← hT, ← hat]; exact extract_drop_str _ _
      have hat2 : (at_ : Int) ≤ (T.size : Int) := by omega
      have hat3 : at_ ≤ T.size := by omega
      obtain ⟨Y, hY⟩ : ∃ Y, str (lnR s) = Y := ⟨_, rfl⟩
      obtain ⟨M, hM⟩ : ∃ M, lnL s = M := ⟨_, rfl⟩
      rw [hY] at HTa hex
      rw [hM] at HTa HRa
      have hMl : M.length ≤ 255 := by rw [← hM, lnL_length]; have := lnN_lt s; omega
      clear HTk HRt hin hat hY hM hT hsz
      clear h
      generalize l.length = n at *
      go_enter Try.func3, Try.ntmps3
      go_wp2_with (first
        | (go_at_call 10; (with_reducible refine (HPu.out).mono ?_); rintro e w1 ⟨rfl, hb⟩; have HB1 := Lib.hid (hb); clear hb)
        | (go_at_call 11; (with_reducible refine (HOk.out _ HB1.out).mono ?_); rintro e w2 ⟨rfl, hb⟩; have HB2 := Lib.hid (below_next HB1.out hb); clear hb)
        | (go_at_call 13; (with_reducible refine (HTa.out _).mono ?_); rintro e w4 ⟨A4, c4, rfl, ha, hb⟩; have HB4 := Lib.hid (below_next HB2.out hb); have HA4 := Lib.hid ha; clear ha; clear hb)
        | (go_at_call 14; (with_reducible refine (HRa.out _).mono ?_); rintro e w5 ⟨A5, c5, rfl, ha, hb⟩; have HB5 := Lib.hid (below_next HB4.out hb); have HA5 := Lib.hid ha; have HA4b := Lib.hid (HA4.out.next hb); clear ha; clear hb)
        | (go_at_call 15; (with_reducible refine (eqself17 (DocEqualL_any (c1 := c4) (c2 := c5) HA4b.out HA5.out (by omega))).mono ?_); rintro e w6 ⟨rfl, hb⟩; have HB6 := Lib.hid (below_next HB5.out hb); clear hb)
        | (go_at_call 9; (with_reducible refine (awake17_any _).mono ?_); rintro e w9 ⟨rfl, hb⟩; have HB9 := Lib.hid (below_next HB6.out hb); clear hb))
      go_ret
      exact ⟨rfl, HB9.out⟩
    | false =>
      have HTa : Hid (∀ W, Calls Try.prog 13 #[.string T] W fun e w' => ∃ A c, e = .returned (.tuple #[.slice A 0 c, .string ⟨#[]⟩, .int .i64 3]) ∧ Below W.heap.size W w') := Lib.hid (fun W => (HTk.out W).mono (fun e w' h => by
        rcases h with ⟨h, _⟩ | ⟨_, h⟩
        · rw [r] at h; cases h
        · exact h))
      have HRa : Hid (∀ W, Calls Try.prog 14 #[.string T, .int .i64 0] W fun e w' => ∃ v i, e = .returned (.tuple #[v, .int .i64 i, .bool false]) ∧ Below W.heap.size W w') := Lib.hid (fun W => (HRt.out W).mono (fun e w' h => by
        rcases h with ⟨h, _⟩ | ⟨_, h⟩
        · rw [r] at h; cases h
        · exact h))
      clear HTk HRt hT hsz
      clear h
      generalize l.length = n at *
      go_enter Try.func3, Try.ntmps3
      go_wp2_with (first
        | (go_at_call 10; (with_reducible refine (HPu.out).mono ?_); rintro e w1 ⟨rfl, hb⟩; have HB1 := Lib.hid (hb); clear hb)
        | (go_at_call 11; (with_reducible refine (HOk.out _ HB1.out).mono ?_); rintro e w2 ⟨rfl, hb⟩; have HB2 := Lib.hid (below_next HB1.out hb); clear hb)
        | (go_at_call 13; (with_reducible refine (HTa.out _).mono ?_); rintro e w4 ⟨A4, c4, rfl, hb⟩; have HB4 := Lib.hid (below_next HB2.out hb); clear hb)
        | (go_at_call 14; (with_reducible refine (HRa.out _).mono ?_); rintro e w5 ⟨v5, i5, rfl, hb⟩; have HB5 := Lib.hid (below_next HB4.out hb); clear hb)
        | (go_at_call 9; (with_reducible refine (awake17_any _).mono ?_); rintro e w9 ⟨rfl, hb⟩; have HB9 := Lib.hid (below_next HB5.out hb); clear hb))
      go_ret
      exact ⟨rfl, HB9.out⟩
end Go.Proofs.Ytkpoeigoocbgeaa
