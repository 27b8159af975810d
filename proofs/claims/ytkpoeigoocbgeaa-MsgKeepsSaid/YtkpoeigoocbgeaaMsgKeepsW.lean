/- The walk of MsgKeeps. -/
import Derived.Test.YtkpoeigoocbgeaaMsgK
import Derived.Test.YtkpoeigoocbgeaaMsgO
namespace Go.Proofs.Ytkpoeigoocbgeaa
open Go.RowKit

set_option maxHeartbeats 4000000 in
set_option maxRecDepth 100000 in
theorem MsgKeeps_walk {w : World} {A A2 : Option Addr} {c c2 : Nat} (l : List Br) (ws : List Wr) (more : List UInt8) (h : BrsAt w w.heap.size A l) (hx : l.length ≤ 9223372036854775807) (h2 : WrsAt w w.heap.size A2 ws) (hx2 : ws.length ≤ 9223372036854775807) (hs : more.length ≤ 140737488351232) :
    Calls Try.prog 8 #[.slice A l.length c, .slice A2 ws.length c2, .string (str more)] w fun e w' => e = .returned (.bool true) ∧ Below w.heap.size w w' := by
  obtain ⟨M, hM⟩ : ∃ M, str more = M := ⟨_, rfl⟩
  have hMs : M.size = more.length := by rw [← hM, str_size]
  rw [hM]
  by_cases b1 : 100 < l.length
  · have b1' : (100 : Int) < (l.length : Int) := by omega
    generalize l.length = n1 at *
    generalize ws.length = n2 at *
    clear h h2
    go_enter Try.func8, Try.ntmps8
    go_wp2_with (go_at_call 9; (with_reducible refine (awake17_any _).mono ?_); rintro e w9 ⟨rfl, hb⟩; have HB9 := Lib.hid (hb); clear hb)
    go_ret
    exact ⟨rfl, HB9.out⟩
  have b1' : ¬ (100 : Int) < (l.length : Int) := by omega
  by_cases b2 : 200 < ws.length
  · have b2' : (200 : Int) < (ws.length : Int) := by omega
    generalize l.length = n1 at *
    generalize ws.length = n2 at *
    clear h h2
    go_enter Try.func8, Try.ntmps8
    go_wp2_with (go_at_call 9; (with_reducible refine (awake17_any _).mono ?_); rintro e w9 ⟨rfl, hb⟩; have HB9 := Lib.hid (hb); clear hb)
    go_ret
    exact ⟨rfl, HB9.out⟩
  have b2' : ¬ (200 : Int) < (ws.length : Int) := by omega
  by_cases b3 : 4096 < more.length
  · have b3' : (4096 : Int) < (M.size : Int) := by omega
    generalize l.length = n1 at *
    generalize ws.length = n2 at *
    clear h h2
    go_enter Try.func8, Try.ntmps8
    go_wp2_with (go_at_call 9; (with_reducible refine (awake17_any _).mono ?_); rintro e w9 ⟨rfl, hb⟩; have HB9 := Lib.hid (hb); clear hb)
    go_ret
    exact ⟨rfl, HB9.out⟩
  have b3' : ¬ (4096 : Int) < (M.size : Int) := by omega
  have HP1 := Lib.hid (PPutLine_any (c := c) h (by omega))
  have HP2 := Lib.hid (fun W (hb : Below w.heap.size w W) => PPutWrites_any (c := c2) (h2.next hb) (by omega))
  have HL := Lib.hid h
  have HW := Lib.hid h2
  unfold putLnE putLnS at HP1
  unfold putWsE putWsS at HP2
  cases q : lined l with
  | false =>
    rw [q, if_neg (by simp), if_neg (by simp), show str [] = ⟨#[]⟩ from rfl] at HP1
    cases q2 : writable ws with
    | false =>
      rw [q2, if_neg (by simp), if_neg (by simp), show str [] = ⟨#[]⟩ from rfl] at HP2
      clear h h2 hM q q2
      go_enter Try.func8, Try.ntmps8
      go_wp2_with (first
        | (go_at_call 10; (with_reducible refine (HP1.out).mono ?_); rintro e w1 ⟨rfl, hb⟩; have HB1 := Lib.hid (hb); clear hb)
        | (go_at_call 16; (with_reducible refine (HP2.out _ HB1.out).mono ?_); rintro e w4 ⟨rfl, hb⟩; have HB4 := Lib.hid (below_next HB1.out hb); clear hb)
        | (go_at_call 9; (with_reducible refine (awake17_any _).mono ?_); rintro e w9 ⟨rfl, hb⟩; have HB9 := Lib.hid (below_next HB4.out hb); clear hb))
      go_ret
      exact ⟨rfl, HB9.out⟩
    | true =>
      rw [q2, if_pos rfl, if_pos rfl] at HP2
      have hw := (writable_iff _).1 q2
      have hb := ws_back hw more
      have hwl := wrsB_len17 hw.2.2
      have hw128 := hw.1
      have hwz : (writesB ws).length = 2 + (wrsB ws).length := by unfold writesB; rw [List.length_append, enc_length]
      have HT2 := Lib.hid (fun W => PTakeWrites_any (writesB ws ++ more) W (by rw [List.length_append]; omega))
      unfold TWs at HT2
      rw [← str_cat, hM] at HT2
      obtain ⟨Y, hY⟩ : ∃ X, str (writesB ws) = X := ⟨_, rfl⟩
      have hYs : Y.size ≤ 4000 := by rw [← hY, str_size]; omega
      have hc2 : ¬ 9223372036854775807 < Y.size + M.size := by omega
      rw [hY] at HT2 HP2
      have HTb : Hid (∀ W, Calls Try.prog 19 #[.string (Y ++ M)] W fun e w' => ∃ A c, e = .returned (.tuple #[.slice A ws.length c, .string M, .int .i64 0]) ∧ WrsAt w' w'.heap.size A ws ∧ Below W.heap.size W w') := Lib.hid (fun W => (HT2.out W).mono (fun e w' h => by
        rcases h with ⟨ws', rest, A, c, h1, _, rfl, h4, h5⟩ | ⟨h, _⟩
        · rw [hb] at h1
          simp only [Option.some.injEq, Prod.mk.injEq] at h1
          obtain ⟨rfl, rfl⟩ := h1
          exact ⟨A, c, by rw [hM], h4, h5⟩
        · have := h _ _ hb; rw [q2] at this; cases this))
      clear HT2 hw hb hwl hwz hY
      clear h h2 hM q q2
      go_enter Try.func8, Try.ntmps8
      go_wp2_with (first
        | (go_at_call 10; (with_reducible refine (HP1.out).mono ?_); rintro e w1 ⟨rfl, hb⟩; have HB1 := Lib.hid (hb); clear hb)
        | (go_at_call 16; (with_reducible refine (HP2.out _ HB1.out).mono ?_); rintro e w4 ⟨rfl, hb⟩; have HB4 := Lib.hid (below_next HB1.out hb); clear hb)
        | (go_at_call 19; (with_reducible refine (HTb.out _).mono ?_); rintro e w5 ⟨A5, c5, rfl, ha, hb⟩; have HB5 := Lib.hid (below_next HB4.out hb); have HA5 := Lib.hid ha; clear ha; clear hb)
        | (go_at_call 21; (with_reducible refine (eqselfW17 (RefEqW_any (c1 := c5) (c2 := c2) HA5.out (HW.out.next HB5.out) (by omega))).mono ?_); rintro e w6 ⟨rfl, hb⟩; have HB6 := Lib.hid (below_next HB5.out hb); clear hb)
        | (go_at_call 9; (with_reducible refine (awake17_any _).mono ?_); rintro e w9 ⟨rfl, hb⟩; have HB9 := Lib.hid (below_next HB6.out hb); clear hb))
      go_ret
      exact ⟨rfl, HB9.out⟩
  | true =>
    rw [q, if_pos rfl, if_pos rfl] at HP1
    have hq64 := (lined_fit q).2
    obtain ⟨e1, e2, e3, e4⟩ := ln_back q more
    have HT1 := Lib.hid (fun W => PTakeLine_any (lineB l ++ more) W (by rw [List.length_append, lineB_length]; omega))
    unfold TLn at HT1
    rw [← str_cat, hM] at HT1
    obtain ⟨X, hX⟩ : ∃ X, str (lineB l) = X := ⟨_, rfl⟩
    have hXs : X.size ≤ 2000 := by rw [← hX, str_size, lineB_length]; omega
    have hc1 : ¬ 9223372036854775807 < X.size + M.size := by omega
    rw [hX] at HT1 HP1
    have HTa : Hid (∀ W, Calls Try.prog 13 #[.string (X ++ M)] W fun e w' => ∃ A c, e = .returned (.tuple #[.slice A l.length c, .string M, .int .i64 0]) ∧ BrsAt w' w'.heap.size A l ∧ Below W.heap.size W w') := Lib.hid (fun W => (HT1.out W).mono (fun e w' h => by
      rcases h with ⟨_, A, c, rfl, h1, h2⟩ | ⟨h, _⟩
      · rw [e3] at h1
        refine ⟨A, c, ?_, h1, h2⟩
        rw [e3, e4, hM]
      · rw [e1] at h; cases h))
    clear HT1 e1 e2 e3 e4 hX
    cases q2 : writable ws with
    | false =>
      rw [q2, if_neg (by simp), if_neg (by simp), show str [] = ⟨#[]⟩ from rfl] at HP2
      clear h h2 hM q q2
      go_enter Try.func8, Try.ntmps8
      go_wp2_with (first
        | (go_at_call 10; (with_reducible refine (HP1.out).mono ?_); rintro e w1 ⟨rfl, hb⟩; have HB1 := Lib.hid (hb); clear hb)
        | (go_at_call 13; (with_reducible refine (HTa.out _).mono ?_); rintro e w2 ⟨A3, c3, rfl, ha, hb⟩; have HB2 := Lib.hid (below_next HB1.out hb); have HA2 := Lib.hid ha; clear ha; clear hb)
        | (go_at_call 15; (with_reducible refine (eqself17 (DocEqualL_any (c1 := c3) (c2 := c) HA2.out (HL.out.next HB2.out) (by omega))).mono ?_); rintro e w3 ⟨rfl, hb⟩; have HB3 := Lib.hid (below_next HB2.out hb); clear hb)
        | (go_at_call 16; (with_reducible refine (HP2.out _ HB3.out).mono ?_); rintro e w4 ⟨rfl, hb⟩; have HB4 := Lib.hid (below_next HB3.out hb); clear hb)
        | (go_at_call 9; (with_reducible refine (awake17_any _).mono ?_); rintro e w9 ⟨rfl, hb⟩; have HB9 := Lib.hid (below_next HB4.out hb); clear hb))
      go_ret
      exact ⟨rfl, HB9.out⟩
    | true =>
      rw [q2, if_pos rfl, if_pos rfl] at HP2
      have hw := (writable_iff _).1 q2
      have hb := ws_back hw more
      have hwl := wrsB_len17 hw.2.2
      have hw128 := hw.1
      have hwz : (writesB ws).length = 2 + (wrsB ws).length := by unfold writesB; rw [List.length_append, enc_length]
      have HT2 := Lib.hid (fun W => PTakeWrites_any (writesB ws ++ more) W (by rw [List.length_append]; omega))
      unfold TWs at HT2
      rw [← str_cat, hM] at HT2
      obtain ⟨Y, hY⟩ : ∃ X, str (writesB ws) = X := ⟨_, rfl⟩
      have hYs : Y.size ≤ 4000 := by rw [← hY, str_size]; omega
      have hc2 : ¬ 9223372036854775807 < Y.size + M.size := by omega
      rw [hY] at HT2 HP2
      have HTb : Hid (∀ W, Calls Try.prog 19 #[.string (Y ++ M)] W fun e w' => ∃ A c, e = .returned (.tuple #[.slice A ws.length c, .string M, .int .i64 0]) ∧ WrsAt w' w'.heap.size A ws ∧ Below W.heap.size W w') := Lib.hid (fun W => (HT2.out W).mono (fun e w' h => by
        rcases h with ⟨ws', rest, A, c, h1, _, rfl, h4, h5⟩ | ⟨h, _⟩
        · rw [hb] at h1
          simp only [Option.some.injEq, Prod.mk.injEq] at h1
          obtain ⟨rfl, rfl⟩ := h1
          exact ⟨A, c, by rw [hM], h4, h5⟩
        · have := h _ _ hb; rw [q2] at this; cases this))
      clear HT2 hw hb hwl hwz hY
      clear h h2 hM q q2
      go_enter Try.func8, Try.ntmps8
      go_wp2_with (first
        | (go_at_call 10; (with_reducible refine (HP1.out).mono ?_); rintro e w1 ⟨rfl, hb⟩; have HB1 := Lib.hid (hb); clear hb)
        | (go_at_call 13; (with_reducible refine (HTa.out _).mono ?_); rintro e w2 ⟨A3, c3, rfl, ha, hb⟩; have HB2 := Lib.hid (below_next HB1.out hb); have HA2 := Lib.hid ha; clear ha; clear hb)
        | (go_at_call 15; (with_reducible refine (eqself17 (DocEqualL_any (c1 := c3) (c2 := c) HA2.out (HL.out.next HB2.out) (by omega))).mono ?_); rintro e w3 ⟨rfl, hb⟩; have HB3 := Lib.hid (below_next HB2.out hb); clear hb)
        | (go_at_call 16; (with_reducible refine (HP2.out _ HB3.out).mono ?_); rintro e w4 ⟨rfl, hb⟩; have HB4 := Lib.hid (below_next HB3.out hb); clear hb)
        | (go_at_call 19; (with_reducible refine (HTb.out _).mono ?_); rintro e w5 ⟨A5, c5, rfl, ha, hb⟩; have HB5 := Lib.hid (below_next HB4.out hb); have HA5 := Lib.hid ha; clear ha; clear hb)
        | (go_at_call 21; (with_reducible refine (eqselfW17 (RefEqW_any (c1 := c5) (c2 := c2) HA5.out (HW.out.next HB5.out) (by omega))).mono ?_); rintro e w6 ⟨rfl, hb⟩; have HB6 := Lib.hid (below_next HB5.out hb); clear hb)
        | (go_at_call 9; (with_reducible refine (awake17_any _).mono ?_); rintro e w9 ⟨rfl, hb⟩; have HB9 := Lib.hid (below_next HB6.out hb); clear hb))
      go_ret
      exact ⟨rfl, HB9.out⟩
end Go.Proofs.Ytkpoeigoocbgeaa
