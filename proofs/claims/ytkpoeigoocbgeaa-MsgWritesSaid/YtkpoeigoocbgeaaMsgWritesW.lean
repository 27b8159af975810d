/- The walk of MsgWrites. -/
import Derived.Test.YtkpoeigoocbgeaaMsgK
import Derived.Test.YtkpoeigoocbgeaaMsgO
namespace Go.Proofs.Ytkpoeigoocbgeaa
open Go.RowKit

set_option maxHeartbeats 4000000 in
set_option maxRecDepth 100000 in
theorem MsgWrites_walk {w : World} {A : Option Addr} {c : Nat} (l : List Wr) (s : List UInt8) (h : WrsAt w w.heap.size A l) (hx : l.length ≤ 9223372036854775807) (hs : s.length ≤ 140737488351232) :
    Calls Try.prog 4 #[.slice A l.length c, .string (str s)] w fun e w' => e = .returned (.bool true) ∧ Below w.heap.size w w' := by
  obtain ⟨T, hT⟩ : ∃ T, str s = T := ⟨_, rfl⟩
  have hsz : T.size = s.length := by rw [← hT, str_size]
  rw [hT]
  by_cases hbig : 16384 < s.length
  · have hbig2 : (16384 : Int) < (T.size : Int) := by omega
    by_cases hlen : 200 < l.length
    · have hlen2 : (200 : Int) < (l.length : Int) := by omega
      generalize l.length = n at *
      clear h
      go_enter Try.func4, Try.ntmps4
      go_wp2_with (go_at_call 9; (with_reducible refine (awake17_any _).mono ?_); rintro e w9 ⟨rfl, hb⟩; have HB9 := Lib.hid (hb); clear hb)
      go_ret
      exact ⟨rfl, HB9.out⟩
    · have hlen2 : ¬ (200 : Int) < (l.length : Int) := by omega
      generalize l.length = n at *
      clear h
      go_enter Try.func4, Try.ntmps4
      go_wp2_with (go_at_call 9; (with_reducible refine (awake17_any _).mono ?_); rintro e w9 ⟨rfl, hb⟩; have HB9 := Lib.hid (hb); clear hb)
      go_ret
      exact ⟨rfl, HB9.out⟩
  have hbig2 : ¬ (16384 : Int) < (T.size : Int) := by omega
  by_cases hlen : 200 < l.length
  · have hlen2 : (200 : Int) < (l.length : Int) := by omega
    generalize l.length = n at *
    clear h
    go_enter Try.func4, Try.ntmps4
    go_wp2_with (go_at_call 9; (with_reducible refine (awake17_any _).mono ?_); rintro e w9 ⟨rfl, hb⟩; have HB9 := Lib.hid (hb); clear hb)
    go_ret
    exact ⟨rfl, HB9.out⟩
  have hlen2 : ¬ (200 : Int) < (l.length : Int) := by omega
  have HPu := Lib.hid (PPutWrites_any (c := c) h (by omega))
  have HOk := Lib.hid (fun W (hb : Below w.heap.size w W) => writable17_any (c := c) (h.next hb) (by omega))
  have HTk := Lib.hid (fun W => PTakeWrites_any s W (by omega))
  have HRt := Lib.hid (fun W => takeWrites17_any s 0 W (by omega) (by omega))
  rw [List.drop_zero, show ((0 : Nat) : Int) = 0 from rfl] at HRt
  rw [hT] at HTk HRt
  unfold TWs at HTk
  unfold WsEnd17 at HRt
  unfold putWsE putWsS at HPu
  cases q : writable l with
  | true =>
    rw [q] at HPu HOk
    have hq := (writable_iff _).1 q
    have HRp := Lib.hid (fun W (hb : Below w.heap.size w W) => putWrites17_any (c := c) (h.next hb) hq.1 hq.2.2)
    clear hq
    rw [if_pos rfl, if_pos rfl] at HPu
    obtain ⟨X, hX⟩ : ∃ X, str (writesB l) = X := ⟨_, rfl⟩
    rw [hX] at HPu HRp
    clear hX
    by_cases r : ∃ ws rest, wsAt s = some (ws, rest) ∧ writable ws = true
    case pos =>
      obtain ⟨M, rest, r1, r2⟩ := r
      have HTa : Hid (∀ W, Calls Try.prog 19 #[.string T] W fun e w' => ∃ A c, e = .returned (.tuple #[.slice A M.length c, .string (str rest), .int .i64 0]) ∧ WrsAt w' w'.heap.size A M ∧ Below W.heap.size W w') := Lib.hid (fun W => (HTk.out W).mono (fun e w' h => by
        rcases h with ⟨ws, rst, A, c, h1, _, h3, h4, h5⟩ | ⟨h, _⟩
        · rw [r1] at h1
          simp only [Option.some.injEq, Prod.mk.injEq] at h1
          obtain ⟨rfl, rfl⟩ := h1
          exact ⟨A, c, h3, h4, h5⟩
        · have := h _ _ r1; rw [r2] at this; cases this))
      have hby := ws_bytes r1
      obtain ⟨at_, hat⟩ : ∃ a, s.length - rest.length = a := ⟨_, rfl⟩
      have hle : rest.length ≤ s.length := by have := congrArg List.length hby; rw [List.length_append] at this; omega
      have HRa : Hid (∀ W, Calls Try.prog 20 #[.string T, .int .i64 0] W fun e w' => ∃ A c, e = .returned (.tuple #[.slice A M.length c, .int .i64 (at_ : Int), .bool true]) ∧ WrsAt w' w'.heap.size A M ∧ Below W.heap.size W w') := Lib.hid (fun W => (HRt.out W).mono (fun e w' h => by
        rcases h with ⟨ws, rst, A, c, h1, _, rfl, h4, h5⟩ | ⟨h, _⟩
        · rw [r1] at h1
          simp only [Option.some.injEq, Prod.mk.injEq] at h1
          obtain ⟨rfl, rfl⟩ := h1
          refine ⟨A, c, ?_, h4, h5⟩
          rw [Nat.zero_add, hat]
        · have := h _ _ r1; rw [r2] at this; cases this))
      have hdr : s.drop at_ = rest := by
        have hl := congrArg List.length hby
        rw [List.length_append] at hl
        rw [hby, List.drop_append_of_le_length (by omega), List.drop_of_length_le (by omega)]; rfl
      have hex : T.extract at_ T.size = str rest := by rw [← hT, ← hdr]; exact extract_drop_str _ _
      have hat2 : (at_ : Int) ≤ (T.size : Int) := by omega
      have hat3 : at_ ≤ T.size := by omega
      obtain ⟨Y, hY⟩ : ∃ Y, str rest = Y := ⟨_, rfl⟩
      rw [hY] at HTa hex
      have hMl : M.length ≤ 128 := ((writable_iff _).1 r2).1
      clear HTk HRt hby hat hle hdr hY hT hsz r1 r2
      clear h
      generalize l.length = n at *
      go_enter Try.func4, Try.ntmps4
      go_wp2_with (first
        | (go_at_call 16; (with_reducible refine (HPu.out).mono ?_); rintro e w1 ⟨rfl, hb⟩; have HB1 := Lib.hid (hb); clear hb)
        | (go_at_call 17; (with_reducible refine (HOk.out _ HB1.out).mono ?_); rintro e w2 ⟨rfl, hb⟩; have HB2 := Lib.hid (below_next HB1.out hb); clear hb)
        | (go_at_call 18; (with_reducible refine (HRp.out _ HB2.out).mono ?_); rintro e w3 ⟨rfl, hb⟩; have HB3 := Lib.hid (below_next HB2.out hb); clear hb)
        | (go_at_call 19; (with_reducible refine (HTa.out _).mono ?_); rintro e w4 ⟨A4, c4, rfl, ha, hb⟩; have HB4 := Lib.hid (below_next HB3.out hb); have HA4 := Lib.hid ha; clear ha; clear hb)
        | (go_at_call 20; (with_reducible refine (HRa.out _).mono ?_); rintro e w5 ⟨A5, c5, rfl, ha, hb⟩; have HB5 := Lib.hid (below_next HB4.out hb); have HA5 := Lib.hid ha; have HA4b := Lib.hid (HA4.out.next hb); clear ha; clear hb)
        | (go_at_call 21; (with_reducible refine (eqselfW17 (RefEqW_any (c1 := c4) (c2 := c5) HA4b.out HA5.out (by omega))).mono ?_); rintro e w6 ⟨rfl, hb⟩; have HB6 := Lib.hid (below_next HB5.out hb); clear hb)
        | (go_at_call 9; (with_reducible refine (awake17_any _).mono ?_); rintro e w9 ⟨rfl, hb⟩; have HB9 := Lib.hid (below_next HB6.out hb); clear hb))
      go_ret
      exact ⟨rfl, HB9.out⟩
    case neg =>
      have hno : ∀ ws rest, wsAt s = some (ws, rest) → writable ws = false := fun ws rest h => by
        cases e : writable ws with
        | false => rfl
        | true => exact absurd ⟨ws, rest, h, e⟩ r
      have HTa : Hid (∀ W, Calls Try.prog 19 #[.string T] W fun e w' => ∃ A c, e = .returned (.tuple #[.slice A 0 c, .string ⟨#[]⟩, .int .i64 3]) ∧ Below W.heap.size W w') := Lib.hid (fun W => (HTk.out W).mono (fun e w' h => by
        rcases h with ⟨ws, rst, A, c, h1, h2, _⟩ | ⟨_, h⟩
        · rw [hno _ _ h1] at h2; cases h2
        · exact h))
      have HRa : Hid (∀ W, Calls Try.prog 20 #[.string T, .int .i64 0] W fun e w' => ∃ v i, e = .returned (.tuple #[v, .int .i64 i, .bool false]) ∧ Below W.heap.size W w') := Lib.hid (fun W => (HRt.out W).mono (fun e w' h => by
        rcases h with ⟨ws, rst, A, c, h1, h2, _⟩ | ⟨_, h⟩
        · rw [hno _ _ h1] at h2; cases h2
        · exact h))
      clear HTk HRt hT hsz hno r
      clear h
      generalize l.length = n at *
      go_enter Try.func4, Try.ntmps4
      go_wp2_with (first
        | (go_at_call 16; (with_reducible refine (HPu.out).mono ?_); rintro e w1 ⟨rfl, hb⟩; have HB1 := Lib.hid (hb); clear hb)
        | (go_at_call 17; (with_reducible refine (HOk.out _ HB1.out).mono ?_); rintro e w2 ⟨rfl, hb⟩; have HB2 := Lib.hid (below_next HB1.out hb); clear hb)
        | (go_at_call 18; (with_reducible refine (HRp.out _ HB2.out).mono ?_); rintro e w3 ⟨rfl, hb⟩; have HB3 := Lib.hid (below_next HB2.out hb); clear hb)
        | (go_at_call 19; (with_reducible refine (HTa.out _).mono ?_); rintro e w4 ⟨A4, c4, rfl, hb⟩; have HB4 := Lib.hid (below_next HB3.out hb); clear hb)
        | (go_at_call 20; (with_reducible refine (HRa.out _).mono ?_); rintro e w5 ⟨v5, i5, rfl, hb⟩; have HB5 := Lib.hid (below_next HB4.out hb); clear hb)
        | (go_at_call 9; (with_reducible refine (awake17_any _).mono ?_); rintro e w9 ⟨rfl, hb⟩; have HB9 := Lib.hid (below_next HB5.out hb); clear hb))
      go_ret
      exact ⟨rfl, HB9.out⟩
  | false =>
    rw [q] at HPu HOk
    rw [if_neg (by simp), if_neg (by simp), show str [] = ⟨#[]⟩ from rfl] at HPu
    by_cases r : ∃ ws rest, wsAt s = some (ws, rest) ∧ writable ws = true
    case pos =>
      obtain ⟨M, rest, r1, r2⟩ := r
      have HTa : Hid (∀ W, Calls Try.prog 19 #[.string T] W fun e w' => ∃ A c, e = .returned (.tuple #[.slice A M.length c, .string (str rest), .int .i64 0]) ∧ WrsAt w' w'.heap.size A M ∧ Below W.heap.size W w') := Lib.hid (fun W => (HTk.out W).mono (fun e w' h => by
        rcases h with ⟨ws, rst, A, c, h1, _, h3, h4, h5⟩ | ⟨h, _⟩
        · rw [r1] at h1
          simp only [Option.some.injEq, Prod.mk.injEq] at h1
          obtain ⟨rfl, rfl⟩ := h1
          exact ⟨A, c, h3, h4, h5⟩
        · have := h _ _ r1; rw [r2] at this; cases this))
      have hby := ws_bytes r1
      obtain ⟨at_, hat⟩ : ∃ a, s.length - rest.length = a := ⟨_, rfl⟩
      have hle : rest.length ≤ s.length := by have := congrArg List.length hby; rw [List.length_append] at this; omega
      have HRa : Hid (∀ W, Calls Try.prog 20 #[.string T, .int .i64 0] W fun e w' => ∃ A c, e = .returned (.tuple #[.slice A M.length c, .int .i64 (at_ : Int), .bool true]) ∧ WrsAt w' w'.heap.size A M ∧ Below W.heap.size W w') := Lib.hid (fun W => (HRt.out W).mono (fun e w' h => by
        rcases h with ⟨ws, rst, A, c, h1, _, rfl, h4, h5⟩ | ⟨h, _⟩
        · rw [r1] at h1
          simp only [Option.some.injEq, Prod.mk.injEq] at h1
          obtain ⟨rfl, rfl⟩ := h1
          refine ⟨A, c, ?_, h4, h5⟩
          rw [Nat.zero_add, hat]
        · have := h _ _ r1; rw [r2] at this; cases this))
      have hdr : s.drop at_ = rest := by
        have hl := congrArg List.length hby
        rw [List.length_append] at hl
        rw [hby, List.drop_append_of_le_length (by omega), List.drop_of_length_le (by omega)]; rfl
      have hex : T.extract at_ T.size = str rest := by rw [← hT, ← hdr]; exact extract_drop_str _ _
      have hat2 : (at_ : Int) ≤ (T.size : Int) := by omega
      have hat3 : at_ ≤ T.size := by omega
      obtain ⟨Y, hY⟩ : ∃ Y, str rest = Y := ⟨_, rfl⟩
      rw [hY] at HTa hex
      have hMl : M.length ≤ 128 := ((writable_iff _).1 r2).1
      clear HTk HRt hby hat hle hdr hY hT hsz r1 r2
      clear h
      generalize l.length = n at *
      go_enter Try.func4, Try.ntmps4
      go_wp2_with (first
        | (go_at_call 16; (with_reducible refine (HPu.out).mono ?_); rintro e w1 ⟨rfl, hb⟩; have HB1 := Lib.hid (hb); clear hb)
        | (go_at_call 17; (with_reducible refine (HOk.out _ HB1.out).mono ?_); rintro e w2 ⟨rfl, hb⟩; have HB2 := Lib.hid (below_next HB1.out hb); clear hb)
        | (go_at_call 19; (with_reducible refine (HTa.out _).mono ?_); rintro e w4 ⟨A4, c4, rfl, ha, hb⟩; have HB4 := Lib.hid (below_next HB2.out hb); have HA4 := Lib.hid ha; clear ha; clear hb)
        | (go_at_call 20; (with_reducible refine (HRa.out _).mono ?_); rintro e w5 ⟨A5, c5, rfl, ha, hb⟩; have HB5 := Lib.hid (below_next HB4.out hb); have HA5 := Lib.hid ha; have HA4b := Lib.hid (HA4.out.next hb); clear ha; clear hb)
        | (go_at_call 21; (with_reducible refine (eqselfW17 (RefEqW_any (c1 := c4) (c2 := c5) HA4b.out HA5.out (by omega))).mono ?_); rintro e w6 ⟨rfl, hb⟩; have HB6 := Lib.hid (below_next HB5.out hb); clear hb)
        | (go_at_call 9; (with_reducible refine (awake17_any _).mono ?_); rintro e w9 ⟨rfl, hb⟩; have HB9 := Lib.hid (below_next HB6.out hb); clear hb))
      go_ret
      exact ⟨rfl, HB9.out⟩
    case neg =>
      have hno : ∀ ws rest, wsAt s = some (ws, rest) → writable ws = false := fun ws rest h => by
        cases e : writable ws with
        | false => rfl
        | true => exact absurd ⟨ws, rest, h, e⟩ r
      have HTa : Hid (∀ W, Calls Try.prog 19 #[.string T] W fun e w' => ∃ A c, e = .returned (.tuple #[.slice A 0 c, .string ⟨#[]⟩, .int .i64 3]) ∧ Below W.heap.size W w') := Lib.hid (fun W => (HTk.out W).mono (fun e w' h => by
        rcases h with ⟨ws, rst, A, c, h1, h2, _⟩ | ⟨_, h⟩
        · rw [hno _ _ h1] at h2; cases h2
        · exact h))
      have HRa : Hid (∀ W, Calls Try.prog 20 #[.string T, .int .i64 0] W fun e w' => ∃ v i, e = .returned (.tuple #[v, .int .i64 i, .bool false]) ∧ Below W.heap.size W w') := Lib.hid (fun W => (HRt.out W).mono (fun e w' h => by
        rcases h with ⟨ws, rst, A, c, h1, h2, _⟩ | ⟨_, h⟩
        · rw [hno _ _ h1] at h2; cases h2
        · exact h))
      clear HTk HRt hT hsz hno r
      clear h
      generalize l.length = n at *
      go_enter Try.func4, Try.ntmps4
      go_wp2_with (first
        | (go_at_call 16; (with_reducible refine (HPu.out).mono ?_); rintro e w1 ⟨rfl, hb⟩; have HB1 := Lib.hid (hb); clear hb)
        | (go_at_call 17; (with_reducible refine (HOk.out _ HB1.out).mono ?_); rintro e w2 ⟨rfl, hb⟩; have HB2 := Lib.hid (below_next HB1.out hb); clear hb)
        | (go_at_call 19; (with_reducible refine (HTa.out _).mono ?_); rintro e w4 ⟨A4, c4, rfl, hb⟩; have HB4 := Lib.hid (below_next HB2.out hb); clear hb)
        | (go_at_call 20; (with_reducible refine (HRa.out _).mono ?_); rintro e w5 ⟨v5, i5, rfl, hb⟩; have HB5 := Lib.hid (below_next HB4.out hb); clear hb)
        | (go_at_call 9; (with_reducible refine (awake17_any _).mono ?_); rintro e w9 ⟨rfl, hb⟩; have HB9 := Lib.hid (below_next HB5.out hb); clear hb))
      go_ret
      exact ⟨rfl, HB9.out⟩
end Go.Proofs.Ytkpoeigoocbgeaa
