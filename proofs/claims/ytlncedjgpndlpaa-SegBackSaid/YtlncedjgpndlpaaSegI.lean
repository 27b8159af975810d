/- The walks of the laws of stage 14 without the document's answer: SegSizes, SegLacks, SegBack. -/
import Derived.Test.YtlncedjgpndlpaaSegH
namespace Go.Proofs.Ytlncedjgpndlpaa
open Go.RowKit

/-- No row of texts lies in a box of a number and a slice. -/
theorem Strs.far {w : World} {B : Nat} {A : Option Addr} {xs : List (List UInt8)} (h : Strs w B A xs) {H : Nat} {o : Int} {a : Option Addr} {n c : Nat} {t : TypeId} (hT : Two w H (.int .i64 o) (.slice a n c) t) (j : Nat) (u : Value) : Strs (w.setCell ⟨H, j, none⟩ u) B A xs := by
  rcases h with h | ⟨b, off, hA, hb, hc⟩
  · exact .inl h
  · refine .inr ⟨b, off, hA, hb, fun i hi => ?_⟩
    have h1 := hc i hi
    have hne : b ≠ H := by
      rintro rfl
      rw [Lib.cell_of_heap hT.blk] at h1
      have hlt : off + i < 2 := by
        rcases Nat.lt_or_ge (off + i) 2 with h' | h'
        · exact h'
        · simp [h'] at h1
      rcases (show off + i = 0 ∨ off + i = 1 by omega) with e | e <;> · rw [e] at h1; simp [txt] at h1
    have e : (w.setCell ⟨H, j, none⟩ u).heap[b]? = w.heap[b]? := Below.heap_setCell _ _ _ _ (fun e => hne e)
    rw [World.cell?_of_block (w := w) (a := ⟨b, off + i, none⟩) e]
    exact h1

/-- A state in a box: the box at block H, its parts in memory. -/
structure BoxAt (w : World) (H : Nat) (o : Int) (hv : List (List UInt8)) (A : Option Addr) (c : Nat) : Prop where
  box : Two w H (.int .i64 o) (.slice A hv.length c) 35
  row : Strs w w.heap.size A hv
  nil : A = none → c = 0

/-- What a call answers is laid into the box. -/
theorem BoxAt.put {w w' : World} {H : Nat} {o : Int} {hv : List (List UInt8)} {A : Option Addr} {c : Nat} (h : BoxAt w H o hv A c) (hb : Below w.heap.size w w') {o' : Int} {hv' : List (List UInt8)} {A' : Option Addr} {c' : Nat} (hs : Strs w' w'.heap.size A' hv') (hn : A' = none → c' = 0) :
    BoxAt ((w'.setCell ⟨H, 0, none⟩ (.int .i64 o')).setCell ⟨H, 1, none⟩ (.slice A' hv'.length c')) H o' hv' A' c' := by
  have h1 := h.box.below hb
  have h2 : Two (w'.setCell ⟨H, 0, none⟩ (.int .i64 o')) H (.int .i64 o') (.slice A hv.length c) 35 := ⟨row_set h1.blk 0 _⟩
  refine ⟨h1.set _ _, ?_, hn⟩
  have := ((hs.far h1 0 (.int .i64 o')).far h2 1 (.slice A' hv'.length c'))
  simpa [World.setCell] using this

theorem take_snoc_part (l : List UInt8) (m k : Nat) : str (l.take (k * m)) ++ str (partN l m k) = str (l.take ((k + 1) * m)) := by
  rw [str_cat, ← parts_flat, ← parts_flat, partsN_snoc, List.flatten_append]; simp

set_option maxRecDepth 100000 in
set_option maxHeartbeats 1600000 in
theorem SegSizes_walk (s : ByteArray) (n : Int) (w : World) (hs : s.size ≤ 140737488351232) :
    Calls Try.prog 8 #[.string s, .int .i64 n] w fun e w' => e = .returned (.bool true) ∧ Below w.heap.size w w' := by
  by_cases h : 16384 < s.size
  · go_enter Try.func8, Try.ntmps8
    go_wp2_with (go_at_call 9; refine (awake14_any _).mono ?_; rintro e w3 ⟨rfl, hb3⟩)
    go_ret
    exact ⟨rfl, hb3⟩
  · have HC := Lib.hid (Cut_any s n w (by omega))
    by_cases hn : n < 1 ∨ 508 < n
    · obtain ⟨e1, e2⟩ := cut_arg (l := s.data.toList) hn
      have HC2 : Hid (Calls Try.prog 10 #[.string s, .int .i64 n] w fun e w' => ∃ A c, e = .returned (.tuple #[.slice A 0 c, .int .i64 1]) ∧ Below w.heap.size w w') := Lib.hid (by
        refine HC.out.mono ?_
        rintro e w1 ⟨v, rfl, hown, hb⟩
        rw [e2] at hown
        rw [e1]
        obtain ⟨A, c, rfl, _, _⟩ := own_strs hown
        exact ⟨A, c, rfl, hb⟩)
      clear e1 e2 HC hn
      go_enter Try.func8, Try.ntmps8
      go_wp2_with fail
      refine HC2.out.mono ?_
      rintro e w1 ⟨A, c, rfl, hb1⟩
      go_wp2_with (go_at_call 9; refine (awake14_any _).mono ?_; rintro e w3 ⟨rfl, hb3⟩)
      go_ret
      exact ⟨rfl, below_next hb1 hb3⟩
    · obtain ⟨m, rfl⟩ := Int.eq_ofNat_of_zero_le (show 0 ≤ n by omega)
      have hm1 : 1 ≤ m := by omega
      have hm2 : m ≤ 508 := by omega
      obtain ⟨l, hl⟩ : ∃ l, s.data.toList = l := ⟨_, rfl⟩
      have hsz : s.size = l.length := by rw [← hl, list_length]
      have hsl : s = str l := by rw [← hl]; rfl
      have hcl := cnt_le l.length m hm1
      have hcp := cnt_pos l.length m
      obtain ⟨e1, e2⟩ := cut_ok (l := l) hm1 hm2 (by omega)
      have hplen : (piecesN l m).length = cntN l.length m := by unfold piecesN; rw [piecesK_len]
      have HC2 : Hid (Calls Try.prog 10 #[.string s, .int .i64 m] w fun e w' => ∃ A c, e = .returned (.tuple #[.slice A (cntN l.length m) c, .int .i64 0]) ∧ Strs w' w'.heap.size A (piecesK l m (cntN l.length m) (cntN l.length m)) ∧ Below w.heap.size w w') := Lib.hid (by
        refine HC.out.mono ?_
        rintro e w1 ⟨v, rfl, hown, hb⟩
        rw [hl, e2] at hown
        rw [hl, e1]
        obtain ⟨A, c, rfl, _, hst⟩ := own_strs hown
        rw [hplen]
        exact ⟨A, c, rfl, hst, hb⟩)
      have HFull : Hid (∀ k, k + 1 < cntN l.length m → (partN l m k).length = m) := Lib.hid (fun k hk => partN_full hm1 hk)
      have HAll : Hid (str (l.take (cntN l.length m * m)) = s) := Lib.hid (by rw [hsl, ← parts_flat, parts_all hm1])
      have hll : l.length ≤ 16384 := by omega
      clear e1 e2 HC hn hplen hsl hsz hl
      generalize cntN l.length m = of at *
      go_enter Try.func8, Try.ntmps8
      go_wp2_with fail
      refine HC2.out.mono ?_
      rintro e w1 ⟨A, c, rfl, hst, hb1⟩
      have HS := Lib.hid hst
      have HB1 := Lib.hid hb1
      clear hst hb1 HC2
      go_wp2
      go_loop [7, 30] (fun t i => ∃ k : Nat, k ≤ of ∧ i = .int .i64 k ∧ t = .string (str (l.take (k * m)))) (fun _ i => of - (intOf i).toNat)
      case atStart => exact ⟨0, by omega, rfl, by rw [Nat.zero_mul]; rfl⟩
      case round =>
        obtain ⟨k, hk, rfl, rfl⟩ := hrel
        by_cases hlt : k < of
        · obtain ⟨b, off, rfl, _, hc⟩ := HS.out.at_ (k := k) (by rw [piecesK_len]; exact hlt)
          rw [piecesK_at] at hc
          unfold txt at hc
          have hps : (str (pieceN l m of k)).size = 4 + (partN l m k).length := by rw [str_size, pieceN_len]
          have hple := partN_le l m k
          have hX : (str (pieceN l m of k)).extract 4 (str (pieceN l m of k)).size = str (partN l m k) := by
            rw [extract_drop_str, str_list, pieceN, drop4_enc _ _ _ (enc_length _ _) (enc_length _ _)]
          have HX := Lib.hid hX
          have HT := Lib.hid (take_snoc_part l m k)
          have htl : (str (l.take (k * m))).size ≤ 16384 := by rw [str_size]; have := List.length_take_le (k * m) l; rw [List.length_take]; omega
          have hpl : (str (partN l m k)).size ≤ 508 := by rw [str_size]; omega
          have hP4 : 4 ≤ (str (pieceN l m of k)).size := by omega
          have hPm : (str (pieceN l m of k)).size ≤ m + 4 := by omega
          have HPf : Hid (k + 1 < of → (str (pieceN l m of k)).size = m + 4) := Lib.hid (fun h => by rw [hps, HFull.out k h]; omega)
          clear hps hple hX
          generalize str (pieceN l m of k) = P at *
          generalize str (l.take (k * m)) = T at *
          generalize str (partN l m k) = Q at *
          have hsum : ¬ 9223372036854775807 < T.size + Q.size := by omega
          by_cases hmore : k + 1 < of
          · have hq : ((P.size : Int) - 4 != (m : Int)) = false := by have := HPf.out hmore; rw [bne_eq_false_iff_eq]; omega
            go_wp2
            exact ⟨⟨k + 1, by omega, by go_num, by rw [HX.out, HT.out]⟩, by simp [intOf]; omega⟩
          · have hno : of ≤ k + 1 := by omega
            go_wp2
            exact ⟨⟨k + 1, by omega, by go_num, by rw [HX.out, HT.out]⟩, by simp [intOf]; omega⟩
        · obtain rfl : k = of := by omega
          rw [HAll.out]
          clear HFull HAll HS
          go_wp2_with (go_at_call 9; refine (awake14_any _).mono ?_; rintro e w3 ⟨rfl, hb3⟩)
          go_ret
          exact ⟨rfl, below_next HB1.out hb3⟩
end Go.Proofs.Ytlncedjgpndlpaa
