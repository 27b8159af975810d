/- The walks of SegLacks and SegBack. -/
import Derived.Test.YtlncedjgpndlpaaSegI
namespace Go.Proofs.Ytlncedjgpndlpaa
open Go.RowKit

/-- What Cut leaves, where it cuts. -/
theorem Cut_pieces (s : ByteArray) (m : Nat) (w : World) (hm1 : 1 ≤ m) (hm2 : m ≤ 508) (hs : s.size ≤ 16384) :
    Calls Try.prog 10 #[.string s, .int .i64 m] w fun e w' => ∃ A c, e = .returned (.tuple #[.slice A (cntN s.size m) c, .int .i64 0]) ∧ Strs w' w'.heap.size A (piecesK s.data.toList m (cntN s.size m) (cntN s.size m)) ∧ Below w.heap.size w w' := by
  have hcl := cnt_le s.size m hm1
  obtain ⟨e1, e2⟩ := cut_ok (l := s.data.toList) hm1 hm2 (by rw [list_length]; omega)
  refine (Cut_any s m w (by omega)).mono ?_
  rintro e w1 ⟨v, rfl, hown, hb⟩
  rw [e2, piecesN, list_length] at hown
  rw [e1]
  obtain ⟨A, c, rfl, _, hst⟩ := own_strs hown
  rw [piecesK_len]
  exact ⟨A, c, rfl, hst, hb⟩
/-- What Cut leaves, where it refuses. -/
theorem Cut_refused (s : ByteArray) (n : Int) (w : World) (hn : n < 1 ∨ 508 < n) (hs : s.size ≤ 16384) :
    Calls Try.prog 10 #[.string s, .int .i64 n] w fun e w' => ∃ A c, e = .returned (.tuple #[.slice A 0 c, .int .i64 1]) ∧ Below w.heap.size w w' := by
  obtain ⟨e1, e2⟩ := cut_arg (l := s.data.toList) hn
  refine (Cut_any s n w (by omega)).mono ?_
  rintro e w1 ⟨v, rfl, hown, hb⟩
  rw [e2] at hown
  rw [e1]
  obtain ⟨A, c, rfl, _, _⟩ := own_strs hown
  exact ⟨A, c, rfl, hb⟩

set_option maxRecDepth 100000 in
set_option maxHeartbeats 1600000 in
theorem SegLacks_walk (s : ByteArray) (n lack : Int) (w : World) (hs : s.size ≤ 140737488351232) :
    Calls Try.prog 7 #[.string s, .int .i64 n, .int .i64 lack] w fun e w' => e = .returned (.bool true) ∧ Below w.heap.size w w' := by
  by_cases h : 4096 < s.size
  · go_enter Try.func7, Try.ntmps7
    go_wp2_with (go_at_call 9; refine (awake14_any _).mono ?_; rintro e w3 ⟨rfl, hb3⟩)
    go_ret
    exact ⟨rfl, hb3⟩
  · by_cases hn : n < 1 ∨ 508 < n
    · have HC2 := Lib.hid (Cut_refused s n w hn (by omega))
      clear hn
      go_enter Try.func7, Try.ntmps7
      go_wp2_with fail
      refine HC2.out.mono ?_
      rintro e w1 ⟨A, c, rfl, hb1⟩
      go_wp2_with (go_at_call 9; refine (awake14_any _).mono ?_; rintro e w3 ⟨rfl, hb3⟩)
      go_ret
      exact ⟨rfl, below_next hb1 hb3⟩
    · obtain ⟨m, rfl⟩ := Int.eq_ofNat_of_zero_le (show 0 ≤ n by omega)
      have hm1 : 1 ≤ m := by omega
      have hm2 : m ≤ 508 := by omega
      have HC2 := Lib.hid (Cut_pieces s m w hm1 hm2 (by omega))
      have hcl := cnt_le s.size m hm1
      have hcp := cnt_pos s.size m
      generalize cntN s.size m = of at *
      by_cases hla : lack < 0
      · go_enter Try.func7, Try.ntmps7
        go_wp2_with fail
        refine HC2.out.mono ?_
        rintro e w1 ⟨A, c, rfl, _, hb1⟩
        go_wp2_with (go_at_call 9; refine (awake14_any _).mono ?_; rintro e w3 ⟨rfl, hb3⟩)
        go_ret
        exact ⟨rfl, below_next hb1 hb3⟩
      · obtain ⟨la, rfl⟩ := Int.eq_ofNat_of_zero_le (show 0 ≤ lack by omega)
        clear hla
        by_cases hlb : of ≤ la
        · go_enter Try.func7, Try.ntmps7
          go_wp2_with fail
          refine HC2.out.mono ?_
          rintro e w1 ⟨A, c, rfl, _, hb1⟩
          go_wp2_with (go_at_call 9; refine (awake14_any _).mono ?_; rintro e w3 ⟨rfl, hb3⟩)
          go_ret
          exact ⟨rfl, below_next hb1 hb3⟩
        · generalize s.data.toList = l at *
          have HL : Hid (∀ k (o : Int) (hv : List (List UInt8)), k < of → k ≠ la → hv.length ≤ k → hv.length ≤ la → (fed o hv (pieceN l m of k)).ok = false ∧ (fed o hv (pieceN l m of k)).hv.length ≤ k + 1 ∧ (fed o hv (pieceN l m of k)).hv.length ≤ la ∧ total (fed o hv (pieceN l m of k)).hv ≤ total hv + 600) := Lib.hid (fun k o hv h1 h2 h3 h4 => by
            obtain ⟨a1, a2, a3⟩ := lack_step (o := o) (l := l) (n := m) h3 h4 (by omega) h1 h2 (by omega)
            have := (fed_len o hv (pieceN l m of k)).2
            rw [pieceN_len] at this
            have := partN_le l m k
            exact ⟨a1, a2, a3, by omega⟩)
          have hlt : la < of := by omega
          clear hlb hn
          go_enter Try.func7, Try.ntmps7
          go_wp2_with fail
          refine HC2.out.mono ?_
          rintro e w1 ⟨A, c, rfl, hst, hb1⟩
          have HS := Lib.hid (hst.next (below_one w1 (.cells #[.int .i64 0, .slice none 0 0] 35)))
          have HSb := Lib.hid hst
          have HB1 := Lib.hid hb1
          have HBx : Hid (BoxAt (w1.alloc (.cells #[.int .i64 0, .slice none 0 0] 35)) w1.heap.size 0 [] none 0) := Lib.hid ⟨Two.new _ _ _ _, .inl rfl, fun _ => rfl⟩
          have HB2 := Lib.hid (below_one w1 (.cells #[.int .i64 0, .slice none 0 0] 35))
          clear hst hb1 HC2
          go_wp2
          go_loopw [38] (fun i wr => ∃ (k : Nat) (o : Int) (hv : List (List UInt8)) (B : Option Addr) (cb : Nat), k ≤ of ∧ i = .int .i64 k ∧ hv.length ≤ k ∧ hv.length ≤ la ∧ total hv ≤ k * 600 ∧ Hid (BoxAt wr w1.heap.size o hv B cb) ∧ Hid (Below w1.heap.size w1 wr)) (fun i _ => of - (intOf i).toNat)
          case atStart => exact ⟨0, 0, [], none, 0, by omega, rfl, by simp, by simp, by simp [total], HBx, HB2⟩
          case round =>
            obtain ⟨k, o, hv, B, cb, hk, rfl, hvk, hvl, htot, HBo, HBe⟩ := hrel
            by_cases hlk : k < of
            · obtain ⟨b, off, rfl, _, hc⟩ := (HSb.out.below HBe.out).at_ (k := k) (by rw [piecesK_len]; exact hlk)
              rw [piecesK_at] at hc
              unfold txt at hc
              by_cases hkl : k = la
              · subst hkl
                go_wp2
                go_roundw
                case rel => exact ⟨k + 1, o, hv, B, cb, by omega, by go_num, by omega, by omega, by omega, HBo, HBe⟩
                case measure => simp [intOf]; omega
              · obtain ⟨a1, a2, a3, a4⟩ := HL.out k o hv hlk hkl hvk hvl
                have hpl : (str (pieceN l m of k)).size ≤ 600 := by rw [str_size, pieceN_len]; have := partN_le l m k; omega
                have HF := Lib.hid (Feed_any o hv B hv.length cb (str (pieceN l m of k)) wr rfl HBo.out.row HBo.out.nil (by omega) (by omega))
                rw [str_list] at HF
                generalize fed o hv (pieceN l m of k) = F at *
                obtain ⟨fo, fh, ft, fk, fe⟩ := F
                simp only at a1 a2 a3 a4
                subst a1
                have x0 := HBo.out.box.c0
                have x1 := HBo.out.box.c1
                have hne : ((k : Int) == (la : Int)) = false := beq_eq_false_iff_ne.2 (by omega)
                generalize str (pieceN l m of k) = P at *
                go_wp2_with fail
                refine HF.out.mono ?_
                rintro e w2 ⟨A2, c2, rfl, hs2, hn2, hb2⟩
                have hBx := HBo.out.box.below hb2
                have HP := Lib.hid (HBo.out.put hb2 (o' := fo) hs2 hn2)
                have HE2 := Lib.hid (below_two (HBe.out.trans (hb2.mono HBe.out.size)) (b := w1.heap.size) (Nat.le_refl _) (.int .i64 fo) (.slice A2 fh.length c2))
                have y0 := hBx.c0
                have y1 := hBx.c1
                have g0 := hBx.fr 0
                have g1 := hBx.fr 1
                clear hBx hs2 hn2 hb2 HF x0 x1 hc HBo HBe
                dsimp only
                go_wp2
                go_roundw
                case rel => exact ⟨k + 1, fo, fh, A2, c2, by omega, by go_num, a2, a3, by omega, HP, HE2⟩
                case measure => simp [intOf]; omega
            · clear HL
              go_wp2_with (go_at_call 9; refine (awake14_any _).mono ?_; rintro e w3 ⟨rfl, hb3⟩)
              go_ret
              exact ⟨rfl, below_next (HB1.out.trans (HBe.out.mono HB1.out.size)) hb3⟩

/-- The state ahead of a piece: pieces of the text that came ahead of it; behind the last, none. -/
def Ahead (l : List UInt8) (m of k : Nat) (o : Int) (hv : List (List UInt8)) : Prop :=
  (k < of ∧ Came l m of k o hv ∧ hv.length ≤ 5000 ∧ total hv ≤ 3000000) ∨ (k = of ∧ o = 0 ∧ hv = [])

set_option maxRecDepth 100000 in
set_option maxHeartbeats 1600000 in
theorem SegBack_walk (s : ByteArray) (n : Int) (A0 : Option Addr) (na ca : Nat) (ss : List ByteArray) (w : World) (hs : s.size ≤ 140737488351232) (hss : IsStrs w A0 na ca ss) :
    Calls Try.prog 6 #[.string s, .int .i64 n, .slice A0 na ca] w fun e w' => e = .returned (.bool true) ∧ Below w.heap.size w w' := by
  obtain ⟨xs, hl, hm, hst, hx⟩ := hss.open_
  have HL := Lib.hid hl
  have HX := Lib.hid hx
  have HSt := Lib.hid hst
  clear hl hst hx hss
  by_cases h : 4096 < s.size
  · go_enter Try.func6, Try.ntmps6
    go_wp2_with (go_at_call 9; refine (awake14_any _).mono ?_; rintro e w3 ⟨rfl, hb3⟩)
    go_ret
    exact ⟨rfl, hb3⟩
  · by_cases hsm : small xs 20 4096 = true
    · have hsz : na ≤ 20 ∧ total xs ≤ 4096 := by have := HL.out; unfold small at hsm; simp at hsm; omega
      obtain ⟨hna, hta⟩ := hsz
      have HS := Lib.hid hsm
      clear hsm
      by_cases hn : n < 1 ∨ 508 < n
      · have HC2 := Lib.hid (Cut_refused s n w hn (by omega))
        rcases hn with hn | hn
        · go_enter Try.func6, Try.ntmps6
          go_wp2_with (first
            | (go_at_call 13; refine (Small_any A0 ca na 20 4096 xs _ HL.out hm (by omega) (by omega) HX.out HSt.out).mono ?_; rintro e w0 ⟨rfl, rfl⟩; rw [HS.out])
            | (go_at_call 10; refine HC2.out.mono ?_; rintro e w1 ⟨A, c, rfl, hb1⟩)
            | (go_at_call 9; refine (awake14_any _).mono ?_; rintro e w3 ⟨rfl, hb3⟩))
          go_ret
          exact ⟨rfl, below_next hb1 hb3⟩
        · have hn1 : ¬ n < 1 := by omega
          go_enter Try.func6, Try.ntmps6
          go_wp2_with (first
            | (go_at_call 13; refine (Small_any A0 ca na 20 4096 xs _ HL.out hm (by omega) (by omega) HX.out HSt.out).mono ?_; rintro e w0 ⟨rfl, rfl⟩; rw [HS.out])
            | (go_at_call 10; refine HC2.out.mono ?_; rintro e w1 ⟨A, c, rfl, hb1⟩)
            | (go_at_call 9; refine (awake14_any _).mono ?_; rintro e w3 ⟨rfl, hb3⟩))
          go_ret
          exact ⟨rfl, below_next hb1 hb3⟩
      · obtain ⟨m, rfl⟩ := Int.eq_ofNat_of_zero_le (show 0 ≤ n by omega)
        have hm1 : 1 ≤ m := by omega
        have hm2 : m ≤ 508 := by omega
        have HC2 := Lib.hid (Cut_pieces s m w hm1 hm2 (by omega))
        obtain ⟨l, hl⟩ : ∃ l, s.data.toList = l := ⟨_, rfl⟩
        have hsz : s.size = l.length := by rw [← hl, list_length]
        have hsl : s = str l := by rw [← hl]; rfl
        have HAll : Hid (str (partsN l m (cntN s.size m)).flatten = s) := Lib.hid (by rw [hsz, parts_all hm1, hsl])
        rw [hl] at HC2
        have hcl := cnt_le s.size m hm1
        have hcp := cnt_pos s.size m
        have hll : l.length ≤ 4096 := by omega
        clear hsl hl hsz
        generalize cntN s.size m = of at *
        have HMore : Hid (∀ k (o : Int) (hv : List (List UInt8)), k + 1 < of → Ahead l m of k o hv → fed o hv (pieceN l m of k) = ⟨(of : Int), partsN l m (k + 1), [], false, 0⟩ ∧ Ahead l m of (k + 1) (of : Int) (partsN l m (k + 1)) ∧ hv.length ≤ 5000 ∧ total hv ≤ 3000000) := Lib.hid (fun k o hv h1 h2 => by
          rcases h2 with ⟨_, h2, h3, h4⟩ | ⟨h2, _⟩
          · refine ⟨came_more h2 h1 (by omega), .inl ⟨h1, .inr ⟨rfl, rfl⟩, by rw [partsN_len]; omega, ?_⟩, h3, h4⟩
            have e := parts_flat l m (k + 1)
            have := congrArg List.length e
            rw [flat_total, List.length_take] at this
            omega
          · omega)
        have HLast : Hid (∀ k (o : Int) (hv : List (List UInt8)), k + 1 = of → Ahead l m of k o hv → fed o hv (pieceN l m of k) = ⟨0, [], (partsN l m of).flatten, true, 0⟩ ∧ Ahead l m of (k + 1) 0 [] ∧ hv.length ≤ 5000 ∧ total hv ≤ 3000000) := Lib.hid (fun k o hv h1 h2 => by
          rcases h2 with ⟨_, h2, h3, h4⟩ | ⟨h2, _⟩
          · exact ⟨came_last h2 h1 (by omega), .inr ⟨h1, rfl, rfl⟩, h3, h4⟩
          · omega)
        have HTake : Hid (∀ k (hk : k < xs.length), total (xs.take (k + 1)) = total (xs.take k) + (str xs[k]).size ∧ total (xs.take (k + 1)) ≤ total xs) := Lib.hid (fun k hk => ⟨by rw [total_take hk, str_size], total_take_le _ _⟩)
        have HFl : Hid (∀ (o : Int) (hv : List (List UInt8)) (P : ByteArray), (fed o hv P.data.toList).hv.length ≤ hv.length + 1 ∧ total (fed o hv P.data.toList).hv ≤ total hv + P.size) := Lib.hid (fun o hv P => by
          have := fed_len o hv P.data.toList
          rw [list_length] at this
          exact this)
        clear hn
        go_enter Try.func6, Try.ntmps6
        go_wp2_with (go_at_call 13; refine (Small_any A0 ca na 20 4096 xs _ HL.out hm (by omega) (by omega) HX.out HSt.out).mono ?_; rintro e w0 ⟨rfl, rfl⟩; rw [HS.out])
        refine HC2.out.mono ?_
        rintro e w1 ⟨A, c, rfl, hst, hb1⟩
        have HSt1 := Lib.hid (HSt.out.next hb1)
        have HSb := Lib.hid hst
        have HB1 := Lib.hid hb1
        have HBx : Hid (BoxAt (w1.alloc (.cells #[.int .i64 0, .slice none 0 0] 35)) w1.heap.size 0 [] none 0) := Lib.hid ⟨Two.new _ _ _ _, .inl rfl, fun _ => rfl⟩
        have HB2 := Lib.hid (below_one w1 (.cells #[.int .i64 0, .slice none 0 0] 35))
        clear hst hb1 HC2
        go_wp2
        go_loopw [44] (fun i wr => ∃ (k : Nat) (o : Int) (hv : List (List UInt8)) (B : Option Addr) (cb : Nat), k ≤ na ∧ i = .int .i64 k ∧ hv.length ≤ k ∧ Hid (total hv ≤ total (xs.take k)) ∧ Hid (BoxAt wr w1.heap.size o hv B cb) ∧ Hid (Below w1.heap.size w1 wr)) (fun i _ => na - (intOf i).toNat)
        case atStart => exact ⟨0, 0, [], none, 0, by omega, rfl, by simp, Lib.hid (by simp [total]), HBx, HB2⟩
        case round =>
          obtain ⟨k, o, hv, B, cb, hk, rfl, hvk, HTo, HBo, HBe⟩ := hrel
          by_cases hlk : k < na
          · have hkx : k < xs.length := by rw [HL.out]; exact hlk
            obtain ⟨b, off, rfl, _, hc⟩ := (HSt1.out.below HBe.out).at_ hkx
            unfold txt at hc
            obtain ⟨t1, t2⟩ := HTake.out k hkx
            have hto := HTo.out
            generalize str xs[k] = P at *
            have HF := Lib.hid (Feed_any o hv B hv.length cb P wr rfl HBo.out.row HBo.out.nil (by omega) (by omega))
            obtain ⟨f1, f2⟩ := HFl.out o hv P
            have HTn : Hid (total (fed o hv P.data.toList).hv ≤ total (xs.take (k + 1))) := Lib.hid (by omega)
            clear f2 t1 t2 hto
            generalize fed o hv P.data.toList = F at *
            obtain ⟨fo, fh, ft, fk, fe⟩ := F
            simp only at f1 HTn
            have x0 := HBo.out.box.c0
            have x1 := HBo.out.box.c1
            go_wp2_with fail
            refine HF.out.mono ?_
            rintro e w2 ⟨A2, c2, rfl, hs2, hn2, hb2⟩
            have hBx := HBo.out.box.below hb2
            have HP := Lib.hid (HBo.out.put hb2 (o' := fo) hs2 hn2)
            have HE2 := Lib.hid (below_two (HBe.out.trans (hb2.mono HBe.out.size)) (b := w1.heap.size) (Nat.le_refl _) (.int .i64 fo) (.slice A2 fh.length c2))
            have y0 := hBx.c0
            have y1 := hBx.c1
            have g0 := hBx.fr 0
            have g1 := hBx.fr 1
            clear hBx hs2 hn2 hb2 HF x0 x1 hc HBo HBe
            dsimp only
            go_wp2
            go_roundw
            case rel => exact ⟨k + 1, fo, fh, A2, c2, by omega, by go_num, by omega, HTn, HP, HE2⟩
            case measure => simp [intOf]; omega
          · have hkn : k = na := by omega
            have hto : total hv ≤ 4096 := by
              have := HTo.out
              have := total_take_le xs k
              omega
            have HA : Hid (Ahead l m of 0 o hv) := Lib.hid (.inl ⟨by omega, .inl rfl, by omega, by omega⟩)
            clear HTo HTake HFl hkn hto hvk
            go_wp2
            clear hlk
            go_loopw [59] (fun i wr => ∃ (k : Nat) (o : Int) (hv : List (List UInt8)) (B : Option Addr) (cb : Nat), k ≤ of ∧ i = .int .i64 k ∧ Hid (Ahead l m of k o hv) ∧ Hid (BoxAt wr w1.heap.size o hv B cb) ∧ Hid (Below w1.heap.size w1 wr)) (fun i _ => of - (intOf i).toNat)
            case atStart => exact ⟨0, o, hv, B, cb, by omega, rfl, HA, HBo, HBe⟩
            case round =>
              clear HA HBo HBe
              obtain ⟨k, o, hv, B, cb, hk, rfl, HA, HBo, HBe⟩ := hrel
              by_cases hlk : k < of
              · obtain ⟨b, off, rfl, _, hc⟩ := (HSb.out.below HBe.out).at_ (k := k) (by rw [piecesK_len]; exact hlk)
                rw [piecesK_at] at hc
                unfold txt at hc
                have hpl : (str (pieceN l m of k)).size ≤ 600 := by rw [str_size, pieceN_len]; have := partN_le l m k; omega
                by_cases hmore : k + 1 < of
                · obtain ⟨e1, hA2, b1, b2⟩ := HMore.out k o hv hmore HA.out
                  have HA2 := Lib.hid hA2
                  have HF := Lib.hid (Feed_any o hv B hv.length cb (str (pieceN l m of k)) wr rfl HBo.out.row HBo.out.nil (by omega) (by omega))
                  rw [str_list, e1] at HF
                  clear e1 hA2 b1 b2
                  have x0 := HBo.out.box.c0
                  have x1 := HBo.out.box.c1
                  generalize str (pieceN l m of k) = P at *
                  go_wp2_with fail
                  refine HF.out.mono ?_
                  rintro e w2 ⟨A2, c2, rfl, hs2, hn2, hb2⟩
                  have hBx := HBo.out.box.below hb2
                  have HP := Lib.hid (HBo.out.put hb2 (o' := (of : Int)) hs2 hn2)
                  have HE2 := Lib.hid (below_two (HBe.out.trans (hb2.mono HBe.out.size)) (b := w1.heap.size) (Nat.le_refl _) (.int .i64 (of : Int)) (.slice A2 (partsN l m (k + 1) : List (List UInt8)).length c2))
                  have y0 := hBx.c0
                  have y1 := hBx.c1
                  have g0 := hBx.fr 0
                  have g1 := hBx.fr 1
                  clear hBx hs2 hn2 hb2 HF x0 x1 hc HBo HBe
                  dsimp only
                  rw [show (str [] : ByteArray) = ⟨#[]⟩ from rfl]
                  go_wp2
                  exact ⟨⟨k + 1, (of : Int), partsN l m (k + 1), A2, c2, by omega, by go_num, HA2, HP, HE2⟩, by simp [intOf]; omega⟩
                · obtain ⟨e1, hA2, b1, b2⟩ := HLast.out k o hv (by omega) HA.out
                  have HA2 := Lib.hid hA2
                  have HF := Lib.hid (Feed_any o hv B hv.length cb (str (pieceN l m of k)) wr rfl HBo.out.row HBo.out.nil (by omega) (by omega))
                  rw [str_list, e1] at HF
                  clear e1 hA2 b1 b2
                  have x0 := HBo.out.box.c0
                  have x1 := HBo.out.box.c1
                  have hb := HAll.out
                  generalize str (pieceN l m of k) = P at *
                  go_wp2_with fail
                  refine HF.out.mono ?_
                  rintro e w2 ⟨A2, c2, rfl, hs2, hn2, hb2⟩
                  have hBx := HBo.out.box.below hb2
                  have HP := Lib.hid (HBo.out.put hb2 (o' := 0) hs2 hn2)
                  have HE2 := Lib.hid (below_two (HBe.out.trans (hb2.mono HBe.out.size)) (b := w1.heap.size) (Nat.le_refl _) (.int .i64 0) (.slice A2 ([] : List (List UInt8)).length c2))
                  have y0 := hBx.c0
                  have y1 := hBx.c1
                  have g0 := hBx.fr 0
                  have g1 := hBx.fr 1
                  clear hBx hs2 hn2 hb2 HF x0 x1 hc HBo HBe
                  dsimp only
                  go_wp2
                  exact ⟨⟨k + 1, 0, [], A2, c2, by omega, by go_num, HA2, HP, HE2⟩, by simp [intOf]; omega⟩
              · obtain rfl : k = of := by omega
                have h0 : o = 0 ∧ hv = [] := by
                  rcases HA.out with ⟨h, _⟩ | ⟨_, h1, h2⟩
                  · omega
                  · exact ⟨h1, h2⟩
                obtain ⟨rfl, rfl⟩ := h0
                have x0 := HBo.out.box.c0
                have x1 := HBo.out.box.c1
                rw [List.length_nil] at x1
                clear HMore HLast HAll
                go_wp2_with (go_at_call 9; refine (awake14_any _).mono ?_; rintro e w3 ⟨rfl, hb3⟩)
                go_ret
                exact ⟨rfl, below_next (HB1.out.trans (HBe.out.mono HB1.out.size)) hb3⟩
    · have HS : Hid (small xs 20 4096 = false) := Lib.hid (by simpa using hsm)
      clear hsm
      go_enter Try.func6, Try.ntmps6
      go_wp2_with (first
        | (go_at_call 13; refine (Small_any A0 ca na 20 4096 xs _ HL.out hm (by omega) (by omega) HX.out HSt.out).mono ?_; rintro e w0 ⟨rfl, rfl⟩; rw [HS.out])
        | (go_at_call 9; refine (awake14_any _).mono ?_; rintro e w3 ⟨rfl, hb3⟩))
      go_ret
      exact ⟨rfl, hb3⟩
end Go.Proofs.Ytlncedjgpndlpaa
