/- The walks of the laws of stage 14 that hold the document's answer (SegCuts, SegFeeds), and of SegLong; the fixed answer. -/
import Derived.Test.YtlncedjgpndlpaaSegG
import Derived.Test.YtlncedjgpndlpaaJoin
namespace Go.Proofs.Ytlncedjgpndlpaa
open Go.RowKit

theorem abc_cut : cutL (ByteArray.mk #[97, 98, 99]).data.toList 2 = [[0, 0, 0, 2, 97, 98], [0, 1, 0, 2, 99]] ∧ cutE (ByteArray.mk #[97, 98, 99]).data.toList 2 = 0 := by decide +kernel

set_option maxRecDepth 100000 in
set_option maxHeartbeats 800000 in
theorem awake14_any (w : World) :
    Calls Try.prog 9 #[] w fun e w' => e = .returned (.bool true) ∧ Below w.heap.size w w' := by
  have HC := Lib.hid (Cut_any ⟨#[97, 98, 99]⟩ 2 w (by decide))
  go_enter Try.func9, Try.ntmps9
  go_wp2_with fail
  refine HC.out.mono ?_
  rintro e w1 ⟨v, rfl, hown, hb⟩
  rw [abc_cut.1] at hown
  rw [abc_cut.2]
  obtain ⟨A, c, rfl, _, hst⟩ := own_strs hown
  obtain ⟨b, off, rfl, _, h0⟩ := hst.at_ (k := 0) (by decide)
  obtain ⟨b', off', he, _, h1⟩ := hst.at_ (k := 1) (by decide)
  injection he with he
  injection he with he1 he2
  subst he1 he2
  have g0 : w1.cell? ⟨b, off, none⟩ = some (.string ⟨#[0, 0, 0, 2, 97, 98]⟩) := h0
  have g1 : w1.cell? ⟨b, off + 1, none⟩ = some (.string ⟨#[0, 1, 0, 2, 99]⟩) := h1
  have HB := Lib.hid hb
  clear h0 h1 hst hown hb HC
  go_wp2
  go_ret
  exact ⟨rfl, HB.out⟩

set_option maxRecDepth 100000 in
set_option maxHeartbeats 1600000 in
theorem SegCuts_walk (s : ByteArray) (n : Int) (w : World) (hs : s.size ≤ 140737488351232) :
    Calls Try.prog 3 #[.string s, .int .i64 n] w fun e w' => e = .returned (.bool true) ∧ Below w.heap.size w w' := by
  by_cases h : 16384 < s.size
  · go_enter Try.func3, Try.ntmps3
    go_wp2_with (go_at_call 9; refine (awake14_any _).mono ?_; rintro e w3 ⟨rfl, hb3⟩)
    go_ret
    exact ⟨rfl, hb3⟩
  · have HC := Lib.hid (Cut_any s n w (by omega))
    by_cases hn : n < 1 ∨ 508 < n
    · obtain ⟨e1, e2⟩ := cut_arg (l := s.data.toList) hn
      have HC2 : Hid (Calls Try.prog 10 #[.string s, .int .i64 n] w fun e w' => ∃ A c, e = .returned (.tuple #[.slice A 0 c, .int .i64 1]) ∧ Below w.heap.size w w') := Lib.hid (by
        refine HC.out.mono ?_
        rintro e w1 ⟨v, rfl, hown, hb⟩
        rw [e2] at hown
        rw [e1]
        obtain ⟨A, c, rfl, _, _⟩ := own_strs hown
        exact ⟨A, c, rfl, hb⟩)
      clear e1 e2 HC
      rcases hn with hn | hn
      · go_enter Try.func3, Try.ntmps3
        go_wp2_with fail
        refine HC2.out.mono ?_
        rintro e w1 ⟨A, c, rfl, hb1⟩
        go_wp2_with (go_at_call 9; refine (awake14_any _).mono ?_; rintro e w3 ⟨rfl, hb3⟩)
        go_ret
        exact ⟨rfl, below_next hb1 hb3⟩
      · have hn1 : ¬ n < 1 := by omega
        go_enter Try.func3, Try.ntmps3
        go_wp2_with fail
        refine HC2.out.mono ?_
        rintro e w1 ⟨A, c, rfl, hb1⟩
        go_wp2_with (go_at_call 9; refine (awake14_any _).mono ?_; rintro e w3 ⟨rfl, hb3⟩)
        go_ret
        exact ⟨rfl, below_next hb1 hb3⟩
    · obtain ⟨m, rfl⟩ := Int.eq_ofNat_of_zero_le (show 0 ≤ n by omega)
      have hm1 : 1 ≤ m := by omega
      have hm2 : m ≤ 508 := by omega
      have hcl := cnt_le s.size m hm1
      obtain ⟨e1, e2⟩ := cut_ok (l := s.data.toList) hm1 hm2 (by rw [list_length]; omega)
      have hlen : (piecesN s.data.toList m).length ≤ 20000 := by unfold piecesN; rw [piecesK_len, list_length]; omega
      have HP := Lib.hid (fun W : World => Pieces_any s m W (by omega) hm1 hm2 (by omega))
      have HC2 : Hid (Calls Try.prog 10 #[.string s, .int .i64 m] w fun e w' => ∃ v, e = .returned (.tuple #[v, .int .i64 0]) ∧ w'.ownsRow w.heap.size 9 1 v (piecesN s.data.toList m).length ((piecesN s.data.toList m).map txt) ∧ Below w.heap.size w w') := Lib.hid (by
        refine HC.out.mono ?_
        rintro e w1 ⟨v, rfl, hown, hb⟩
        rw [e2] at hown
        rw [e1]
        exact ⟨v, rfl, hown, hb⟩)
      clear e1 e2 HC hn hcl
      generalize piecesN s.data.toList m = xs at *
      go_enter Try.func3, Try.ntmps3
      go_wp2_with fail
      refine HC2.out.mono ?_
      rintro e w1 ⟨v1, rfl, hown1, hb1⟩
      obtain ⟨A1, c1, rfl, _, hst1⟩ := own_strs hown1
      have HS1 := Lib.hid hst1
      have HB1 := Lib.hid hb1
      clear hown1 hst1 hb1 HC2
      go_wp2_with fail
      refine (HP.out w1).mono ?_
      rintro e w2 ⟨v2, rfl, hown2, hb2⟩
      obtain ⟨A2, c2, rfl, _, hst2⟩ := own_strs hown2
      have HS2 := Lib.hid hst2
      have HS1' := Lib.hid (HS1.out.next hb2)
      have HB2 := Lib.hid (below_next HB1.out hb2)
      clear hown2 hst2 hb2 HP HS1
      go_wp2_with (first
        | (go_at_call 12; refine (Same_yes _ _ _ _ _ _ _ _ (by unfold maxLen; omega) HS1'.out HS2.out).mono ?_; rintro e w3 ⟨rfl, hb3⟩)
        | (go_at_call 9; refine (awake14_any _).mono ?_; rintro e w4 ⟨rfl, hb4⟩))
      go_ret
      exact ⟨rfl, below_next (below_next HB2.out hb3) hb4⟩

set_option maxRecDepth 100000 in
set_option maxHeartbeats 1600000 in
theorem SegFeeds_walk (of : Int) (A : Option Addr) (n c : Nat) (ss : List ByteArray) (s : ByteArray) (w : World) (hss : IsStrs w A n c ss) (hs : s.size ≤ 140737488351232) :
    Calls Try.prog 5 #[.int .i64 of, .slice A n c, .string s] w fun e w' => e = .returned (.bool true) ∧ Below w.heap.size w w' := by
  have hnil : A = none → c = 0 := by
    rcases hss with ⟨_, _, h, _⟩ | ⟨x, h, _⟩
    · exact fun _ => h
    · intro h'; rw [h'] at h; cases h
  obtain ⟨xs, hl, hm, hst, hx⟩ := hss.open_
  have HL := Lib.hid hl
  by_cases hsm : small xs 300 16384 = true
  · have hsz : n ≤ 300 ∧ total xs ≤ 16384 := by unfold small at hsm; simp at hsm; omega
    obtain ⟨hn, ht⟩ := hsz
    have HS := Lib.hid hsm
    have HSt := Lib.hid hst
    have HX := Lib.hid hx
    have HNil := Lib.hid hnil
    have HF := Lib.hid (Feed_any of xs A n c s w hl hst hnil (by omega) (by omega))
    have HD := Lib.hid (fun (W : World) (h : Strs W W.heap.size A xs) => DFeed_any of xs A n c s W hl h (by omega) (by omega))
    have hfl := (fed_len of xs s.data.toList).1
    have hfl2 : (fed of xs s.data.toList).hv.length ≤ 301 := by omega
    clear hsm hl hst hnil hx hfl
    generalize fed of xs s.data.toList = F at *
    obtain ⟨fo, fh, ft, fk, fe⟩ := F
    simp only at hfl2
    go_enter Try.func5, Try.ntmps5
    go_wp2_with (go_at_call 13; refine (Small_any A c n 300 16384 xs _ HL.out hm (by omega) (by omega) HX.out HSt.out).mono ?_; rintro e w0 ⟨rfl, rfl⟩; rw [HS.out])
    refine HF.out.mono ?_
    rintro e w1 ⟨A1, c1, rfl, hs1, _, hb1⟩
    have HS1 := Lib.hid hs1
    have HB1 := Lib.hid hb1
    have HSt1 := Lib.hid (HSt.out.next hb1)
    clear hs1 hb1 HF
    dsimp only
    have HW : Hid (Two (w1.alloc (.cells #[.int .i64 fo, .slice A1 fh.length c1] 35)) w1.heap.size (.int .i64 fo) (.slice A1 fh.length c1) 35) := Lib.hid (Two.new _ _ _ _)
    have HD1 := Lib.hid (HD.out _ (HSt1.out.next (below_one w1 (.cells #[.int .i64 fo, .slice A1 fh.length c1] 35))))
    have HS2 := Lib.hid (HS1.out.next (below_one w1 (.cells #[.int .i64 fo, .slice A1 fh.length c1] 35)))
    have HB2 := Lib.hid (below_next HB1.out (below_one w1 (.cells #[.int .i64 fo, .slice A1 fh.length c1] 35)))
    go_wp2_with fail
    refine HD1.out.mono ?_
    rintro e w2 ⟨A2, c2, rfl, hs2, hb2⟩
    have hT := HW.out.below hb2
    have HSa := Lib.hid (HS2.out.next hb2)
    have HSb := Lib.hid hs2
    have HB3 := Lib.hid (below_next HB2.out hb2)
    have y0 := hT.c0
    have y1 := hT.c1
    clear hs2 hb2 hT HD1 HD HW HS2 HB2 HSt1 HSt
    dsimp only
    generalize str ft = T
    go_wp2_with (first
      | (go_at_call 12; refine (Same_yes _ _ _ _ _ _ _ _ (by unfold maxLen; omega) HSa.out HSb.out).mono ?_; rintro e w3 ⟨rfl, hb3⟩)
      | (go_at_call 9; refine (awake14_any _).mono ?_; rintro e w4 ⟨rfl, hb4⟩))
    go_ret
    exact ⟨rfl, below_next (below_next HB3.out hb3) hb4⟩
  · have HS : Hid (small xs 300 16384 = false) := Lib.hid (by simpa using hsm)
    have HSt := Lib.hid hst
    have HX := Lib.hid hx
    clear hsm hl hst hnil hx
    go_enter Try.func5, Try.ntmps5
    go_wp2_with (first
      | (go_at_call 13; refine (Small_any A c n 300 16384 xs _ HL.out hm (by omega) (by omega) HX.out HSt.out).mono ?_; rintro e w0 ⟨rfl, rfl⟩; rw [HS.out])
      | (go_at_call 9; refine (awake14_any _).mono ?_; rintro e w3 ⟨rfl, hb3⟩))
    go_ret
    exact ⟨rfl, hb3⟩

set_option maxRecDepth 100000 in
set_option maxHeartbeats 1600000 in
theorem SegLong_walk (b : Int) (w : World) (h0 : 0 ≤ b) (h1 : b ≤ 255) :
    Calls Try.prog 4 #[.int .u8 b] w fun e w' => e = .returned (.bool true) ∧ Below w.heap.size w w' := by
  obtain ⟨n, hn⟩ : ∃ n : Nat, 65530 + b % 10 = (n : Int) := ⟨(65530 + b % 10).toNat, by omega⟩
  have hn1 : 65530 ≤ n := by omega
  have hn2 : n ≤ 65539 := by omega
  have hmk := fun W => run_make_row' (P := Try.prog) 31 5 (.int .u8 0) 1 Try.underlying31 Try.infoByte rfl .i64 .i64 n (by omega) (by omega) W
  obtain ⟨l, hl⟩ : ∃ l, l = List.replicate n (0 : UInt8) := ⟨_, rfl⟩
  have hll : l.length = n := by rw [hl]; simp
  have hcv := run_convert_bytes_back (P := Try.prog) (w.alloc (.cells (madeCells #[.int .u8 0] n) 5)) 31 9 5 ⟨w.heap.size, 0, none⟩ n l Try.underlying31 Try.underlying5 Try.underlying9 (fun j hj => by
    rw [WideShapes.add_plain, Nat.zero_add, Lib.cell_of_heap (heap_alloc_new w _)]
    have hj' : j < n := by omega
    have e : l[j] = 0 := by simp [hl]
    rw [e]
    simp [madeCells, hj']
    rw [Nat.mod_one]
    rfl)
  rw [hll] at hcv
  have hcv' : (convert 31 9 (.slice (some ⟨w.heap.size, 0, none⟩) n n)).run Try.prog (w.alloc (.cells (madeCells #[.int .u8 0] n) 5)) = .ok (.string (str l)) (w.alloc (.cells (madeCells #[.int .u8 0] n) 5)) := hcv
  have hsz : (str l).size = n := by rw [str_size, hll]
  have hcnt : cntN l.length 1 = n := by rw [hll]; exact cnt_one n (by omega)
  have HC := Lib.hid (fun W : World => Cut_any (str l) 1 W (by omega))
  have HOk : Hid (n ≤ 65535 → cutE l 1 = 0 ∧ (cutL l 1).length = n) := Lib.hid (fun h => by
    obtain ⟨e1, e2⟩ := cut_ok (l := l) (n := 1) (by omega) (by omega) (by omega)
    exact ⟨e1, by rw [show (1 : Int) = ((1 : Nat) : Int) from rfl, e2, piecesN, piecesK_len, hcnt]⟩)
  have HNo : Hid (65535 < n → cutE l 1 = 5 ∧ (cutL l 1).length = 0) := Lib.hid (fun h => by
    obtain ⟨e1, e2⟩ := cut_long (l := l) (n := 1) (by omega) (by omega) (by omega)
    exact ⟨e1, by rw [show (1 : Int) = ((1 : Nat) : Int) from rfl, e2]; rfl⟩)
  clear hcv hl hll hcnt
  have HCe : Hid (∀ W : World, Calls Try.prog 10 #[.string (str l), .int .i64 1] W fun e w' => ∃ A c, e = .returned (.tuple #[.slice A (cutL l 1).length c, .int .i64 (cutE l 1)]) ∧ Below W.heap.size W w') := Lib.hid (fun W => by
    refine (HC.out W).mono ?_
    rintro e w' ⟨v, rfl, hown, hb⟩
    obtain ⟨A, c, rfl, _, _⟩ := own_strs hown
    exact ⟨A, c, rfl, hb⟩)
  clear HC
  generalize cutE l 1 = er at *
  generalize (cutL l 1).length = len at *
  generalize str l = S at *
  have HB1 := Lib.hid (below_one w (.cells (madeCells #[.int .u8 0] n) 5))
  by_cases hlong : 65535 < n
  · obtain ⟨e1, e2⟩ := HNo.out hlong
    subst e1 e2
    go_enter Try.func4, Try.ntmps4
    go_wp2_with fail
    refine (HCe.out _).mono ?_
    rintro e w1 ⟨A, c, rfl, hb1⟩
    go_wp2_with (go_at_call 9; refine (awake14_any _).mono ?_; rintro e w3 ⟨rfl, hb3⟩)
    go_ret
    exact ⟨rfl, below_next (below_next HB1.out hb1) hb3⟩
  · obtain ⟨e1, e2⟩ := HOk.out (by omega)
    subst e1 e2
    go_enter Try.func4, Try.ntmps4
    go_wp2_with fail
    refine (HCe.out _).mono ?_
    rintro e w1 ⟨A, c, rfl, hb1⟩
    go_wp2_with (go_at_call 9; refine (awake14_any _).mono ?_; rintro e w3 ⟨rfl, hb3⟩)
    go_ret
    exact ⟨rfl, below_next (below_next HB1.out hb1) hb3⟩
end Go.Proofs.Ytlncedjgpndlpaa
