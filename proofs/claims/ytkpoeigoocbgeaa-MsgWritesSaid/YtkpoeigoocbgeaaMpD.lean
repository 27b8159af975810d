/- Contract of the function PutWrites of the package msg. -/
import Derived.Test.YtkpoeigoocbgeaaMpC
namespace Go.Proofs.Ytkpoeigoocbgeaa
open Go.RowKit

theorem wrsB_take17 {ws : List Wr} {j : Nat} (h : j < ws.length) : wrsB (ws.take (j + 1)) = wrsB (ws.take j) ++ wrB ws[j] := by
  unfold wrsB
  rw [List.take_succ_eq_append_getElem h, List.flatMap_append]
  simp
theorem wrsB_len17 : ∀ {ws : List Wr}, (∀ x ∈ ws, mayW x = true) → (wrsB ws).length ≤ 12 * ws.length
  | [], _ => Nat.zero_le _
  | x :: l, h => by
    have ih := wrsB_len17 (ws := l) (fun y hy => h y (List.mem_cons_of_mem _ hy))
    have hx := (mayW_iff x).1 (h x (by simp))
    show (wrB x ++ wrsB l).length ≤ _
    rw [List.length_append, wrB_length, List.length_cons]
    omega

set_option maxHeartbeats 4000000 in
set_option maxRecDepth 100000 in
theorem PPutWrites_big {w : World} {A : Option Addr} {c : Nat} {ws : List Wr} (h : WrsAt w w.heap.size A ws) (hl : ws.length ≤ 9223372036854775807) :
    Calls Try.prog 16 #[.slice A ws.length c] w fun e w' => e = .returned (.tuple #[.string (str (putWsS ws)), .int .i64 (putWsE ws)]) ∧ Below w.heap.size w w' := by
  have HI := Lib.hid (areWrites_any (c := c) h hl)
  have HW := Lib.hid h
  cases hq : writable ws with
  | false =>
    have e1 : putWsS ws = [] := by unfold putWsS; rw [hq]; rfl
    have e2 : putWsE ws = 1 := by unfold putWsE; rw [hq]; rfl
    rw [e1, e2]
    rw [hq] at HI
    generalize ws.length = n at HI ⊢
    clear h HW hl hq e1 e2
    go_enter Try.func16, Try.ntmps16
    go_wp2_with (go_at_call 39; (with_reducible refine HI.out.mono ?_); rintro e w1 ⟨rfl, hb⟩; have HB := Lib.hid hb; clear hb)
    go_ret2
    exact ⟨rfl, HB.out⟩
  | true =>
    have hwr := (writable_iff ws).1 hq
    have HFt := Lib.hid hwr.2.2
    have hlen := hwr.1
    have e1 : putWsS ws = writesB ws := by unfold putWsS; rw [hq]; rfl
    have e2 : putWsE ws = 0 := by unfold putWsE; rw [hq]; rfl
    rw [e1, e2]
    rw [hq] at HI
    have HBw := Lib.hid fun B b (l : List UInt8) w h s h1 h2 => @bu_write B b l w h s h1 h2
    have HLb := Lib.hid fun j => wrsB_len17 (ws := ws.take j) (fun x hx => HFt.out x (List.mem_of_mem_take hx))
    obtain ⟨n, hn⟩ : ∃ n, ws.length = n := ⟨_, rfl⟩
    have HN := Lib.hid hn
    have HLn : Hid (writesB ws = enc 2 n ++ wrsB (ws.take n)) := Lib.hid (by unfold writesB; rw [hn, List.take_of_length_le (by omega)])
    rw [hn] at hl hlen HI ⊢
    have HO := Lib.hid fun w H hH => num_one17 w H hH n 2 (by omega) (by omega) (by omega) (by omega)
    have HT8 := Lib.hid fun w H hH x y (h : x ≤ 255 ∧ y ≤ 255) => num_two17 w H hH x y 1 (by omega) (by omega) (by omega) (by omega)
    rw [show ((2 : Nat) : Int) = 2 from rfl] at HO
    rw [show ((1 : Nat) : Int) = 1 from rfl] at HT8
    have HE1 : Hid ((enc 2 n).length = 2) := Lib.hid (enc_length _ _)
    obtain ⟨X, hX⟩ : ∃ X, enc 2 n = X := ⟨_, rfl⟩
    rw [hX] at HO HLn HE1
    clear h hn hq e1 e2 hX hwr
    go_enter Try.func16, Try.ntmps16
    go_upto_region 5 with (first
      | (go_at_call 39; (with_reducible refine HI.out.mono ?_); rintro e w1 ⟨rfl, hb⟩; have HB1 := Lib.hid hb; have HB1a := Lib.hid (below_next hb (below_one w1 (.cells #[.pointer none, .slice none 0 0] 69))); have HU1 := Lib.hid (BuAt.new w1 w.heap.size hb.size); clear hb)
      | (go_at_call 32; (with_reducible refine (HO.out _ _ (by simp)).mono ?_); rintro e w2 ⟨rfl, hb⟩; have HB2 := Lib.hid (below_next HB1a.out hb); have HU2 := Lib.hid (HU1.out.below hb); clear hb)
      | (go_at_call 31; refine (HBw.out _ _ _ _ HU2.out X (by have := HE1.out; simp; omega) HB2.out.size).mono ?_; rintro e w3 ⟨⟨v, rfl⟩, hu3, hb3⟩; have HU3 := Lib.hid hu3; have HB3 := Lib.hid (HB2.out.trans hb3); clear hu3 hb3))
    rw [List.nil_append] at HU3
    go_wp2_with fail
    go_loopw [7, 8, 19] (fun _ _ i wr => ∃ j : Nat, j ≤ n ∧ i = .int .i64 j ∧ Hid (BuAt w.heap.size w1.heap.size (X ++ wrsB (ws.take j)) wr) ∧ Hid (Below w.heap.size w wr)) (fun _ _ i _ => n - (intOf i).toNat)
    case atStart => exact ⟨0, Nat.zero_le _, rfl, Lib.hid (by rw [List.take_zero, show wrsB [] = [] from rfl, List.append_nil]; exact HU3.out), HB3⟩
    case round =>
      clear HU1 HU2 HU3 HB1a HB2 HB3
      obtain ⟨j, hj, rfl, HU, HB⟩ := hrel
      have hwz : w.heap.size ≤ wr.heap.size := HB.out.size
      by_cases hlt : j < n
      · have hkl : j < ws.length := by rw [HN.out]; exact hlt
        obtain ⟨bb, off, rfl, hbl, hcs⟩ := HW.out.at_ HB.out hkl
        obtain ⟨x0, x1, x2⟩ := hcs
        have hfk := (mayW_iff _).1 (HFt.out _ (List.getElem_mem hkl))
        have HT := Lib.hid (wrsB_take17 hkl)
        have hlj := HLb.out j
        obtain ⟨p, hp⟩ : ∃ p, ws[j] = p := ⟨_, rfl⟩
        rw [hp] at x0 x1 x2 hfk HT
        obtain ⟨v, bl, d⟩ := p
        unfold wrB at HT
        dsimp only at x0 x1 x2 hfk HT
        obtain ⟨vn, rfl⟩ := Int.eq_ofNat_of_zero_le (show 0 ≤ v by omega)
        obtain ⟨bn, rfl⟩ := Int.eq_ofNat_of_zero_le (show 0 ≤ bl by omega)
        rw [Int.toNat_natCast, Int.toNat_natCast] at HT
        have HTw := Lib.hid fun w H hH => HT8.out w H hH vn bn (by omega)
        have hds : d.data.toList.length = d.size := list_length d
        have htx : textE d.data.toList = 0 := textE_ok (by rw [hds]; omega)
        have HTx : Hid (∀ w, Calls Try.prog 40 #[.string d] w fun e w' => e = .returned (.tuple #[.string (str (enc 2 d.size ++ d.data.toList)), .int .i64 0]) ∧ Below w.heap.size w w') := Lib.hid (fun w => by
          have := Text_any d w (by unfold maxLen; omega)
          rw [textB_ok htx, htx, hds] at this
          exact this)
        have hle : (X ++ wrsB (ws.take j)).length ≤ 20000 := by
          rw [List.length_append, HE1.out]
          rw [List.length_take] at hlj
          omega
        have hel : (enc 1 vn ++ enc 1 bn).length = 2 := by rw [List.length_append, enc_length, enc_length]
        have hel2 : (enc 2 d.size ++ d.data.toList).length ≤ 10 := by rw [List.length_append, enc_length, hds]; omega
        have HT2 : Hid (X ++ wrsB (ws.take (j + 1)) = ((X ++ wrsB (ws.take j)) ++ (enc 1 vn ++ enc 1 bn)) ++ (enc 2 d.size ++ d.data.toList)) := Lib.hid (by rw [HT.out]; simp only [List.append_assoc])
        have hkn2 : (j : Int) < (n : Int) := by omega
        have hk0 : (0 : Int) ≤ (j : Int) := by omega
        obtain ⟨D, hD⟩ : ∃ D, X ++ wrsB (ws.take j) = D := ⟨_, rfl⟩
        rw [hD] at HU HT2 hle
        obtain ⟨Y, hY⟩ : ∃ Y, enc 1 vn ++ enc 1 bn = Y := ⟨_, rfl⟩
        rw [hY] at HTw HT2 hel
        obtain ⟨Z, hZ⟩ : ∃ Z, enc 2 d.size ++ d.data.toList = Z := ⟨_, rfl⟩
        rw [hZ] at HTx HT2 hel2
        have hdy : (D ++ Y).length ≤ 20002 := by rw [List.length_append]; omega
        have K1 := Lib.hid (below_one wr (.cells #[.int .i64 (vn : Int), .int .i64 (bn : Int), .string d] 65))
        have K2 := Lib.hid (heap_new wr (.cells #[.int .i64 (vn : Int), .int .i64 (bn : Int), .string d] 65))
        have HU4 := Lib.hid (HU.out.below K1.out)
        have HB4 := Lib.hid (below_next HB.out K1.out)
        have hsz : (wr.alloc (.cells #[.int .i64 (vn : Int), .int .i64 (bn : Int), .string d] 65)).heap.size = wr.heap.size + 1 := by simp
        have HSz := Lib.hid hsz
        clear hp hkl hD hY hZ HT hds htx hsz
        go_upto_region 9 with (go_at_call 40; (with_reducible refine (HTx.out _).mono ?_); rintro e w5 ⟨rfl, hb⟩; have HB5 := Lib.hid (below_next HB4.out hb); have HU5 := Lib.hid (HU4.out.below hb); have HC5 := Lib.hid ((hb.block wr.heap.size (by rw [HSz.out]; omega)).trans K2.out); clear hb)
        have y0 : w5.cell? ⟨wr.heap.size, 0, none⟩ = some (.int .i64 (vn : Int)) := by rw [Lib.cell_of_heap HC5.out]; rfl
        have y1 : w5.cell? ⟨wr.heap.size, 1, none⟩ = some (.int .i64 (bn : Int)) := by rw [Lib.cell_of_heap HC5.out]; rfl
        go_upto_region 10 with (first
          | (go_at_call 32; (with_reducible refine (HTw.out _ _ (by simp)).mono ?_); rintro e w6 ⟨rfl, hb⟩; have HB6 := Lib.hid (below_next HB5.out hb); have HU6 := Lib.hid (HU5.out.below hb); clear hb)
          | (go_at_call 31; refine (HBw.out _ _ _ _ HU6.out Y (by omega) HB6.out.size).mono ?_; rintro e w7 ⟨⟨v, rfl⟩, hu3, hb3⟩; have HU7 := Lib.hid hu3; have HB7 := Lib.hid (HB6.out.trans hb3); clear hu3 hb3))
        clear y0 y1
        go_wp2_with (go_at_call 31; refine (HBw.out _ _ _ _ HU7.out Z (by omega) HB7.out.size).mono ?_; rintro e w8 ⟨⟨v, rfl⟩, hu3, hb3⟩; have HU8 := Lib.hid hu3; have HB8 := Lib.hid (HB7.out.trans hb3); clear hu3 hb3)
        go_roundw
        case rel => exact ⟨j + 1, by omega, by go_num, Lib.hid (by rw [HT2.out]; exact HU8.out), HB8⟩
        case measure => simp [intOf]; omega
      · obtain rfl : j = n := by omega
        have hkn2 : ¬ (j : Int) < (j : Int) := by omega
        rw [← HLn.out] at HU
        have HS := Lib.hid (bu_string HU.out hwz)
        go_wp2_with (go_at_call 33; refine (HS.out).mono ?_; rintro e w2 ⟨rfl, hb2⟩; have HB2 := Lib.hid (HB.out.trans hb2); clear hb2)
        go_ret2
        exact ⟨rfl, HB2.out⟩
end Go.Proofs.Ytkpoeigoocbgeaa
