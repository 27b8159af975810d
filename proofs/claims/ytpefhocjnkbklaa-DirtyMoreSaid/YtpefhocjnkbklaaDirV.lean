/- Bitmaps as bytes: the contract of the document's Parse. -/
import Derived.Test.YtpefhocjnkbklaaDirU
import Derived.Deep.RegionLaw
import Derived.Deep.RegionHeld3
namespace Go.Proofs.Ytpefhocjnkbklaa
open Go.RowKit

/-- Five bytes as an element, byte by byte. -/
theorem bt_at (s : ByteArray) (k : Nat) (h : k < s.size) : PlainAid.bt s k = (((s.data.toList[k]'(by rw [list_length]; exact h)).toNat : Nat) : Int) := by
  rw [← PlainAid.get_bt s k h]; rfl
theorem eltOf_five (r : List UInt8) (p : ByteArray) (hp : p = str (r.take 5)) (hr : 5 ≤ r.length) : p.size = 5 ∧ (eltOf r).vol = PlainAid.bt p 0 ∧ (eltOf r).mask = PlainAid.bt p 1 * 16777216 + PlainAid.bt p 2 * 65536 + PlainAid.bt p 3 * 256 + PlainAid.bt p 4 := by
  subst hp
  have hs : (str (r.take 5)).size = 5 := by rw [str_size, List.length_take]; omega
  match r, hr with
  | c0 :: c1 :: c2 :: c3 :: c4 :: r', _ =>
    refine ⟨hs, ?_, ?_⟩
    · rw [bt_at _ _ (by rw [hs]; omega)]
      simp [eltOf, str_list, dec_head, dec_nil]
    · rw [bt_at _ _ (by rw [hs]; omega), bt_at _ _ (by rw [hs]; omega), bt_at _ _ (by rw [hs]; omega), bt_at _ _ (by rw [hs]; omega)]
      simp [eltOf, str_list, dec_head, dec_nil]
      omega
theorem parN_bt (l : List UInt8) (h : l.length ≠ 0) : PlainAid.bt (str l) 0 = (parN l : Int) := by
  rw [bt_at _ _ (by rw [str_size]; omega)]
  match l, h with
  | c :: r, _ => simp [parN, str_list, dec_head, dec_nil]
theorem extract_five (l : List UInt8) (k : Nat) : (str l).extract (1 + 5 * k) (6 + 5 * k) = str ((l.drop (1 + k * 5)).take 5) := by
  apply ByteArray.ext
  apply Array.toList_inj.1
  show ((str l).extract _ _).data.toList = (l.drop (1 + k * 5)).take 5
  rw [show ((str l).extract (1 + 5 * k) (6 + 5 * k)).data.toList = ((str l).data.toList.drop (1 + 5 * k)).take (6 + 5 * k - (1 + 5 * k)) from by simp [ByteArray.data_extract], str_list]
  rw [show 6 + 5 * k - (1 + 5 * k) = 5 from by omega, Nat.mul_comm 5 k]

set_option maxHeartbeats 4000000 in
set_option maxRecDepth 100000 in
theorem DocParse_any (l : List UInt8) (w : World) (hm : l.length ≤ 9223372036854775807) :
    Calls Try.prog 35 #[.string (str l)] w fun e w' => ∃ A c, e = .returned (.tuple #[.slice A (parM l).length c, .string (str (parR l)), .int .i64 (parE l)]) ∧ BtsAt w' w'.heap.size A (parM l) ∧ Below w.heap.size w w' := by
  by_cases h0 : l.length = 0
  · obtain ⟨q1, q2, q3⟩ := parE_none h0
    rw [q1, q2, q3]
    have hs : ((str l).size : Int) = 0 := by rw [str_size]; omega
    have hs2 : (((str l).size : Int) == 0) = true := by rw [beq_iff_eq]; exact hs
    generalize str l = S at *
    clear h0
    go_enter Try.func35, Try.ntmps35
    go_wp2_with fail
    go_ret3
    exact ⟨none, 0, rfl, .inl rfl, Below.refl _ _⟩
  · have hs1 : ((str l).size : Int) = (l.length : Int) := by rw [str_size]
    have hbt := PlainAid.get_bt (str l)
    have hpn := parN_bt l h0
    obtain ⟨n, hn⟩ : ∃ n, parN l = n := ⟨_, rfl⟩
    have hn8 : n < 256 := by rw [← hn]; exact dec_one_lt l
    rw [hn] at hpn
    obtain ⟨L, hL⟩ : ∃ L : Nat, l.length = L := ⟨_, rfl⟩
    rw [hL] at hs1
    have hs2 : (((str l).size : Int) == 0) = false := by rw [beq_eq_false_iff_ne, hs1]; omega
    have hx0 : 0 < (str l).size := by omega
    have hm2 : L ≤ 9223372036854775807 := by omega
    have hL0 : 1 ≤ L := by omega
    by_cases hsh : L - 1 < 5 * n
    · obtain ⟨q1, q2, q3⟩ := parE_short (l := l) (by rw [hn, hL]; exact hsh)
      rw [q1, q2, q3]
      have hw1 : IntKind.i64.wrap (5 * (n : Int)) = 5 * (n : Int) := by rw [IntKind.wrap_i64]; omega
      have hw2 : IntKind.i64.wrap ((L : Int) - 1) = (L : Int) - 1 := by rw [IntKind.wrap_i64]; omega
      have hlt : (L : Int) - 1 < 5 * (n : Int) := by omega
      have hlt2 : decide ((L : Int) - 1 < 5 * (n : Int)) = true := by rw [decide_eq_true_iff]; exact hlt
      generalize str l = S at *
      clear h0 hm q1 q2 q3
      go_enter Try.func35, Try.ntmps35
      go_wp2_with fail
      go_ret3
      exact ⟨none, 0, rfl, .inl rfl, Below.refl _ _⟩
    · have hw1 : IntKind.i64.wrap (5 * (n : Int)) = 5 * (n : Int) := by rw [IntKind.wrap_i64]; omega
      have hw2 : IntKind.i64.wrap ((L : Int) - 1) = (L : Int) - 1 := by rw [IntKind.wrap_i64]; omega
      have hlt2 : decide ((L : Int) - 1 < 5 * (n : Int)) = false := by rw [decide_eq_false_iff_not]; omega
      have HEl : Hid (∀ k, k < n → ∃ p : ByteArray, (str l).extract (1 + 5 * k) (6 + 5 * k) = p ∧ p.size = 5 ∧ (parseN n (l.drop 1))[k]? = some ⟨PlainAid.bt p 0, PlainAid.bt p 1 * 16777216 + PlainAid.bt p 2 * 65536 + PlainAid.bt p 3 * 256 + PlainAid.bt p 4⟩) := Lib.hid fun k hk => by
        refine ⟨_, rfl, ?_⟩
        obtain ⟨e1, e2, e3⟩ := eltOf_five (l.drop (1 + k * 5)) _ (extract_five l k) (by rw [List.length_drop]; omega)
        refine ⟨e1, ?_⟩
        rw [parseN_at hk, List.drop_drop]
        congr 1
        exact Bt.ext_ e2 e3
      have HPl := Lib.hid (parseN_length n (l.drop 1))
      have HPf : Hid (BtsFit (parseN n (l.drop 1))) := Lib.hid ⟨by rw [parseN_length]; omega, fun b hb => by
        obtain ⟨k, hk, rfl⟩ := List.getElem_of_mem hb
        have hk2 : k < n := by rw [parseN_length] at hk; exact hk
        obtain ⟨p, _, _, e⟩ := HEl.out k hk2
        rw [List.getElem?_eq_getElem hk] at e
        have e2 := Option.some.inj e
        rw [e2]
        simp only
        have a1 := PlainAid.bt_nonneg p 1; have a2 := PlainAid.bt_nonneg p 2; have a3 := PlainAid.bt_nonneg p 3; have a4 := PlainAid.bt_nonneg p 4
        have d1 := PlainAid.bt_le p 1; have d2 := PlainAid.bt_le p 2; have d3 := PlainAid.bt_le p 3; have d4 := PlainAid.bt_le p 4
        omega⟩
      have HF : Hid (bitsOk (parseN n (l.drop 1)) = false → parE l = 3 ∧ parM l = [] ∧ parR l = []) := Lib.hid fun hb => parE_form h0 (by rw [hn, hL]; exact hsh) (by rw [hn]; exact hb)
      have HG : Hid (bitsOk (parseN n (l.drop 1)) = true → parE l = 0 ∧ parM l = parseN n (l.drop 1) ∧ str (parR l) = (str l).extract (1 + 5 * n) (str l).size) := Lib.hid fun hb => by
        obtain ⟨g1, g2, g3⟩ := parE_ok h0 (by rw [hn, hL]; exact hsh) (by rw [hn]; exact hb)
        rw [g1, g2, g3, hn, extract_drop_str, str_list]
        exact ⟨rfl, rfl, rfl⟩
      generalize parseN n (l.drop 1) = P at *
      generalize hS : str l = S at *
      have HSl := Lib.hid hS
      obtain ⟨i0, hi0, hz0, hz1, hz2⟩ := info_parts Try.infoBt
      have hs3 : ((L : Int) == 0) = false := by rw [beq_eq_false_iff_ne]; omega
      clear h0 hm hS hn hL hs2
      go_enter Try.func35, Try.ntmps35
      go_wp2_with fail
      go_loopg [5, 6] n (fun kx s5 s6 wr => ∃ k : Nat, s6 = .int .i64 k ∧ k ≤ n ∧ n - k ≤ kx ∧ Hid (wr.ownsRow w.heap.size 66 2 s5 k (btCells (P.take k))) ∧ Hid (Below w.heap.size w wr))
      case atStart => exact ⟨0, rfl, Nat.zero_le _, by omega, Lib.hid (World.ownsRow_nil _ _ _ _), Lib.hid (Below.refl _ _)⟩
      case round =>
        obtain ⟨k, rfl, hk, hkx, HO, HB⟩ := hrel
        obtain ⟨A4, c4, h4, hxx⟩ := own_lies HO.out
        clear hxx
        subst h4
        by_cases hlt : k < n
        · have hltz : (k : Int) < (n : Int) := by omega
          have hk0 : (0 : Int) ≤ (k : Int) := Int.natCast_nonneg _
          obtain ⟨p, hp, hp5, hpe⟩ := HEl.out k hlt
          have HPe := Lib.hid hpe
          have hwa : IntKind.i64.wrap (5 * (k : Int)) = 5 * (k : Int) := by rw [IntKind.wrap_i64]; omega
          have hwb : IntKind.i64.wrap (1 + 5 * (k : Int)) = 1 + 5 * (k : Int) := by rw [IntKind.wrap_i64]; omega
          have hwc : IntKind.i64.wrap (6 + 5 * (k : Int)) = 6 + 5 * (k : Int) := by rw [IntKind.wrap_i64]; omega
          have hta : (1 + 5 * (k : Int)).toNat = 1 + 5 * k := by omega
          have htb : (6 + 5 * (k : Int)).toNat = 6 + 5 * k := by omega
          have hna : (0 : Int) ≤ 1 + 5 * (k : Int) := by omega
          have hnb : (1 : Int) + 5 * (k : Int) ≤ 6 + 5 * (k : Int) := by omega
          have hnc : (6 : Int) + 5 * (k : Int) ≤ (L : Int) := by omega
          clear hpe
          go_wp2_with fail
          clear hwa hwb hwc hta htb hna hnb hnc hp hs1 hs3 hx0 hpn hbt hw1 hw2 hlt2
          have hbp := PlainAid.get_bt p
          have j0 : 0 < p.size := by omega
          have j1 : 1 < p.size := by omega
          have j2 : 2 < p.size := by omega
          have j3 : 3 < p.size := by omega
          have j4 : 4 < p.size := by omega
          have a0 := PlainAid.bt_nonneg p 0; have a1 := PlainAid.bt_nonneg p 1; have a2 := PlainAid.bt_nonneg p 2; have a3 := PlainAid.bt_nonneg p 3; have a4 := PlainAid.bt_nonneg p 4
          have d0 := PlainAid.bt_le p 0; have d1 := PlainAid.bt_le p 1; have d2 := PlainAid.bt_le p 2; have d3 := PlainAid.bt_le p 3; have d4 := PlainAid.bt_le p 4
          have hc0 : IntKind.i64.wrap (PlainAid.bt p 0) = PlainAid.bt p 0 := by rw [IntKind.wrap_i64]; omega
          have hc1 : IntKind.u64.wrap (PlainAid.bt p 1) = PlainAid.bt p 1 := by rw [IntKind.wrap_u64]; omega
          have hc2 : IntKind.u64.wrap (PlainAid.bt p 2) = PlainAid.bt p 2 := by rw [IntKind.wrap_u64]; omega
          have hc3 : IntKind.u64.wrap (PlainAid.bt p 3) = PlainAid.bt p 3 := by rw [IntKind.wrap_u64]; omega
          have hc4 : IntKind.u64.wrap (PlainAid.bt p 4) = PlainAid.bt p 4 := by rw [IntKind.wrap_u64]; omega
          obtain ⟨x1, hx1⟩ : ∃ x, PlainAid.bt p 1 * 16777216 = x := ⟨_, rfl⟩
          obtain ⟨x2, hx2⟩ : ∃ x, PlainAid.bt p 2 * 65536 = x := ⟨_, rfl⟩
          obtain ⟨x3, hx3⟩ : ∃ x, x1 + x2 = x := ⟨_, rfl⟩
          obtain ⟨x4, hx4⟩ : ∃ x, PlainAid.bt p 3 * 256 = x := ⟨_, rfl⟩
          obtain ⟨x5, hx5⟩ : ∃ x, x3 + x4 = x := ⟨_, rfl⟩
          obtain ⟨U, hU⟩ : ∃ x, x5 + PlainAid.bt p 4 = x := ⟨_, rfl⟩
          have g1 : IntKind.u64.wrap (PlainAid.bt p 1 * 16777216) = x1 := by rw [IntKind.wrap_u64]; omega
          have g2 : IntKind.u64.wrap (PlainAid.bt p 2 * 65536) = x2 := by rw [IntKind.wrap_u64]; omega
          have g3 : IntKind.u64.wrap (x1 + x2) = x3 := by rw [IntKind.wrap_u64]; omega
          have g4 : IntKind.u64.wrap (PlainAid.bt p 3 * 256) = x4 := by rw [IntKind.wrap_u64]; omega
          have g5 : IntKind.u64.wrap (x3 + x4) = x5 := by rw [IntKind.wrap_u64]; omega
          have g6 : IntKind.u64.wrap (x5 + PlainAid.bt p 4) = U := by rw [IntKind.wrap_u64]; omega
          rw [hx1, hx2, hx3, hx4, hx5, hU] at HPe
          have HPt : Hid (P.take (k + 1) = P.take k ++ [⟨PlainAid.bt p 0, U⟩]) := Lib.hid (by
            have hkP : k < P.length := by rw [HPl.out]; exact hlt
            have e := HPe.out
            rw [List.getElem?_eq_getElem hkP] at e
            rw [List.take_succ_eq_append_getElem hkP, Option.some.inj e])
          clear hx1 hx2 hx3 hx4 hx5 hU HPe
          have hwz : w.heap.size ≤ wr.heap.size := HB.out.size
          clear HF HG HEl HSl HPf HPl hm2 hL0 hsh a0 a1 a2 a3 a4 d0 d1 d2 d3 d4
          have hp5z : (p.size : Int) = 5 := by omega
          refine wp_region_held_drew (S := fun _ => True) (by kernel_rfl) trivial (fun hHeld => ?_)
          refine wpAnyH_take (i := 0) (oi := ⟨some 36, .move (.tmp 5), 22, "ref.go:139", #[], none⟩) (v := .slice A4 k c4) rfl (by kernel_rfl) (by kernel_rfl) (by kernel_rfl) (fun _ _ _ h => h) (Or.inl ⟨by rfl, fun w _ => by go_simp⟩) hHeld ?_
          try simp only [Act.put, List.setIfInBounds_toArray, List.set_cons_zero, List.set_cons_succ]
          refine wpAnyH_take (i := 1) (oi := ⟨some 37, .move (.tmp 7), 9, "ref.go:139", #[], none⟩) (v := .string p) rfl (by kernel_rfl) (by kernel_rfl) (by kernel_rfl) (fun _ _ _ h => h) (Or.inl ⟨by rfl, fun w _ => by go_simp⟩) hHeld ?_
          try simp only [Act.put, List.setIfInBounds_toArray, List.set_cons_zero, List.set_cons_succ]
          refine wpAnyH_take (i := 2) (oi := ⟨some 38, .index 9 (.tmp 37) (.const (.int .i64 0)), 5, "ref.go:139", #[⟨1, .data⟩], none⟩) (v := .int .u8 (PlainAid.bt p 0)) rfl (by kernel_rfl) (by kernel_rfl) (by kernel_rfl) (fun _ _ _ h => h) (Or.inl ⟨by rfl, fun w _ => by go_simp⟩) hHeld ?_
          try simp only [Act.put, List.setIfInBounds_toArray, List.set_cons_zero, List.set_cons_succ]
          refine wpAnyH_take (i := 3) (oi := ⟨some 39, .convert 5 3 (.tmp 38), 3, "ref.go:139", #[⟨2, .data⟩], none⟩) (v := .int .i64 (PlainAid.bt p 0)) rfl (by kernel_rfl) (by kernel_rfl) (by kernel_rfl) (fun _ _ _ h => h) (Or.inl ⟨by rfl, fun w _ => by go_simp⟩) hHeld ?_
          try simp only [Act.put, List.setIfInBounds_toArray, List.set_cons_zero, List.set_cons_succ]
          refine wpAnyH_take (i := 4) (oi := ⟨some 40, .move (.tmp 7), 9, "ref.go:139", #[], none⟩) (v := .string p) rfl (by kernel_rfl) (by kernel_rfl) (by kernel_rfl) (fun _ _ _ h => h) (Or.inl ⟨by rfl, fun w _ => by go_simp⟩) hHeld ?_
          try simp only [Act.put, List.setIfInBounds_toArray, List.set_cons_zero, List.set_cons_succ]
          refine wpAnyH_take (i := 5) (oi := ⟨some 41, .index 9 (.tmp 40) (.const (.int .i64 1)), 5, "ref.go:139", #[⟨4, .data⟩], none⟩) (v := .int .u8 (PlainAid.bt p 1)) rfl (by kernel_rfl) (by kernel_rfl) (by kernel_rfl) (fun _ _ _ h => h) (Or.inl ⟨by rfl, fun w _ => by go_simp⟩) hHeld ?_
          try simp only [Act.put, List.setIfInBounds_toArray, List.set_cons_zero, List.set_cons_succ]
          refine wpAnyH_take (i := 6) (oi := ⟨some 42, .convert 5 64 (.tmp 41), 64, "ref.go:139", #[⟨5, .data⟩], none⟩) (v := .int .u64 (PlainAid.bt p 1)) rfl (by kernel_rfl) (by kernel_rfl) (by kernel_rfl) (fun _ _ _ h => h) (Or.inl ⟨by rfl, fun w _ => by go_simp⟩) hHeld ?_
          try simp only [Act.put, List.setIfInBounds_toArray, List.set_cons_zero, List.set_cons_succ]
          refine wpAnyH_take (i := 7) (oi := ⟨some 43, .binOp .mul 64 (.tmp 42) (.const (.int .u64 16777216)) 64, 64, "ref.go:139", #[⟨6, .data⟩], none⟩) (v := .int .u64 x1) rfl (by kernel_rfl) (by kernel_rfl) (by kernel_rfl) (fun _ _ _ h => h) (Or.inl ⟨by rfl, fun w _ => by go_simp⟩) hHeld ?_
          try simp only [Act.put, List.setIfInBounds_toArray, List.set_cons_zero, List.set_cons_succ]
          refine wpAnyH_take (i := 8) (oi := ⟨some 44, .move (.tmp 7), 9, "ref.go:139", #[], none⟩) (v := .string p) rfl (by kernel_rfl) (by kernel_rfl) (by kernel_rfl) (fun _ _ _ h => h) (Or.inl ⟨by rfl, fun w _ => by go_simp⟩) hHeld ?_
          try simp only [Act.put, List.setIfInBounds_toArray, List.set_cons_zero, List.set_cons_succ]
          refine wpAnyH_take (i := 9) (oi := ⟨some 45, .index 9 (.tmp 44) (.const (.int .i64 2)), 5, "ref.go:139", #[⟨8, .data⟩], none⟩) (v := .int .u8 (PlainAid.bt p 2)) rfl (by kernel_rfl) (by kernel_rfl) (by kernel_rfl) (fun _ _ _ h => h) (Or.inl ⟨by rfl, fun w _ => by go_simp⟩) hHeld ?_
          try simp only [Act.put, List.setIfInBounds_toArray, List.set_cons_zero, List.set_cons_succ]
          refine wpAnyH_take (i := 10) (oi := ⟨some 46, .convert 5 64 (.tmp 45), 64, "ref.go:139", #[⟨9, .data⟩], none⟩) (v := .int .u64 (PlainAid.bt p 2)) rfl (by kernel_rfl) (by kernel_rfl) (by kernel_rfl) (fun _ _ _ h => h) (Or.inl ⟨by rfl, fun w _ => by go_simp⟩) hHeld ?_
          try simp only [Act.put, List.setIfInBounds_toArray, List.set_cons_zero, List.set_cons_succ]
          refine wpAnyH_take (i := 11) (oi := ⟨some 47, .binOp .mul 64 (.tmp 46) (.const (.int .u64 65536)) 64, 64, "ref.go:139", #[⟨10, .data⟩], none⟩) (v := .int .u64 x2) rfl (by kernel_rfl) (by kernel_rfl) (by kernel_rfl) (fun _ _ _ h => h) (Or.inl ⟨by rfl, fun w _ => by go_simp⟩) hHeld ?_
          try simp only [Act.put, List.setIfInBounds_toArray, List.set_cons_zero, List.set_cons_succ]
          refine wpAnyH_take (i := 12) (oi := ⟨some 48, .binOp .add 64 (.tmp 43) (.tmp 47) 64, 64, "ref.go:139", #[⟨7, .data⟩, ⟨11, .data⟩], none⟩) (v := .int .u64 x3) rfl (by kernel_rfl) (by kernel_rfl) (by kernel_rfl) (fun _ _ _ h => h) (Or.inl ⟨by rfl, fun w _ => by go_simp⟩) hHeld ?_
          try simp only [Act.put, List.setIfInBounds_toArray, List.set_cons_zero, List.set_cons_succ]
          refine wpAnyH_take (i := 13) (oi := ⟨some 49, .move (.tmp 7), 9, "ref.go:139", #[], none⟩) (v := .string p) rfl (by kernel_rfl) (by kernel_rfl) (by kernel_rfl) (fun _ _ _ h => h) (Or.inl ⟨by rfl, fun w _ => by go_simp⟩) hHeld ?_
          try simp only [Act.put, List.setIfInBounds_toArray, List.set_cons_zero, List.set_cons_succ]
          refine wpAnyH_take (i := 14) (oi := ⟨some 50, .index 9 (.tmp 49) (.const (.int .i64 3)), 5, "ref.go:139", #[⟨13, .data⟩], none⟩) (v := .int .u8 (PlainAid.bt p 3)) rfl (by kernel_rfl) (by kernel_rfl) (by kernel_rfl) (fun _ _ _ h => h) (Or.inl ⟨by rfl, fun w _ => by go_simp⟩) hHeld ?_
          try simp only [Act.put, List.setIfInBounds_toArray, List.set_cons_zero, List.set_cons_succ]
          refine wpAnyH_take (i := 15) (oi := ⟨some 51, .convert 5 64 (.tmp 50), 64, "ref.go:139", #[⟨14, .data⟩], none⟩) (v := .int .u64 (PlainAid.bt p 3)) rfl (by kernel_rfl) (by kernel_rfl) (by kernel_rfl) (fun _ _ _ h => h) (Or.inl ⟨by rfl, fun w _ => by go_simp⟩) hHeld ?_
          try simp only [Act.put, List.setIfInBounds_toArray, List.set_cons_zero, List.set_cons_succ]
          refine wpAnyH_take (i := 16) (oi := ⟨some 52, .binOp .mul 64 (.tmp 51) (.const (.int .u64 256)) 64, 64, "ref.go:139", #[⟨15, .data⟩], none⟩) (v := .int .u64 x4) rfl (by kernel_rfl) (by kernel_rfl) (by kernel_rfl) (fun _ _ _ h => h) (Or.inl ⟨by rfl, fun w _ => by go_simp⟩) hHeld ?_
          try simp only [Act.put, List.setIfInBounds_toArray, List.set_cons_zero, List.set_cons_succ]
          refine wpAnyH_take (i := 17) (oi := ⟨some 53, .binOp .add 64 (.tmp 48) (.tmp 52) 64, 64, "ref.go:139", #[⟨12, .data⟩, ⟨16, .data⟩], none⟩) (v := .int .u64 x5) rfl (by kernel_rfl) (by kernel_rfl) (by kernel_rfl) (fun _ _ _ h => h) (Or.inl ⟨by rfl, fun w _ => by go_simp⟩) hHeld ?_
          try simp only [Act.put, List.setIfInBounds_toArray, List.set_cons_zero, List.set_cons_succ]
          refine wpAnyH_take (i := 18) (oi := ⟨some 54, .move (.tmp 7), 9, "ref.go:139", #[], none⟩) (v := .string p) rfl (by kernel_rfl) (by kernel_rfl) (by kernel_rfl) (fun _ _ _ h => h) (Or.inl ⟨by rfl, fun w _ => by go_simp⟩) hHeld ?_
          try simp only [Act.put, List.setIfInBounds_toArray, List.set_cons_zero, List.set_cons_succ]
          refine wpAnyH_take (i := 19) (oi := ⟨some 55, .index 9 (.tmp 54) (.const (.int .i64 4)), 5, "ref.go:139", #[⟨18, .data⟩], none⟩) (v := .int .u8 (PlainAid.bt p 4)) rfl (by kernel_rfl) (by kernel_rfl) (by kernel_rfl) (fun _ _ _ h => h) (Or.inl ⟨by rfl, fun w _ => by go_simp⟩) hHeld ?_
          try simp only [Act.put, List.setIfInBounds_toArray, List.set_cons_zero, List.set_cons_succ]
          refine wpAnyH_take (i := 20) (oi := ⟨some 56, .convert 5 64 (.tmp 55), 64, "ref.go:139", #[⟨19, .data⟩], none⟩) (v := .int .u64 (PlainAid.bt p 4)) rfl (by kernel_rfl) (by kernel_rfl) (by kernel_rfl) (fun _ _ _ h => h) (Or.inl ⟨by rfl, fun w _ => by go_simp⟩) hHeld ?_
          try simp only [Act.put, List.setIfInBounds_toArray, List.set_cons_zero, List.set_cons_succ]
          refine wpAnyH_take (i := 21) (oi := ⟨some 57, .binOp .add 64 (.tmp 53) (.tmp 56) 64, 64, "ref.go:139", #[⟨17, .data⟩, ⟨20, .data⟩], none⟩) (v := .int .u64 U) rfl (by kernel_rfl) (by kernel_rfl) (by kernel_rfl) (fun _ _ _ h => h) (Or.inl ⟨by rfl, fun w _ => by go_simp⟩) hHeld ?_
          try simp only [Act.put, List.setIfInBounds_toArray, List.set_cons_zero, List.set_cons_succ]
          refine wpAnyH_take (i := 22) (oi := ⟨some 58, .build 66 #[(0, .tmp 39), (1, .tmp 57)], 66, "ref.go:139", #[⟨3, .data⟩, ⟨21, .data⟩], none⟩) (v := .agg #[.int .i64 (PlainAid.bt p 0), .int .u64 U]) rfl (by kernel_rfl) (by kernel_rfl) (by kernel_rfl) (fun _ _ _ h => h) (Or.inl ⟨by rfl, fun w _ => by go_simp⟩) hHeld ?_
          try simp only [Act.put, List.setIfInBounds_toArray, List.set_cons_zero, List.set_cons_succ]
          refine wpAnyH_ready (rs := [23]) (by kernel_rfl) (by simp) ?_
          refine AllReadyH.cons (o := ⟨some 59, .buildSlice 22 1 #[(0, .tmp 58)], 22, "ref.go:139", #[⟨22, .data⟩], none⟩) rfl (fun K hK => ?_) AllReadyH.nil
          rw [if_pos (by rfl)]
          go_simp
          refine hK.out _ _ trivial (fun hHeld2 => ?_)
          clear hK K
          try simp only [Act.put, List.setIfInBounds_toArray, List.set_cons_zero, List.set_cons_succ]
          have hownd : (wr.alloc (.cells #[.int .i64 (PlainAid.bt p 0), .int .u64 U] 66)).drew.ownsRow w.heap.size 66 2 (.slice A4 k c4) k (btCells (P.take k)) := (HO.out.alloc _).drew
          have hnewd : ∀ j u, [Value.int .i64 (PlainAid.bt p 0), Value.int .u64 U][j]? = some u → (wr.alloc (.cells #[.int .i64 (PlainAid.bt p 0), .int .u64 U] 66)).drew.cell? ((⟨wr.heap.size, 0, none⟩ : Addr).add j) = some u := cell_two_new wr (.int .i64 (PlainAid.bt p 0)) (.int .u64 U) 66
          have hszd : (wr.alloc (.cells #[.int .i64 (PlainAid.bt p 0), .int .u64 U] 66)).drew.heap.size = wr.heap.size + 1 := by rw [drew_size]; simp
          have hbd : Below w.heap.size w (wr.alloc (.cells #[.int .i64 (PlainAid.bt p 0), .int .u64 U] 66)).drew := (HB.out.alloc hwz _).drew
          generalize (wr.alloc (.cells #[.int .i64 (PlainAid.bt p 0), .int .u64 U] 66)).drew = W2 at *
          refine wpAnyH_ready (rs := [24]) (by kernel_rfl) (by simp) ?_
          refine AllReadyH.cons (o := ⟨some 60, .call { callee := .builtin .append, args := #[.tmp 36, .tmp 59], argTypes := #[22, 22] }, 22, "ref.go:139", #[⟨0, .data⟩, ⟨23, .data⟩], none⟩) rfl (fun K hK => ?_) AllReadyH.nil
          refine step_append_lies _ (by rfl) _ _ _ (by rfl) w.heap.size 66 i0 (.agg #[.int .i64 0, .int .u64 0]) 2 16 Try.underlying22 hi0 hz0 hz1 hz2 rfl (by decide) (.slice A4 k c4) k _ (by rfl) hownd ⟨wr.heap.size, 0, none⟩ 1 1 [.int .i64 (PlainAid.bt p 0), .int .u64 U] (by rfl) (by rfl) hnewd (by simp [Value.oneCell']) (by omega) (by unfold maxLen; omega) (by omega) (by omega) (wr.heap.size + 1) hszd ?_
          intro g cap w6 hown hg hat hltg
          refine hK.out _ _ trivial (fun hHeld3 => ?_)
          clear hK K
          try simp only [Act.put, List.setIfInBounds_toArray, List.set_cons_zero, List.set_cons_succ]
          refine wpAnyH_take (i := 25) (oi := ⟨some 5, .assign (.tmp 60), 22, "ref.go:139", #[⟨24, .data⟩, ⟨24, .chain⟩, ⟨0, .phase⟩, ⟨1, .phase⟩, ⟨2, .phase⟩, ⟨3, .phase⟩, ⟨4, .phase⟩, ⟨5, .phase⟩, ⟨6, .phase⟩, ⟨7, .phase⟩, ⟨8, .phase⟩, ⟨9, .phase⟩, ⟨10, .phase⟩, ⟨11, .phase⟩, ⟨12, .phase⟩, ⟨13, .phase⟩, ⟨14, .phase⟩, ⟨15, .phase⟩, ⟨16, .phase⟩, ⟨17, .phase⟩, ⟨18, .phase⟩, ⟨19, .phase⟩, ⟨20, .phase⟩, ⟨21, .phase⟩, ⟨22, .phase⟩, ⟨23, .phase⟩, ⟨24, .phase⟩], none⟩) (v := .slice (some ⟨g, 0, none⟩) (k + 1) cap) rfl (by kernel_rfl) (by kernel_rfl) (by kernel_rfl) (fun _ _ _ h => h) (Or.inl ⟨by rfl, fun w _ => by go_simp⟩) hHeld3 ?_
          try simp only [Act.put, List.setIfInBounds_toArray, List.set_cons_zero, List.set_cons_succ]
          refine wpAnyH_done (by kernel_rfl) ?_ _
          have HO6 : Hid (w6.ownsRow w.heap.size 66 2 (.slice (some ⟨g, 0, none⟩) (k + 1) cap) (k + 1) (btCells (P.take (k + 1)))) := Lib.hid (by rw [HPt.out, btCells_append]; exact hown)
          have HB6 : Hid (Below w.heap.size w w6) := Lib.hid (hbd.grown hg (by omega) (fun q hq => (hownd.lt q hq).1))
          clear hown hg hat hltg g1 g2 g3 g4 g5 g6 hc0 hc1 hc2 hc3 hc4 j0 j1 j2 j3 j4 hbp hownd hnewd hszd hbd
          go_wp2_with fail
          go_roundg (n - (k + 1))
          case measure => omega
          case rel => exact ⟨k + 1, by go_num, by omega, Nat.le_refl _, HO6, HB6⟩
        · have hltz : ¬ (k : Int) < (n : Int) := by omega
          have hke : k = n := by omega
          subst hke
          have HO2 : Hid (wr.ownsRow w.heap.size 66 2 (.slice A4 k c4) k (btCells P)) := Lib.hid (by
            have h := HO.out
            rw [List.take_of_length_le (by rw [HPl.out]; exact Nat.le_refl _)] at h
            exact h)
          have HAt : Hid (BtsAt wr wr.heap.size A4 P) := Lib.hid (by
            obtain ⟨A9, c9, h9, _, hl9⟩ := own_lies HO2.out
            simp only [Value.slice.injEq] at h9
            obtain ⟨rfl, _, rfl⟩ := h9
            exact BtsAt.of_lies hl9)
          cases hr : bitsOk P with
          | false =>
            have HRt : Hid (∀ c, Calls Try.prog 11 #[.slice A4 k c] wr fun e w' => e = .returned (.bool false) ∧ Below wr.heap.size wr w') := Lib.hid fun c => by
              have := DocRight_any (c := c) HAt.out HPf.out.1
              rw [HPl.out, hr] at this
              exact this
            have HQ := Lib.hid (HF.out hr)
            clear hr
            go_wp2_with fail
            refine (HRt.out _).mono ?_
            rintro e w4 ⟨rfl, hb4⟩
            replace hb4 := Lib.hid (below_next HB.out hb4)
            go_wp2_with fail
            go_ret3
            rw [HQ.out.1, HQ.out.2.1, HQ.out.2.2]
            exact ⟨none, 0, rfl, .inl rfl, hb4.out⟩
          | true =>
            have HRt : Hid (∀ c, Calls Try.prog 11 #[.slice A4 k c] wr fun e w' => e = .returned (.bool true) ∧ Below wr.heap.size wr w') := Lib.hid fun c => by
              have := DocRight_any (c := c) HAt.out HPf.out.1
              rw [HPl.out, hr] at this
              exact this
            have HQ := Lib.hid (HG.out hr)
            have hwb : IntKind.i64.wrap (1 + 5 * (k : Int)) = 1 + 5 * (k : Int) := by rw [IntKind.wrap_i64]; omega
            have hta : (1 + 5 * (k : Int)).toNat = 1 + 5 * k := by omega
            have hna : (0 : Int) ≤ 1 + 5 * (k : Int) := by omega
            have hnc : (1 : Int) + 5 * (k : Int) ≤ (L : Int) := by omega
            clear hr
            go_wp2_with fail
            refine (HRt.out _).mono ?_
            rintro e w4 ⟨rfl, hb4⟩
            have HA4 := Lib.hid (HAt.out.next hb4)
            have HB4 := Lib.hid (below_next HB.out hb4)
            clear hb4
            have HB5 : Hid (∀ q, Below w.heap.size w (w4.drewN q)) := Lib.hid fun q => below_q HB4.out q
            have HA5 : Hid (∀ q, BtsAt (w4.drewN q) (w4.drewN q).heap.size A4 P) := Lib.hid fun q => HA4.out.next (below_q (Below.refl _ _) q)
            go_wp2_with fail
            go_quiet (fail)
            go_wp2_with fail
            go_ret3
            rw [HQ.out.1, HQ.out.2.1, HQ.out.2.2]
            exact ⟨A4, c4, by rw [HPl.out]; rfl, HA5.out _, HB5.out _⟩
end Go.Proofs.Ytpefhocjnkbklaa
