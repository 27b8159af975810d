/- Contract of the document's PutWrites. -/
import Derived.Test.YtkpoeigoocbgeaaMsgD
namespace Go.Proofs.Ytkpoeigoocbgeaa
open Go.RowKit

theorem wrsB_take {ws : List Wr} {k : Nat} (h : k < ws.length) : wrsB (ws.take (k + 1)) = wrsB (ws.take k) ++ wrB ws[k] := by
  unfold wrsB
  rw [List.take_succ_eq_append_getElem h, List.flatMap_append]
  simp

set_option maxHeartbeats 4000000 in
set_option maxRecDepth 100000 in
theorem putWrites17_any {w : World} {A : Option Addr} {c : Nat} {ws : List Wr} (h : WrsAt w w.heap.size A ws) (hl : ws.length ≤ 128) (hm : ∀ x ∈ ws, mayW x = true) :
    Calls Try.prog 18 #[.slice A ws.length c] w fun e w' => e = .returned (.string (str (writesB ws))) ∧ Below w.heap.size w w' := by
  have HW := Lib.hid h
  obtain ⟨n, hn⟩ : ∃ n, ws.length = n := ⟨_, rfl⟩
  have HN := Lib.hid hn
  have HF := Lib.hid hm
  have HO := Lib.hid (two17_any n w (by omega))
  have HD : Hid (str (writesB ws) = str (enc 2 n ++ wrsB (ws.take n))) := Lib.hid (by unfold writesB; rw [hn, List.take_of_length_le (by omega)])
  rw [hn] at hl ⊢
  clear h hm hn
  go_enter Try.func18, Try.ntmps18
  go_wp2_with (go_at_call 42; (with_reducible refine HO.out.mono ?_); rintro e w1 ⟨rfl, hb1⟩; have HB1 := Lib.hid hb1; clear hb1)
  go_loopw [3, 4] (fun s i wr => ∃ (k : Nat) (S : ByteArray), k ≤ n ∧ i = .int .i64 k ∧ s = .string S ∧ S.size ≤ 2 + 12 * k ∧ Hid (str (enc 2 n ++ wrsB (ws.take k)) = S) ∧ Hid (Below w.heap.size w wr)) (fun _ i _ => n - (intOf i).toNat)
  case atStart => exact ⟨0, str (enc 2 n), by omega, rfl, rfl, by rw [str_size, enc_length]; omega, Lib.hid (by unfold wrsB; simp), HB1⟩
  case round =>
    obtain ⟨k, S, hk, rfl, rfl, hS, HS, HB⟩ := hrel
    by_cases hkn : k < n
    · have hkl : k < ws.length := by rw [HN.out]; exact hkn
      obtain ⟨bb, off, rfl, hbl, hcs⟩ := HW.out.at_ HB.out hkl
      obtain ⟨x0, x1, x2⟩ := hcs
      have hfk := (mayW_iff _).1 (HF.out _ (List.getElem_mem hkl))
      have HT := Lib.hid (wrsB_take hkl)
      obtain ⟨p, hp⟩ : ∃ p, ws[k] = p := ⟨_, rfl⟩
      rw [hp] at x0 x1 x2 hfk HT
      obtain ⟨v, bl, d⟩ := p
      unfold wrB at HT
      dsimp only at x0 x1 x2 hfk HT
      obtain ⟨vn, rfl⟩ := Int.eq_ofNat_of_zero_le (show 0 ≤ v by omega)
      obtain ⟨bn, rfl⟩ := Int.eq_ofNat_of_zero_le (show 0 ≤ bl by omega)
      rw [Int.toNat_natCast, Int.toNat_natCast] at HT
      have hE1 := Lib.hid (show LatCalls Try.prog wr 35 #[.int .i64 (vn : Int)] (.string (str (enc 1 vn))) from LatCalls.of fun z => one17_any vn z.wd (by omega))
      have hE2 := Lib.hid (show LatCalls Try.prog wr 35 #[.int .i64 (bn : Int)] (.string (str (enc 1 bn))) from LatCalls.of fun z => one17_any bn z.wd (by omega))
      have hE3 := Lib.hid (show LatCalls Try.prog wr 42 #[.int .i64 (d.size : Int)] (.string (str (enc 2 d.size))) from LatCalls.of fun z => two17_any d.size z.wd (by omega))
      have HS2 : Hid (S ++ str (enc 1 vn) ++ str (enc 1 bn) ++ str (enc 2 d.size) ++ d = str (enc 2 n ++ wrsB (ws.take (k + 1)))) := Lib.hid (by rw [← HS.out, ← str_of d, str_cat, str_cat, str_cat, str_cat, str_of d, HT.out]; simp only [List.append_assoc])
      obtain ⟨X1, hX1⟩ : ∃ X, str (enc 1 vn) = X := ⟨_, rfl⟩
      obtain ⟨X2, hX2⟩ : ∃ X, str (enc 1 bn) = X := ⟨_, rfl⟩
      obtain ⟨X3, hX3⟩ : ∃ X, str (enc 2 d.size) = X := ⟨_, rfl⟩
      have hz1 : X1.size = 1 := by rw [← hX1, str_size, enc_length]
      have hz2 : X2.size = 1 := by rw [← hX2, str_size, enc_length]
      have hz3 : X3.size = 2 := by rw [← hX3, str_size, enc_length]
      rw [hX1] at hE1 HS2
      rw [hX2] at hE2 HS2
      rw [hX3] at hE3 HS2
      have y0 : ∀ z : LatW wr, z.wd.cell? ⟨bb, off + k * 3, none⟩ = some (.int .i64 (vn : Int)) := fun z => z.cell x0 (World.block_lt_of_cell? _ _ x0)
      have y1 : ∀ z : LatW wr, z.wd.cell? ⟨bb, off + k * 3 + 1, none⟩ = some (.int .i64 (bn : Int)) := fun z => z.cell x1 (World.block_lt_of_cell? _ _ x1)
      have y2 : ∀ z : LatW wr, z.wd.cell? ⟨bb, off + k * 3 + 2, none⟩ = some (.string d) := fun z => z.cell x2 (World.block_lt_of_cell? _ _ x2)
      have s1 : ¬ 9223372036854775807 < S.size + X1.size := by omega
      have s2 : ¬ 9223372036854775807 < S.size + X1.size + X2.size := by omega
      have s3 : ¬ 9223372036854775807 < S.size + X1.size + X2.size + X3.size := by omega
      have s4 : ¬ 9223372036854775807 < S.size + X1.size + X2.size + X3.size + d.size := by omega
      have hk0 : (0 : Int) ≤ (k : Int) := by omega
      have hkn2 : (k : Int) < (n : Int) := by omega
      clear x0 x1 x2 hp hX1 hX2 hX3
      go_upto_region 5 with fail
      refine wp_region_later (by kernel_rfl) (by kernel_rfl) ?_
      repeat (first | go_big_quiet_skip | quiet_step (first | (go_at_call 35; with_reducible exact (hE1.out).at_ _) | (go_at_call 35; with_reducible exact (hE2.out).at_ _) | (go_at_call 42; with_reducible exact (hE3.out).at_ _)) | (go_big_quiet_want; go_big_quiet_op; go_big_quiet_on))
      refine wpQuiet_nil ?_
      intro w9 hw9
      obtain ⟨z9, hw9'⟩ := hw9
      subst hw9'
      have HB9 := Lib.hid (below_next HB.out z9.bel)
      have hS9 : (S ++ X1 ++ X2 ++ X3 ++ d).size ≤ 2 + 12 * (k + 1) := by rw [ByteArray.size_append, ByteArray.size_append, ByteArray.size_append, ByteArray.size_append]; omega
      clear y0 y1 y2
      go_wp2_with fail
      go_roundw
      case rel => exact ⟨k + 1, S ++ X1 ++ X2 ++ X3 ++ d, by omega, by go_num, rfl, hS9, Lib.hid HS2.out.symm, HB9⟩
      case measure => simp [intOf]; omega
    · obtain rfl : k = n := by omega
      have hkn2 : ¬ (k : Int) < (k : Int) := by omega
      have HE : Hid (S = str (writesB ws)) := Lib.hid (HS.out.symm.trans HD.out.symm)
      go_wp2_with fail
      go_ret
      exact ⟨congrArg (fun x => Ending.returned (.string x)) HE.out, HB.out⟩
end Go.Proofs.Ytkpoeigoocbgeaa
