/- Contracts of the document's Lined, none and PutLine. -/
import Derived.Test.YtkpoeigoocbgeaaMsgA
namespace Go.Proofs.Ytkpoeigoocbgeaa
open Go.RowKit

theorem BrsAt.len_nil {l : List Br} (h : l.length = 0) : l = [] := List.eq_nil_of_length_eq_zero h

set_option maxHeartbeats 1000000 in
theorem lined17_any {w : World} {A : Option Addr} {c : Nat} {l : List Br} (h : BrsAt w w.heap.size A l) (hl : l.length ≤ 9223372036854775807) :
    Calls Try.prog 11 #[.slice A l.length c] w fun e w' => e = .returned (.bool (lined l)) ∧ Below w.heap.size w w' := by
  have HR := Lib.hid (DRight_any (c := c) h hl)
  by_cases h0 : l.length = 0
  · have e : lined l = true := by rw [BrsAt.len_nil h0]; rfl
    rw [e, h0]
    clear h HR
    go_enter Try.func11, Try.ntmps11
    go_wp2
    go_ret
    exact ⟨rfl, Below.refl _ _⟩
  · have e : lined l = lineOk l := by
      unfold lined
      rw [show l.isEmpty = false from by rw [Bool.eq_false_iff]; intro e; rw [List.isEmpty_iff] at e; rw [e] at h0; exact h0 rfl, Bool.false_or]
    have h1 : ((l.length : Int) == 0) = false := by rw [beq_eq_false_iff_ne]; omega
    have h2 : ¬ (l.length : Int) = 0 := by omega
    rw [e]
    clear h e h0
    go_enter Try.func11, Try.ntmps11
    go_wp2_with (go_at_call 34; (with_reducible refine HR.out.mono ?_); rintro e w9 ⟨rfl, hb9⟩)
    go_ret
    exact ⟨rfl, hb9⟩

theorem brsB_take {l : List Br} {k : Nat} (h : k < l.length) : brsB (l.take (k + 1)) = brsB (l.take k) ++ (enc 8 l[k].1.toNat ++ enc 8 l[k].2.toNat) := by
  unfold brsB
  rw [List.take_succ_eq_append_getElem h, List.flatMap_append]
  simp [brB]

set_option maxHeartbeats 2000000 in
set_option maxRecDepth 100000 in
theorem putLine17_any {w : World} {A : Option Addr} {c : Nat} {l : List Br} (h : BrsAt w w.heap.size A l) (hl : lined l = true) :
    Calls Try.prog 12 #[.slice A l.length c] w fun e w' => e = .returned (.string (str (lineB l))) ∧ Below w.heap.size w w' := by
  obtain ⟨hf, h64⟩ := lined_fit hl
  have HW := Lib.hid h
  obtain ⟨n, hn⟩ : ∃ n, l.length = n := ⟨_, rfl⟩
  have HN := Lib.hid hn
  have HF := Lib.hid hf
  have HO := Lib.hid (one17_any n w (by omega))
  have HD : Hid (str (lineB l) = str (enc 1 n ++ brsB (l.take n))) := Lib.hid (by unfold lineB; rw [hn, List.take_of_length_le (by omega)])
  rw [hn]
  rw [hn] at h64
  clear h hl hf hn
  go_enter Try.func12, Try.ntmps12
  go_wp2_with (go_at_call 35; (with_reducible refine HO.out.mono ?_); rintro e w1 ⟨rfl, hb1⟩; have HB1 := Lib.hid hb1; clear hb1)
  go_loopw [3, 4] (fun s i wr => ∃ (k : Nat) (S : ByteArray), k ≤ n ∧ i = .int .i64 k ∧ s = .string S ∧ S.size = 1 + 16 * k ∧ Hid (str (enc 1 n ++ brsB (l.take k)) = S) ∧ Hid (Below w.heap.size w wr)) (fun _ i _ => n - (intOf i).toNat)
  case atStart => exact ⟨0, str (enc 1 n), by omega, rfl, rfl, by rw [str_size, enc_length], Lib.hid (by unfold brsB; simp), HB1⟩
  case round =>
    obtain ⟨k, S, hk, rfl, rfl, hS, HS, HB⟩ := hrel
    by_cases hkn : k < n
    · have hkl : k < l.length := by rw [HN.out]; exact hkn
      obtain ⟨bb, off, rfl, hbl, x0, x1⟩ := HW.out.at_ HB.out hkl
      have hfk := HF.out _ (List.getElem_mem hkl)
      have HT := Lib.hid (brsB_take hkl)
      obtain ⟨p, hp⟩ : ∃ p, l[k] = p := ⟨_, rfl⟩
      rw [hp] at x0 x1 hfk HT
      obtain ⟨ep, bg⟩ := p
      dsimp only at x0 x1 hfk HT
      have hE1 := Lib.hid (show LatCalls Try.prog wr 36 #[.int .i64 ep] (.string (str (enc 8 ep.toNat))) from LatCalls.of fun z => eight17_any ep z.wd ((fitB_iff _).2 hfk.1))
      have hE2 := Lib.hid (show LatCalls Try.prog wr 36 #[.int .i64 bg] (.string (str (enc 8 bg.toNat))) from LatCalls.of fun z => eight17_any bg z.wd ((fitB_iff _).2 hfk.2))
      have HS2 : Hid (S ++ str (enc 8 ep.toNat) ++ str (enc 8 bg.toNat) = str (enc 1 n ++ brsB (l.take (k + 1)))) := Lib.hid (by rw [← HS.out, str_cat, str_cat, HT.out]; simp only [List.append_assoc])
      obtain ⟨X1, hX1⟩ : ∃ X, str (enc 8 ep.toNat) = X := ⟨_, rfl⟩
      obtain ⟨X2, hX2⟩ : ∃ X, str (enc 8 bg.toNat) = X := ⟨_, rfl⟩
      have hz1 : X1.size = 8 := by rw [← hX1, str_size, enc_length]
      have hz2 : X2.size = 8 := by rw [← hX2, str_size, enc_length]
      rw [hX1] at hE1 HS2
      rw [hX2] at hE2 HS2
      have y0 : ∀ z : LatW wr, z.wd.cell? ⟨bb, off + k * 2, none⟩ = some (.int .i64 ep) := fun z => z.cell x0 (World.block_lt_of_cell? _ _ x0)
      have y1 : ∀ z : LatW wr, z.wd.cell? ⟨bb, off + k * 2 + 1, none⟩ = some (.int .i64 bg) := fun z => z.cell x1 (World.block_lt_of_cell? _ _ x1)
      have s1 : ¬ 9223372036854775807 < S.size + X1.size := by omega
      have s2 : ¬ 9223372036854775807 < S.size + X1.size + X2.size := by omega
      have hk0 : (0 : Int) ≤ (k : Int) := by omega
      have hkn2 : (k : Int) < (n : Int) := by omega
      clear x0 x1 hp hX1 hX2 hfk
      go_upto_region 5 with fail
      refine wp_region_later (by kernel_rfl) (by kernel_rfl) ?_
      repeat (first | go_big_quiet_skip | quiet_step (first | (go_at_call 36; with_reducible exact (hE1.out).at_ _) | (go_at_call 36; with_reducible exact (hE2.out).at_ _)) | (go_big_quiet_want; go_big_quiet_op; go_big_quiet_on))
      refine wpQuiet_nil ?_
      intro w9 hw9
      obtain ⟨z9, hw9'⟩ := hw9
      subst hw9'
      have HB9 := Lib.hid (below_next HB.out z9.bel)
      have hS9 : (S ++ X1 ++ X2).size = 1 + 16 * (k + 1) := by rw [ByteArray.size_append, ByteArray.size_append]; omega
      clear y0 y1
      go_wp2_with fail
      go_roundw
      case rel => exact ⟨k + 1, S ++ X1 ++ X2, by omega, by go_num, rfl, hS9, Lib.hid HS2.out.symm, HB9⟩
      case measure => simp [intOf]; omega
    · obtain rfl : k = n := by omega
      have hkn2 : ¬ (k : Int) < (k : Int) := by omega
      have HE : Hid (S = str (lineB l)) := Lib.hid (HS.out.symm.trans HD.out.symm)
      go_wp2_with fail
      go_ret
      exact ⟨congrArg (fun x => Ending.returned (.string x)) HE.out, HB.out⟩
end Go.Proofs.Ytkpoeigoocbgeaa
