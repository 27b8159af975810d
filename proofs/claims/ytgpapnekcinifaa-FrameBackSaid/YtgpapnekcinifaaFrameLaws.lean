/- The walks of the laws of layer 3: each returns true, and changes nothing that was there. -/
import Derived.Test.YtgpapnekcinifaaFrameRef
namespace Go.Proofs.Ytgpapnekcinifaa
open Go.RowKit

theorem ab_list : (ByteArray.mk #[97, 98]).data.toList = [97, 98] := rfl

set_option maxHeartbeats 400000 in
theorem FrameAwake_any (w : World) : Calls Try.prog 11 #[] w fun e w' => e = .returned (.bool true) ∧ Below w.heap.size w w' := by
  have hE : sealE 5 [97, 98] = 0 := sealE_ok (by omega) (by decide)
  have HE := Lib.hid hE
  have HB : Hid (sealB 5 [97, 98] = frameOf 5 [97, 98]) := Lib.hid (sealB_ok (k := 5) hE)
  obtain ⟨f, HF⟩ : ∃ f, Hid (frameOf 5 [97, 98] = f) := ⟨_, Lib.hid rfl⟩
  have hfl : f.length = 9 := by rw [← HF.out, frameOf_length]; rfl
  have hfs : (str f).size = 9 := by rw [str_size, hfl]
  have HO : Hid (openE f = 0) := Lib.hid (by rw [← HF.out]; exact open_frame (by decide))
  have HK : Hid (openK f = 5) := Lib.hid (by rw [← HF.out]; exact open_frame_kind (by decide) (by decide))
  have HBd : Hid (openB f = [97, 98]) := Lib.hid (by rw [← HF.out]; exact open_frame_body (by decide))
  have hab : ((str [97, 98]).toList == [97, 98]) = true := by rw [byteArray_toList, str_list]; rfl
  clear hE
  go_enter Try.func11, Try.ntmps11
  go_wp2_with fail
  refine (Seal_any 5 _ _ (by decide)).mono ?_
  rintro e w1 ⟨rfl, hb1⟩
  rw [ab_list, HB.out, HE.out, HF.out]
  go_wp2_with fail
  refine (Open_any _ _ (by rw [hfs]; decide)).mono ?_
  rintro e w2 ⟨rfl, hb2⟩
  rw [str_list, HO.out, HK.out, HBd.out]
  go_wp2
  go_ret
  exact ⟨rfl, below_next hb1 hb2⟩

set_option maxHeartbeats 400000 in
theorem FrameSeals_walk (kind : Int) (s : ByteArray) (w : World) (hs : s.size ≤ 140737488351232) :
    Calls Try.prog 3 #[.int .i64 kind, .string s] w fun e w' => e = .returned (.bool true) ∧ Below w.heap.size w w' := by
  have hs' : s.size ≤ maxLen := by unfold maxLen; omega
  obtain ⟨f, HF⟩ : ∃ f, Hid (sealB kind s.data.toList = f) := ⟨_, Lib.hid rfl⟩
  obtain ⟨x, HE⟩ : ∃ x, Hid (sealE kind s.data.toList = x) := ⟨_, Lib.hid rfl⟩
  go_enter Try.func3, Try.ntmps3
  go_wp2_with fail
  refine (Seal_any kind s _ hs').mono ?_
  rintro e w1 ⟨rfl, hb1⟩
  rw [HF.out, HE.out]
  go_wp2_with fail
  refine (RefSeal_any kind s _ hs').mono ?_
  rintro e w2 ⟨rfl, hb2⟩
  rw [HF.out, HE.out]
  go_wp2_with fail
  refine (FrameAwake_any _).mono ?_
  rintro e w3 ⟨rfl, hb3⟩
  go_wp2
  go_ret
  exact ⟨rfl, below_next (below_next hb1 hb2) hb3⟩

set_option maxHeartbeats 400000 in
theorem FrameOpens_walk (s : ByteArray) (w : World) (hs : s.size ≤ 140737488351232) :
    Calls Try.prog 4 #[.string s] w fun e w' => e = .returned (.bool true) ∧ Below w.heap.size w w' := by
  have hs' : s.size ≤ maxLen := by unfold maxLen; omega
  obtain ⟨k, HK⟩ : ∃ k, Hid (openK s.data.toList = k) := ⟨_, Lib.hid rfl⟩
  obtain ⟨b, HB⟩ : ∃ b, Hid (openB s.data.toList = b) := ⟨_, Lib.hid rfl⟩
  obtain ⟨x, HE⟩ : ∃ x, Hid (openE s.data.toList = x) := ⟨_, Lib.hid rfl⟩
  go_enter Try.func4, Try.ntmps4
  go_wp2_with fail
  refine (Open_any s _ hs').mono ?_
  rintro e w1 ⟨rfl, hb1⟩
  rw [HK.out, HB.out, HE.out]
  go_wp2_with fail
  refine (RefOpen_any s _ hs').mono ?_
  rintro e w2 ⟨rfl, hb2⟩
  rw [HK.out, HB.out, HE.out]
  go_wp2_with fail
  refine (FrameAwake_any _).mono ?_
  rintro e w3 ⟨rfl, hb3⟩
  go_wp2
  go_ret
  exact ⟨rfl, below_next (below_next hb1 hb2) hb3⟩

set_option maxHeartbeats 400000 in
theorem FrameBack_walk (kind : Int) (s : ByteArray) (w : World) (hs : s.size ≤ 140737488351232) :
    Calls Try.prog 5 #[.int .i64 kind, .string s] w fun e w' => e = .returned (.bool true) ∧ Below w.heap.size w w' := by
  have hs' : s.size ≤ maxLen := by unfold maxLen; omega
  by_cases hz : sealE kind s.data.toList = 0
  · have HE := Lib.hid hz
    obtain ⟨h0, h1, h2⟩ := sealE_zero hz
    rw [list_length] at h2
    obtain ⟨k, rfl⟩ := Int.eq_ofNat_of_zero_le h0
    have HB := Lib.hid (sealB_ok hz)
    obtain ⟨f, HF⟩ : ∃ f, Hid (frameOf k s.data.toList = f) := ⟨_, Lib.hid rfl⟩
    have hfs : (str f).size = s.size + 7 := by rw [str_size, ← HF.out, frameOf_length, list_length]
    have hfm : (str f).size ≤ maxLen := by unfold maxLen; omega
    have HO : Hid (openE f = 0) := Lib.hid (by rw [← HF.out]; exact open_frame (by rw [list_length]; exact h2))
    have HK : Hid (openK f = k) := Lib.hid (by rw [← HF.out]; exact open_frame_kind (by omega) (by rw [list_length]; exact h2))
    have HBd : Hid (openB f = s.data.toList) := Lib.hid (by rw [← HF.out]; exact open_frame_body (by rw [list_length]; exact h2))
    clear hz
    go_enter Try.func5, Try.ntmps5
    go_wp2_with fail
    refine (Seal_any k s _ hs').mono ?_
    rintro e w1 ⟨rfl, hb1⟩
    rw [HB.out, HE.out, HF.out]
    go_wp2_with fail
    refine (Open_any _ _ hfm).mono ?_
    rintro e w2 ⟨rfl, hb2⟩
    rw [str_list, HO.out, HK.out, HBd.out, str_of]
    go_wp2_with fail
    refine (FrameAwake_any _).mono ?_
    rintro e w3 ⟨rfl, hb3⟩
    go_wp2
    go_ret
    exact ⟨rfl, below_next (below_next hb1 hb2) hb3⟩
  · have hbe : (sealE kind s.data.toList != 0) = true := by rw [bne_iff_ne]; exact hz
    have HB := Lib.hid (sealB_no hz)
    have hcond : kind < 0 ∨ (0 ≤ kind ∧ 255 < kind) ∨ (0 ≤ kind ∧ kind ≤ 255 ∧ 4096 < s.size) := by
      by_cases h0 : kind < 0
      · exact Or.inl h0
      · by_cases h1 : 255 < kind
        · exact Or.inr (Or.inl ⟨by omega, h1⟩)
        · refine Or.inr (Or.inr ⟨by omega, by omega, ?_⟩)
          by_cases h2 : 4096 < s.size
          · exact h2
          · exact absurd (sealE_ok (by omega) (by rw [list_length]; exact h2)) hz
    obtain ⟨x, HE⟩ : ∃ x, Hid (sealE kind s.data.toList = x) := ⟨_, Lib.hid rfl⟩
    rw [HE.out] at hbe
    have hse : ((str []).toList == []) = true := by rw [byteArray_toList, str_list]; rfl
    clear hz
    rcases hcond with h | ⟨h, h1⟩ | ⟨h, h1, h2⟩
    · go_enter Try.func5, Try.ntmps5
      go_wp2_with fail
      refine (Seal_any kind s _ hs').mono ?_
      rintro e w1 ⟨rfl, hb1⟩
      rw [HB.out, HE.out]
      go_wp2_with fail
      refine (FrameAwake_any _).mono ?_
      rintro e w3 ⟨rfl, hb3⟩
      go_wp2
      go_ret
      exact ⟨rfl, below_next hb1 hb3⟩
    · go_enter Try.func5, Try.ntmps5
      go_wp2_with fail
      refine (Seal_any kind s _ hs').mono ?_
      rintro e w1 ⟨rfl, hb1⟩
      rw [HB.out, HE.out]
      go_wp2_with fail
      refine (FrameAwake_any _).mono ?_
      rintro e w3 ⟨rfl, hb3⟩
      go_wp2
      go_ret
      exact ⟨rfl, below_next hb1 hb3⟩
    · have hd : decide (4096 < (s.size : Int)) = true := by rw [decide_eq_true_iff]; omega
      go_enter Try.func5, Try.ntmps5
      go_wp2_with fail
      refine (Seal_any kind s _ hs').mono ?_
      rintro e w1 ⟨rfl, hb1⟩
      rw [HB.out, HE.out]
      go_wp2_with fail
      refine (FrameAwake_any _).mono ?_
      rintro e w3 ⟨rfl, hb3⟩
      go_wp2
      go_ret
      exact ⟨rfl, below_next hb1 hb3⟩

set_option maxHeartbeats 400000 in
theorem FrameCut_walk (kind : Int) (s : ByteArray) (keep : Int) (w : World) (hs : s.size ≤ 140737488351232) :
    Calls Try.prog 7 #[.int .i64 kind, .string s, .int .i64 keep] w fun e w' => e = .returned (.bool true) ∧ Below w.heap.size w w' := by
  have hs' : s.size ≤ maxLen := by unfold maxLen; omega
  by_cases hz : sealE kind s.data.toList = 0
  · have HE := Lib.hid hz
    obtain ⟨h0, h1, h2⟩ := sealE_zero hz
    rw [list_length] at h2
    obtain ⟨k, rfl⟩ := Int.eq_ofNat_of_zero_le h0
    have HB := Lib.hid (sealB_ok hz)
    obtain ⟨f, HF⟩ : ∃ f, Hid (frameOf k s.data.toList = f) := ⟨_, Lib.hid rfl⟩
    have hfs : (str f).size = s.size + 7 := by rw [str_size, ← HF.out, frameOf_length, list_length]
    have hfm : (str f).size ≤ maxLen := by unfold maxLen; omega
    clear hz
    by_cases hk0 : keep < 0
    · go_enter Try.func7, Try.ntmps7
      go_wp2_with fail
      refine (Seal_any k s _ hs').mono ?_
      rintro e w1 ⟨rfl, hb1⟩
      rw [HB.out, HE.out, HF.out]
      go_wp2_with fail
      refine (FrameAwake_any _).mono ?_
      rintro e w3 ⟨rfl, hb3⟩
      go_wp2
      go_ret
      exact ⟨rfl, below_next hb1 hb3⟩
    · by_cases hk1 : (s.size : Int) + 7 ≤ keep
      · go_enter Try.func7, Try.ntmps7
        go_wp2_with fail
        refine (Seal_any k s _ hs').mono ?_
        rintro e w1 ⟨rfl, hb1⟩
        rw [HB.out, HE.out, HF.out]
        go_wp2_with fail
        refine (FrameAwake_any _).mono ?_
        rintro e w3 ⟨rfl, hb3⟩
        go_wp2
        go_ret
        exact ⟨rfl, below_next hb1 hb3⟩
      · obtain ⟨j, rfl⟩ := Int.eq_ofNat_of_zero_le (show 0 ≤ keep by omega)
        have hj : j < s.size + 7 := by omega
        have HX : Hid (((str f).extract 0 j).data.toList = f.take j) := Lib.hid (by rw [extract_take, str_list])
        have HO : Hid (openE (f.take j) = 2) := Lib.hid (by rw [← HF.out]; exact frame_cut (by rw [list_length]; exact h2) (by rw [list_length]; exact hj))
        have HK := Lib.hid (openK_no (l := f.take j) (by rw [HO.out]; omega))
        have HBd := Lib.hid (openB_no (l := f.take j) (by rw [HO.out]; omega))
        have hxm : ((str f).extract 0 j).size ≤ maxLen := by rw [ByteArray.size_extract]; omega
        have hse : ((str []).toList == []) = true := by rw [byteArray_toList, str_list]; rfl
        go_enter Try.func7, Try.ntmps7
        go_wp2_with fail
        refine (Seal_any k s _ hs').mono ?_
        rintro e w1 ⟨rfl, hb1⟩
        rw [HB.out, HE.out, HF.out]
        go_wp2_with fail
        refine (Open_any _ _ hxm).mono ?_
        rintro e w2 ⟨rfl, hb2⟩
        rw [HX.out, HO.out, HK.out, HBd.out]
        go_wp2_with fail
        refine (FrameAwake_any _).mono ?_
        rintro e w3 ⟨rfl, hb3⟩
        go_wp2
        go_ret
        exact ⟨rfl, below_next (below_next hb1 hb2) hb3⟩
  · have hbe : (sealE kind s.data.toList != 0) = true := by rw [bne_iff_ne]; exact hz
    have HB := Lib.hid (sealB_no hz)
    obtain ⟨x, HE⟩ : ∃ x, Hid (sealE kind s.data.toList = x) := ⟨_, Lib.hid rfl⟩
    rw [HE.out] at hbe
    clear hz
    go_enter Try.func7, Try.ntmps7
    go_wp2_with fail
    refine (Seal_any kind s _ hs').mono ?_
    rintro e w1 ⟨rfl, hb1⟩
    rw [HB.out, HE.out]
    go_wp2_with fail
    refine (FrameAwake_any _).mono ?_
    rintro e w3 ⟨rfl, hb3⟩
    go_wp2
    go_ret
    exact ⟨rfl, below_next hb1 hb3⟩

theorem same_text (a b : ByteArray) : (a.toList == b.toList) = decide (a.data.toList = b.data.toList) := by
  rw [byteArray_toList, byteArray_toList, Bool.eq_iff_iff, beq_iff_eq, decide_eq_true_iff]

set_option maxHeartbeats 400000 in
theorem FrameApart_walk (k m : Int) (a b : ByteArray) (w : World) (ha : a.size ≤ 140737488351232) (hb : b.size ≤ 140737488351232) :
    Calls Try.prog 8 #[.int .i64 k, .int .i64 m, .string a, .string b] w fun e w' => e = .returned (.bool true) ∧ Below w.heap.size w w' := by
  have ha' : a.size ≤ maxLen := by unfold maxLen; omega
  have hb' : b.size ≤ maxLen := by unfold maxLen; omega
  by_cases hz : sealE k a.data.toList = 0
  · by_cases hy : sealE m b.data.toList = 0
    · have HE := Lib.hid hz
      have HG := Lib.hid hy
      obtain ⟨h0, h1, h2⟩ := sealE_zero hz
      obtain ⟨g0, g1, g2⟩ := sealE_zero hy
      obtain ⟨i, rfl⟩ := Int.eq_ofNat_of_zero_le h0
      obtain ⟨j, rfl⟩ := Int.eq_ofNat_of_zero_le g0
      have HB := Lib.hid (sealB_ok hz)
      have HC := Lib.hid (sealB_ok hy)
      have hap := frame_apart (k := i) (m := j) (by omega) (by omega) h2 g2
      obtain ⟨f, HF⟩ : ∃ f, Hid (frameOf i a.data.toList = f) := ⟨_, Lib.hid rfl⟩
      obtain ⟨g, HH⟩ : ∃ g, Hid (frameOf j b.data.toList = g) := ⟨_, Lib.hid rfl⟩
      rw [HF.out, HH.out] at hap
      clear hz hy h2 g2
      by_cases hij : i = j
      · subst hij
        have hc : (((str f).toList == (str g).toList) == (a.toList == b.toList)) = true := by
          rw [same_text, same_text, str_list, str_list, beq_iff_eq, Bool.eq_iff_iff, decide_eq_true_iff, decide_eq_true_iff, hap]
          simp
        clear hap
        go_enter Try.func8, Try.ntmps8
        go_wp2_with fail
        refine (Seal_any i a _ ha').mono ?_
        rintro e w1 ⟨rfl, hb1⟩
        rw [HB.out, HE.out, HF.out]
        go_wp2_with fail
        refine (Seal_any i b _ hb').mono ?_
        rintro e w2 ⟨rfl, hb2⟩
        rw [HC.out, HG.out, HH.out]
        go_wp2_with fail
        refine (FrameAwake_any _).mono ?_
        rintro e w3 ⟨rfl, hb3⟩
        go_wp2
        go_ret
        exact ⟨rfl, below_next (below_next hb1 hb2) hb3⟩
      · have hc : ((str f).toList == (str g).toList) = false := by
          rw [same_text, str_list, str_list, decide_eq_false_iff_not, hap]
          exact fun q => hij q.1
        have hne : ((i : Int) == (j : Int)) = false := by rw [beq_eq_false_iff_ne]; omega
        clear hap
        go_enter Try.func8, Try.ntmps8
        go_wp2_with fail
        refine (Seal_any i a _ ha').mono ?_
        rintro e w1 ⟨rfl, hb1⟩
        rw [HB.out, HE.out, HF.out]
        go_wp2_with fail
        refine (Seal_any j b _ hb').mono ?_
        rintro e w2 ⟨rfl, hb2⟩
        rw [HC.out, HG.out, HH.out]
        go_wp2_with fail
        refine (FrameAwake_any _).mono ?_
        rintro e w3 ⟨rfl, hb3⟩
        go_wp2
        go_ret
        exact ⟨rfl, below_next (below_next hb1 hb2) hb3⟩
    · have HE := Lib.hid hz
      have hbe : (sealE m b.data.toList != 0) = true := by rw [bne_iff_ne]; exact hy
      obtain ⟨f, HF⟩ : ∃ f, Hid (sealB k a.data.toList = f) := ⟨_, Lib.hid rfl⟩
      obtain ⟨g, HG⟩ : ∃ g, Hid (sealB m b.data.toList = g) := ⟨_, Lib.hid rfl⟩
      obtain ⟨x, HX⟩ : ∃ x, Hid (sealE m b.data.toList = x) := ⟨_, Lib.hid rfl⟩
      rw [HX.out] at hbe
      clear hz hy
      go_enter Try.func8, Try.ntmps8
      go_wp2_with fail
      refine (Seal_any k a _ ha').mono ?_
      rintro e w1 ⟨rfl, hb1⟩
      rw [HF.out, HE.out]
      go_wp2_with fail
      refine (Seal_any m b _ hb').mono ?_
      rintro e w2 ⟨rfl, hb2⟩
      rw [HG.out, HX.out]
      go_wp2_with fail
      refine (FrameAwake_any _).mono ?_
      rintro e w3 ⟨rfl, hb3⟩
      go_wp2
      go_ret
      exact ⟨rfl, below_next (below_next hb1 hb2) hb3⟩
  · have hbe : (sealE k a.data.toList != 0) = true := by rw [bne_iff_ne]; exact hz
    obtain ⟨f, HF⟩ : ∃ f, Hid (sealB k a.data.toList = f) := ⟨_, Lib.hid rfl⟩
    obtain ⟨g, HG⟩ : ∃ g, Hid (sealB m b.data.toList = g) := ⟨_, Lib.hid rfl⟩
    obtain ⟨x, HX⟩ : ∃ x, Hid (sealE k a.data.toList = x) := ⟨_, Lib.hid rfl⟩
    obtain ⟨y, HY⟩ : ∃ y, Hid (sealE m b.data.toList = y) := ⟨_, Lib.hid rfl⟩
    rw [HX.out] at hbe
    clear hz
    go_enter Try.func8, Try.ntmps8
    go_wp2_with fail
    refine (Seal_any k a _ ha').mono ?_
    rintro e w1 ⟨rfl, hb1⟩
    rw [HF.out, HX.out]
    go_wp2_with fail
    refine (Seal_any m b _ hb').mono ?_
    rintro e w2 ⟨rfl, hb2⟩
    rw [HG.out, HY.out]
    go_wp2_with fail
    refine (FrameAwake_any _).mono ?_
    rintro e w3 ⟨rfl, hb3⟩
    go_wp2
    go_ret
    exact ⟨rfl, below_next (below_next hb1 hb2) hb3⟩
end Go.Proofs.Ytgpapnekcinifaa
