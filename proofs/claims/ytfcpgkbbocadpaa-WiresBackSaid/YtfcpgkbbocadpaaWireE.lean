/- Contract of the document's Put. -/
import Derived.Test.YtfcpgkbbocadpaaWireD
namespace Go.Proofs.Ytfcpgkbbocadpaa
open Go.RowKit

theorem own_form16 {w : World} {base : Nat} {e : TypeId} {size : Nat} {v : Value} {n : Nat} {cs : List Value} (h : w.ownsRow base e size v n cs) : ∃ A c, v = .slice A n c := by
  obtain ⟨A, c, hv, _⟩ := own_lies h
  exact ⟨A, c, hv⟩

set_option maxHeartbeats 2000000 in
set_option maxRecDepth 100000 in
theorem DocPut16_any {w : World} {A A2 : Option Addr} {c c2 : Nat} {l os : List WPk} (k : Nat) (h : WpAt w w.heap.size A l) (h2 : WpAt w w.heap.size A2 os) (hn2 : A2 = none → c2 = 0) (hk : k ≤ l.length) (hl : l.length ≤ 1000) (hl2 : os.length ≤ 1000) :
    Calls Try.prog 13 #[.slice A l.length c, .int .i64 (k : Int), .slice A2 os.length c2] w (WpEnd (putW l k os) w) := by
  have HW := Lib.hid h
  have HV := Lib.hid h2
  have HNn := Lib.hid hn2
  have HAll := Lib.hid (putN_all os hk)
  have HLow := Lib.hid (fun i (hi : i < k) hk2 => @putN_low l k os i hi hk2)
  have HAt := Lib.hid (putN_at l k os)
  have HHi := Lib.hid (fun i (hi : k < i) hk2 => @putN_high l k os i hi hk2)
  have HEn := Lib.hid (fun i (hi : k < i) hk2 => @putN_end l k i os hi hk2)
  obtain ⟨n, hn⟩ : ∃ n, l.length = n := ⟨_, rfl⟩
  obtain ⟨m, hm⟩ : ∃ m, os.length = m := ⟨_, rfl⟩
  have HN := Lib.hid hn
  have HM := Lib.hid hm
  rw [hn] at hk hl HAll ⊢
  rw [hm] at hl2 ⊢
  obtain ⟨i0, hi0, hz0, hz1, hz2⟩ := info_parts Try.infoWpR
  clear h h2 hn2 hn hm
  have HLe : Hid (∀ i, (putN l k os i).length ≤ n + m) := Lib.hid (fun i => by
    unfold putN
    split
    · rw [List.length_take]; have := HN.out; omega
    · rw [List.length_append, List.length_append, List.length_take, List.length_take, List.length_drop]; have := HN.out; have := HM.out; omega)
  go_enter Try.func13, Try.ntmps13
  go_wp2_with fail
  go_loopw [7, 8] (fun v j wr => ∃ (i : Nat) (A' : Option Addr) (c' q : Nat), i ≤ n + 1 ∧ q ≤ n + m ∧ j = .int .i64 i ∧ v = .slice A' q c' ∧ Hid (wr.ownsRow w.heap.size 35 2 (.slice A' q c') q (wpCells (putN l k os i)) ∧ (putN l k os i).length = q) ∧ Hid (Below w.heap.size w wr)) (fun _ j _ => n + 1 - (intOf j).toNat)
  case atStart => exact ⟨0, none, 0, 0, by omega, by omega, rfl, rfl, Lib.hid ⟨by rw [putN_zero]; exact World.ownsRow_nil _ _ _ _, by rw [putN_zero]; rfl⟩, Lib.hid (Below.refl _ _)⟩
  case round =>
    obtain ⟨i, A', c', q, hi, hq, rfl, rfl, HO, HB⟩ := hrel
    have hwz : w.heap.size ≤ wr.heap.size := HB.out.size
    by_cases hin : i ≤ n
    · have hin2 : (i : Int) ≤ (n : Int) := by omega
      by_cases hik : i = k
      · subst hik
        have HCl : Hid ((wpCells os).length = m * 2) := Lib.hid (by rw [wpCells_length, HM.out])
        have HLi := Lib.hid ((HV.out.below HB.out).lies)
        have HOw := Lib.hid HO.out.1
        have HC1 := Lib.hid (wpCells_one os)
        go_wp2_with (at_builtin; refine wpList_append_rows16 rfl (.tmp 18) (.tmp 19) 31 rfl w.heap.size 35 i0 (.agg #[.int .i64 0, .string ⟨#[]⟩]) 2 24 Try.underlying31 hi0 hz0 hz1 hz2 rfl (by decide) (.slice A' q c') q (wpCells (putN l i os i)) rfl HOw.out A2 m c2 (wpCells os) rfl HCl.out w.heap.size HLi.out HNn.out HC1.out ?c1 ?c2 hwz ?_)
        case c1 => unfold maxLen; omega
        case c2 => omega
        intro v2 w2 ho2 hg2
        have HB2 : Hid (Below w.heap.size w w2) := Lib.hid (HB.out.grown hg2 hwz (fun q hq => (HOw.out.lt q hq).1))
        rw [← wpCells_append, ← HAt.out] at ho2
        obtain ⟨A3, c3, hv3⟩ := own_form16 ho2
        subst hv3
        have HO2 : Hid (w2.ownsRow w.heap.size 35 2 (.slice A3 (q + m) c3) (q + m) (wpCells (putN l i os (i + 1))) ∧ (putN l i os (i + 1)).length = q + m) := Lib.hid ⟨ho2, by rw [HAt.out, List.length_append, HO.out.2, HM.out]⟩
        have hq2 : q + m ≤ n + m := by have h := HLe.out (i + 1); rw [HO2.out.2] at h; exact h
        clear ho2 hg2
        go_wp2_with fail
        go_roundw
        case rel => exact ⟨i + 1, A3, c3, q + m, by omega, hq2, by go_num, rfl, HO2, HB2⟩
        case measure => simp [intOf]; omega
      · have hik2 : ((i : Int) == (k : Int)) = false := by rw [beq_eq_false_iff_ne]; omega
        have hik3 : ¬ (i : Int) = (k : Int) := by omega
        by_cases hil : i < n
        · have hil2 : (i : Int) < (n : Int) := by omega
          have hi0' : (0 : Int) ≤ (i : Int) := by omega
          have hll : i < l.length := by rw [HN.out]; exact hil
          have HSt : Hid (putN l k os (i + 1) = putN l k os i ++ [l[i]]) := Lib.hid (by
            rcases Nat.lt_or_gt_of_ne hik with e | e
            · exact HLow.out i e hll
            · exact HHi.out i e hll)
          obtain ⟨bb, off, rfl, hbl, x0, x1⟩ := HW.out.at_ HB.out hll
          obtain ⟨p, hp⟩ : ∃ p, l[i] = p := ⟨_, rfl⟩
          rw [hp] at x0 x1 HSt
          obtain ⟨to_, s⟩ := p
          dsimp only at x0 x1
          have HCs : Hid (wpCells (putN l k os (i + 1)) = wpCells (putN l k os i) ++ [.int .i64 to_, .string (str s)]) := Lib.hid (by rw [HSt.out, wpCells_append]; rfl)
          have HLs : Hid ((putN l k os (i + 1)).length = q + 1) := Lib.hid (by rw [HSt.out, List.length_append, HO.out.2]; rfl)
          obtain ⟨T, hT⟩ : ∃ T, str s = T := ⟨_, rfl⟩
          rw [hT] at x1 HCs
          have HNew := Lib.hid (cell_two16 wr (.int .i64 to_) (.string T) 35)
          have HB3 := Lib.hid (HB.out.alloc hwz (.cells #[.int .i64 to_, .string T] 35))
          have HO3 := Lib.hid (HO.out.1.alloc (.cells #[.int .i64 to_, .string T] 35))
          clear hp hT hik
          go_wp2_with (at_builtin; refine wpList_append_lies _ rfl (.tmp 25) (.tmp 30) 31 rfl w.heap.size 35 i0 (.agg #[.int .i64 0, .string ⟨#[]⟩]) 2 24 Try.underlying31 hi0 hz0 hz1 hz2 rfl (by decide) (.slice A' q c') q (wpCells (putN l k os i)) rfl HO3.out ⟨wr.heap.size, 0, none⟩ 1 1 [.int .i64 to_, .string T] rfl rfl HNew.out (by simp [Value.oneCell']) (by omega) ?d1 ?d2 HB3.out.size _ rfl ?_)
          case d1 => unfold maxLen; omega
          case d2 => omega
          intro g cap w7 hown hg7 _ _
          have HB7 := Lib.hid (HB3.out.grown hg7 HB3.out.size (fun q hq => (HO3.out.lt q hq).1))
          rw [← HCs.out] at hown
          have HO7 := Lib.hid (And.intro hown HLs.out)
          have hq2 : q + 1 ≤ n + m := by have h := HLe.out (i + 1); rw [HLs.out] at h; exact h
          clear hown hg7
          go_wp2_with fail
          go_roundw
          case rel => exact ⟨i + 1, some ⟨g, 0, none⟩, cap, q + 1, by omega, hq2, by go_num, rfl, HO7, HB7⟩
          case measure => simp [intOf]; omega
        · have hil2 : ¬ (i : Int) < (n : Int) := by omega
          have HSt : Hid (putN l k os (i + 1) = putN l k os i) := Lib.hid (HEn.out i (by omega) (by rw [HN.out]; omega))
          have HO7 : Hid (wr.ownsRow w.heap.size 35 2 (.slice A' q c') q (wpCells (putN l k os (i + 1))) ∧ (putN l k os (i + 1)).length = q) := Lib.hid (by rw [HSt.out]; exact HO.out)
          go_wp2_with fail
          go_roundw
          case rel => exact ⟨i + 1, A', c', q, by omega, hq, by go_num, rfl, HO7, HB⟩
          case measure => simp [intOf]; omega
    · have hin2 : ¬ (i : Int) ≤ (n : Int) := by omega
      have HE : Hid (WpEnd (putW l k os) w (.returned (.slice A' q c')) wr) := Lib.hid (by
        have h := HO.out
        rw [show i = n + 1 from by omega, HAll.out] at h
        obtain ⟨h1, h2⟩ := h
        rw [← h2] at h1
        have := own_endW h1 HB.out
        rw [h2] at this
        exact this)
      go_wp2_with fail
      go_ret
      exact HE.out
end Go.Proofs.Ytfcpgkbbocadpaa
