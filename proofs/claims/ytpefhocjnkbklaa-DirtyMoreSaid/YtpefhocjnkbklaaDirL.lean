/- Bitmaps: contracts of the document's Names and All. -/
import Derived.Test.YtpefhocjnkbklaaDirJ
import Derived.Test.YtpefhocjnkbklaaDirK
namespace Go.Proofs.Ytpefhocjnkbklaa
open Go.RowKit

set_option maxHeartbeats 4000000 in
set_option maxRecDepth 100000 in
theorem Names_any {w : World} {A : Option Addr} {c : Nat} {ws : List Wr} (h : WrsAt w w.heap.size A ws) (hl : ws.length ≤ 1000) :
    Calls Try.prog 23 #[.slice A ws.length c] w (MksRow (namesW ws) w) := by
  have HV := Lib.hid h
  obtain ⟨i0, hi0, hz0, hz1, hz2⟩ := info_parts Try.infoMk
  obtain ⟨n, hn⟩ : ∃ n, ws.length = n := ⟨_, rfl⟩
  have HN := Lib.hid hn
  rw [hn] at hl ⊢
  clear h hn
  go_enter Try.func23, Try.ntmps23
  go_wp2_with fail
  go_loopg [3, 4] n (fun kx s3 s4 wr => ∃ k : Nat, s4 = .int .i64 k ∧ k ≤ n ∧ n - k ≤ kx ∧ Hid (wr.ownsRow w.heap.size 34 2 s3 k (mkCells (namesW (ws.take k)))) ∧ Hid (Below w.heap.size w wr))
  case atStart => exact ⟨0, rfl, Nat.zero_le _, by omega, Lib.hid (World.ownsRow_nil _ _ _ _), Lib.hid (Below.refl _ _)⟩
  case round =>
    obtain ⟨k, rfl, hk, hkx, HO, HB⟩ := hrel
    obtain ⟨A4, c4, h4, hxx⟩ := own_lies HO.out
    clear hxx
    subst h4
    by_cases hlt : k < n
    · have hltz : (k : Int) < (n : Int) := by omega
      have hkl : k < ws.length := by rw [HN.out]; exact hlt
      obtain ⟨b, off, hA, hbl, x1, x2, x3⟩ := HV.out.at_ HB.out hkl
      have HT := Lib.hid (namesW_take hkl)
      have hwz : w.heap.size ≤ wr.heap.size := HB.out.size
      have hbw : b < wr.heap.size := by omega
      subst hA
      obtain ⟨x, hx⟩ : ∃ x, ws[k] = x := ⟨_, rfl⟩
      rw [hx] at x1 x2 x3 HT
      clear hx hkl
      obtain ⟨vol, block, data⟩ := x
      simp only at x1 x2 x3 HT
      have p0 : (0 : Int) ≤ (k : Int) := Int.natCast_nonneg _
      have HOd : Hid (wr.drew.ownsRow w.heap.size 34 2 (.slice A4 k c4) k (mkCells (namesW (ws.take k)))) := Lib.hid HO.out
      have hsz : wr.drew.heap.size = wr.heap.size := rfl
      go_wp2_with fail
      go_region_law (refine step_append_lies _ (by rfl) _ _ _ (by rfl) w.heap.size 34 i0 (.agg #[.int .i64 0, .int .i64 0]) 2 16 Try.underlying31 hi0 hz0 hz1 hz2 rfl (by decide) (.slice A4 k c4) k (mkCells (namesW (ws.take k))) (by rfl) (HOd.out.alloc _) ⟨wr.heap.size, 0, none⟩ 1 1 [.int .i64 vol, .int .i64 block] (by rfl) (by rfl) (cell_two_new _ _ _ _) (by simp [Value.oneCell']) (by omega) (by unfold maxLen; omega) (by omega) (by simp; omega) (wr.heap.size + 1) (by simp) ?_; intro g cap w6 hown hg hat hltg)
      all_goals
        have HO6 : Hid (w6.ownsRow w.heap.size 34 2 (.slice (some ⟨g, 0, none⟩) (k + 1) cap) (k + 1) (mkCells (namesW (ws.take (k + 1))))) := Lib.hid (by rw [HT.out, mkCells_append]; exact hown)
        have HB6 : Hid (Below w.heap.size w w6) := Lib.hid ((HB.out.drew.alloc hwz _).grown hg (by simp; omega) (fun q hq => (HO.out.lt q hq).1))
        clear hown hg hat hltg x1 x2 x3
        go_wp2_with fail
        go_roundg (n - (k + 1))
        case measure => omega
        case rel => exact ⟨k + 1, by go_num, by omega, Nat.le_refl _, HO6, HB6⟩
    · have hltz : ¬ (k : Int) < (n : Int) := by omega
      have HE : Hid (MksRow (namesW ws) w (.returned (.slice A4 k c4)) wr) := Lib.hid (by
        have hO := HO.out
        have e1 : ws.take k = ws := List.take_of_length_le (by rw [HN.out]; omega)
        rw [e1] at hO
        have e2 : k = (namesW ws).length := by unfold namesW; rw [List.length_map, HN.out]; omega
        rw [e2] at hO ⊢
        exact own_rowM hO (Nat.le_refl _) HB.out)
      go_wp2_with fail
      go_ret
      exact HE.out

def upTo (v : Int) (q : Nat) : List Mk := (List.range q).map fun (i : Nat) => (v, (i : Int))
theorem upTo_succ (v : Int) (q : Nat) : upTo v (q + 1) = upTo v q ++ [(v, (q : Int))] := by unfold upTo; rw [List.range_succ, List.map_append]; rfl
theorem upTo_length (v : Int) (q : Nat) : (upTo v q).length = q := by simp [upTo]
def allMk (vs : List Vl) : List Mk := vs.flatMap fun v => upTo v.1 v.2.length
theorem allMk_take {vs : List Vl} {k : Nat} (hk : k < vs.length) : allMk (vs.take (k + 1)) = allMk (vs.take k) ++ upTo vs[k].1 vs[k].2.length := by
  unfold allMk
  rw [List.take_succ_eq_append_getElem hk, List.flatMap_append]; simp

set_option maxHeartbeats 4000000 in
set_option maxRecDepth 100000 in
theorem DocAll_any {w : World} {A : Option Addr} {c : Nat} {vs : List Vl} (h : VolsAt w w.heap.size A vs) (hl : vs.length ≤ 4) (hb : ∀ v ∈ vs, v.2.length ≤ 32) :
    Calls Try.prog 26 #[.slice A vs.length c] w (MksRow (allMk vs) w) := by
  have HV := Lib.hid h
  have HBo := Lib.hid hb
  obtain ⟨i0, hi0, hz0, hz1, hz2⟩ := info_parts Try.infoMk
  obtain ⟨n, hn⟩ : ∃ n, vs.length = n := ⟨_, rfl⟩
  have HN := Lib.hid hn
  rw [hn] at hl ⊢
  clear h hn hb
  go_enter Try.func26, Try.ntmps26
  go_wp2_with fail
  go_loopg [3, 4] n (fun kx s3 s4 wr => ∃ k j : Nat, s4 = .int .i64 k ∧ k ≤ n ∧ n - k ≤ kx ∧ j ≤ k * 32 ∧ (allMk (vs.take k)).length = j ∧ Hid (wr.ownsRow w.heap.size 34 2 s3 j (mkCells (allMk (vs.take k)))) ∧ Hid (Below w.heap.size w wr))
  case atStart => exact ⟨0, 0, rfl, Nat.zero_le _, by omega, Nat.le_refl _, rfl, Lib.hid (World.ownsRow_nil _ _ _ _), Lib.hid (Below.refl _ _)⟩
  case round =>
    obtain ⟨k, j, rfl, hk, hkx, hj, hjl, HO, HB⟩ := hrel
    obtain ⟨A4, c4, h4, hxx⟩ := own_lies HO.out
    clear hxx
    subst h4
    by_cases hlt : k < n
    · have hltz : (k : Int) < (n : Int) := by omega
      have hk0 : (0 : Int) ≤ (k : Int) := Int.natCast_nonneg _
      have hkl : k < vs.length := by rw [HN.out]; exact hlt
      obtain ⟨b, off, a, c', hA, hbl, x1, x2, hly⟩ := HV.out.at_ (Below.refl _ _) hkl
      have HT := Lib.hid (allMk_take hkl)
      have hm32 := HBo.out _ (List.getElem_mem hkl)
      subst hA
      obtain ⟨x, hx⟩ : ∃ x, vs[k] = x := ⟨_, rfl⟩
      rw [hx] at x1 x2 HT hm32
      clear hly hx hkl
      obtain ⟨i1, bs⟩ := x
      simp only at x1 x2 HT hm32
      obtain ⟨m, hm⟩ : ∃ m, bs.length = m := ⟨_, rfl⟩
      rw [hm] at x2 HT hm32
      clear hm
      have HCell : Hid (∀ ws, Below w.heap.size w ws → ws.cell? ⟨b, off + k * 2, none⟩ = some (.int .i64 i1) ∧ ws.cell? ⟨b, off + k * 2 + 1, none⟩ = some (.slice a m c')) := Lib.hid fun ws hb => by
        rw [hb.cell (p := ⟨b, off + k * 2, none⟩) hbl, hb.cell (p := ⟨b, off + k * 2 + 1, none⟩) hbl]; exact ⟨x1, x2⟩
      clear x1 x2
      obtain ⟨ms, hms⟩ : ∃ ms, allMk (vs.take k) = ms := ⟨_, rfl⟩
      rw [hms] at HO HT hjl
      clear hms
      go_wp2_with fail
      go_loopg [3, 5] m (fun kx s3 s5 ws => ∃ (q p : Nat), s5 = .int .i64 q ∧ q ≤ m ∧ m - q ≤ kx ∧ Hid (p = j + q) ∧ Hid (ws.ownsRow w.heap.size 34 2 s3 p (mkCells (ms ++ upTo i1 q))) ∧ Hid (Below w.heap.size w ws))
      case atStart => exact ⟨0, j, rfl, Nat.zero_le _, by omega, Lib.hid rfl, Lib.hid (by rw [show ms ++ upTo i1 0 = ms from by simp [upTo]]; exact HO.out), HB⟩
      case round =>
        clear HO HB
        obtain ⟨q, p, rfl, hq, hqx, HP, HO, HB⟩ := hrel
        have hpb : p ≤ 1000 := by have := HP.out; omega
        obtain ⟨A5, c5, h5, hxx⟩ := own_lies HO.out
        clear hxx
        subst h5
        have d1 := (HCell.out _ HB.out).1
        have d2 := (HCell.out _ HB.out).2
        by_cases hq2 : q < m
        · have hlq : (q : Int) < (m : Int) := by omega
          go_wp2_with (at_builtin; refine wpList_append_own_at _ rfl (.tmp 22) (.tmp 30) 31 rfl w.heap.size 34 i0 (.agg #[.int .i64 0, .int .i64 0]) 2 16 Try.underlying31 hi0 hz0 hz1 hz2 rfl (by decide) (.slice A5 p c5) p _ rfl (HO.out.alloc _) ⟨wr.heap.size, 0, none⟩ 1 1 [.int .i64 i1, .int .i64 q] (by first | rfl | simp) rfl ?c3 (by intro u hu; simp at hu; rcases hu with rfl | rfl <;> rfl) ?c4 ?c5 ?c6 ?_)
          case c3 =>
            intro j u hj
            have := cell_two_new wr (.int .i64 i1) (.int .i64 q) 34 j u hj
            simpa using this
          case c4 => unfold maxLen; omega
          case c5 => omega
          case c6 => have := HB.out.size; simp; omega
          intro v6 w6 hown hg _ _
          have HO6 : Hid (w6.ownsRow w.heap.size 34 2 v6 (p + 1) (mkCells (ms ++ upTo i1 (q + 1)))) := Lib.hid (by rw [upTo_succ, ← List.append_assoc, mkCells_append _ [_]]; exact hown)
          have HB6 : Hid (Below w.heap.size w w6) := Lib.hid ((HB.out.alloc HB.out.size _).grown hg (by have := HB.out.size; simp; omega) (fun q hq => (HO.out.lt q hq).1))
          clear hown hg d1 d2 HO HB
          go_wp2_with fail
          go_roundg (m - (q + 1))
          case measure => omega
          case rel => exact ⟨q + 1, p + 1, by go_num, by omega, Nat.le_refl _, Lib.hid (by have := HP.out; omega), HO6, HB6⟩
        · have hlq : ¬ (q : Int) < (m : Int) := by omega
          have hqm : q = m := by omega
          have HO2 : Hid (wr.ownsRow w.heap.size 34 2 (.slice A5 p c5) p (mkCells (allMk (vs.take (k + 1))))) := Lib.hid (by rw [HT.out, ← hqm]; exact HO.out)
          have hlen : (allMk (vs.take (k + 1))).length = p := by rw [HT.out, List.length_append, upTo_length, hjl, HP.out, hqm]
          have hpj : p ≤ (k + 1) * 32 := by have := HP.out; omega
          clear HT HP hqm
          go_wp2_with fail
          go_roundg (n - (k + 1))
          case measure => omega
          case rel => exact ⟨k + 1, p, by go_num, by omega, Nat.le_refl _, hpj, hlen, HO2, HB⟩
    · have hltz : ¬ (k : Int) < (n : Int) := by omega
      have HE : Hid (MksRow (allMk vs) w (.returned (.slice A4 j c4)) wr) := Lib.hid (by
        have hO := HO.out
        have e1 : vs.take k = vs := List.take_of_length_le (by rw [HN.out]; omega)
        rw [e1] at hO hjl
        rw [← hjl] at hO ⊢
        exact own_rowM hO (Nat.le_refl _) HB.out)
      go_wp2_with fail
      go_ret
      exact HE.out
end Go.Proofs.Ytpefhocjnkbklaa
