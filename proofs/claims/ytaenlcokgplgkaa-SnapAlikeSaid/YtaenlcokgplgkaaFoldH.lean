/- Folded writes: contracts of Folded, of Marks, of the document's Marks. -/
import Derived.Test.YtaenlcokgplgkaaFoldS
import Derived.Deep.RegionLaw
namespace Go.Proofs.Ytaenlcokgplgkaa
open Go.Shelf Go.RowKit Go.Lib Go.Sort

set_option maxHeartbeats 4000000 in
set_option maxRecDepth 100000 in
theorem Folded_any {w : World} {A : Option Addr} {c : Nat} {ws : List Wr} (h : WrsAt w w.heap.size A ws) (hn : ws.length ≤ 1000) :
    Calls Try.prog 30 #[.slice A ws.length c] w fun e w' => e = .returned (.bool (eqW ws (foldW ws))) ∧ Below w.heap.size w w' := by
  have HV := Lib.hid h
  have mixed : Try.prog.follows .mixedOrders = true := by kernel_rfl
  obtain ⟨n, hnn⟩ : ∃ n, ws.length = n := ⟨_, rfl⟩
  have HN := Lib.hid hnn
  rw [hnn] at hn ⊢
  clear h hnn
  go_enter Try.func30, Try.ntmps30
  go_wp2
  go_loopg [3] n (fun kx s wr => ∃ k : Nat, k ≤ n ∧ n - k ≤ kx ∧ s = .int .i64 ((k : Int) + 1) ∧ Hid (∀ i, (hi : i + 1 < ws.length) → i < k → ltW ws[i] ws[i + 1] = true) ∧ Hid (Below w.heap.size w wr))
  case atStart => exact ⟨0, Nat.zero_le _, by omega, rfl, Lib.hid (fun i hi h => by omega), Lib.hid (Below.refl _ _)⟩
  case round =>
    obtain ⟨k, hk, hkx, rfl, HI, HB⟩ := hrel
    by_cases hlt : k + 1 < n
    · have hltz : (k : Int) + 1 < (n : Int) := by omega
      have h1 : k < ws.length := by rw [HN.out]; omega
      have h2 : k + 1 < ws.length := by rw [HN.out]; omega
      have hcg := fun q os => compare_any ws[k] ws[k + 1] (grow (wr.drewN q) os)
      obtain ⟨bb, oo, hA1, z0, z1, z2⟩ := HV.out.grown_at HB.out HB.out.size h1
      obtain ⟨bb', oo', hA2, y0, y1, y2⟩ := HV.out.grown_at HB.out HB.out.size h2
      subst hA1
      cases hA2
      have p0 : (0 : Int) ≤ (k : Int) := Int.natCast_nonneg _
      have p1 : (k : Int) < (n : Int) := by omega
      have p2 : (0 : Int) ≤ (k : Int) + 1 := by omega
      have p3 : ((k : Int) + 1).toNat = k + 1 := by omega
      have p4 : IntKind.i64.wrap (k : Int) = (k : Int) := by rw [IntKind.wrap_i64]; omega
      have p5 : IntKind.i64.wrap ((k : Int) + 1 - 1) = (k : Int) := by rw [IntKind.wrap_i64]; omega
      by_cases hc : cmpW ws[k] ws[k + 1] < 0
      · have HI2 : Hid (∀ i, (hi : i + 1 < ws.length) → i < k + 1 → ltW ws[i] ws[i + 1] = true) := Lib.hid (fun i hi h => by
          by_cases e : i = k
          · subst e; exact (cmpW_lt _ _).1 hc
          · exact HI.out i hi (by omega))
        obtain ⟨r, hr⟩ : ∃ r, cmpW ws[k] ws[k + 1] = r := ⟨_, rfl⟩
        rw [hr] at hcg hc
        have hc' : ¬ 0 ≤ r := by omega
        generalize ws[k] = xb at hcg z0 z1 z2
        generalize ws[k + 1] = xi at hcg y0 y1 y2
        clear hr
        go_wp2_with fail
        go_quiet_grown (first | (go_at_call 42; refine Calls.grown_of (hcg _ _)))
        have HB5 : Hid (Below w.heap.size w (grow (wr.drewN nq) osq)) := Lib.hid (HB.out.trans ((below_grown _ nq osq).mono HB.out.size))
        clear z0 z1 z2 y0 y1 y2 hcg
        generalize grow (wr.drewN nq) osq = w5 at HB5 ⊢
        go_wp2_with fail
        go_roundg (n - (k + 1))
        case measure => omega
        case rel => exact ⟨k + 1, by omega, Nat.le_refl _, by first | rfl | go_num | (congr 1; omega), HI2, HB5⟩
      · have HE : Hid (eqW ws (foldW ws) = false) := Lib.hid (eqW_ne (not_fold h2 (by
          cases hq : ltW ws[k] ws[k + 1] with
          | false => rfl
          | true => exact absurd ((cmpW_lt _ _).2 hq) hc)))
        obtain ⟨r, hr⟩ : ∃ r, cmpW ws[k] ws[k + 1] = r := ⟨_, rfl⟩
        rw [hr] at hcg hc
        have hc' : 0 ≤ r := by omega
        generalize ws[k] = xb at hcg z0 z1 z2
        generalize ws[k + 1] = xi at hcg y0 y1 y2
        clear hr hc
        go_wp2_with fail
        go_quiet_grown (first | (go_at_call 42; refine Calls.grown_of (hcg _ _)))
        have HB5 : Hid (Below w.heap.size w (grow (wr.drewN nq) osq)) := Lib.hid (HB.out.trans ((below_grown _ nq osq).mono HB.out.size))
        clear z0 z1 z2 y0 y1 y2 hcg
        generalize grow (wr.drewN nq) osq = w5 at HB5 ⊢
        go_wp2_with fail
        go_ret
        exact ⟨by rw [HE.out]; rfl, HB5.out⟩
    · have hltz : ¬ (k : Int) + 1 < (n : Int) := by omega
      have HE : Hid (eqW ws (foldW ws) = true) := Lib.hid (by
        have : foldW ws = ws := foldW_self (sorted_of (fun i hi => HI.out i hi (by rw [HN.out] at hi; omega)))
        rw [this]; exact eqW_self _)
      go_wp2_with fail
      go_ret
      exact ⟨by rw [HE.out]; rfl, HB.out⟩

theorem Try.infoMk : (Try.prog.info? 75).map (fun i => (i.zero, i.size, i.bytes)) = some (some (.agg #[.int .i64 0, .int .i64 0]), 2, 16) := by kernel_rfl
def mkOf (x : Wr) : Mk := (x.vol, x.block)
theorem mkOf_take {F : List Wr} {k : Nat} (hk : k < F.length) : (F.take (k + 1)).map mkOf = (F.take k).map mkOf ++ [(F[k].vol, F[k].block)] := by
  rw [List.take_succ_eq_append_getElem hk, List.map_append]; rfl

set_option maxHeartbeats 4000000 in
set_option maxRecDepth 100000 in
theorem Marks_any {w : World} {A : Option Addr} {c : Nat} {ws : List Wr} (h : WrsAt w w.heap.size A ws) (hn : ws.length ≤ 1000) :
    Calls Try.prog 26 #[.slice A ws.length c] w (MksEnd (marksW ws) w) := by
  have HC : Hid (∀ c, Calls Try.prog 40 #[.slice A ws.length c] w (WrsEnd (foldW ws) w)) := Lib.hid (fun c => Fold_any h hn)
  have hF : (foldW ws).length ≤ 1000 := by have := foldW_len ws; omega
  rw [show marksW ws = (foldW ws).map mkOf from rfl]
  obtain ⟨F, hFF⟩ : ∃ F, foldW ws = F := ⟨_, rfl⟩
  rw [hFF] at HC hF ⊢
  clear hFF h hn
  obtain ⟨i0, hi0, hz0, hz1, hz2⟩ := info_parts Try.infoMk
  obtain ⟨n, hnn⟩ : ∃ n, F.length = n := ⟨_, rfl⟩
  have HN := Lib.hid hnn
  rw [hnn] at hF
  go_enter Try.func26, Try.ntmps26
  go_wp2_with fail
  refine (HC.out _).mono ?_
  rintro e w1 ⟨A1, c1, rfl, hA1, _, hb1⟩
  have HV := Lib.hid hA1
  have HB1 := Lib.hid hb1
  rw [hnn]
  clear hA1 hb1 hnn HC
  go_wp2_with fail
  go_loopg [3, 9] n (fun kx s3 s9 wr => ∃ k : Nat, s9 = .int .i64 k ∧ k ≤ n ∧ n - k ≤ kx ∧ Hid (wr.ownsRow w1.heap.size 75 2 s3 k (mkCells ((F.take k).map mkOf))) ∧ Hid (Below w1.heap.size w1 wr))
  case atStart => exact ⟨0, rfl, Nat.zero_le _, by omega, Lib.hid (World.ownsRow_nil _ _ _ _), Lib.hid (Below.refl _ _)⟩
  case round =>
    obtain ⟨k, rfl, hk, hkx, HO, HB⟩ := hrel
    obtain ⟨A4, c4, h4, hxx⟩ := own_lies HO.out
    clear hxx
    subst h4
    by_cases hlt : k < n
    · have hltz : (k : Int) < (n : Int) := by omega
      have hkl : k < F.length := by rw [HN.out]; exact hlt
      obtain ⟨b, off, hA, hbl, x1, x2, x3⟩ := HV.out.at_ HB.out hkl
      have HT := Lib.hid (mkOf_take hkl)
      have hwz : w1.heap.size ≤ wr.heap.size := HB.out.size
      have hbw : b < wr.heap.size := by omega
      subst hA
      obtain ⟨x, hx⟩ : ∃ x, F[k] = x := ⟨_, rfl⟩
      rw [hx] at x1 x2 x3 HT
      clear hx hkl
      obtain ⟨vol, block, data⟩ := x
      simp only at x1 x2 x3 HT
      have HB2 := Lib.hid (HB.out.alloc hwz (.cells #[.int .i64 vol, .int .i64 block, .string data] 55))
      have HO2 := Lib.hid (HO.out.alloc (.cells #[.int .i64 vol, .int .i64 block, .string data] 55))
      go_wp2_with (at_builtin; refine wpList_append_own _ rfl (.tmp 13) (.tmp 19) 57 rfl w1.heap.size 75 i0 (.agg #[.int .i64 0, .int .i64 0]) 2 16 Try.underlying57 hi0 hz0 hz1 hz2 rfl (by decide) (.slice A4 k c4) k _ rfl (HO2.out.alloc _) ⟨wr.heap.size + 1, 0, none⟩ 1 1 [.int .i64 vol, .int .i64 block] (by first | rfl | simp) rfl ?c3 (by intro u hu; simp at hu; rcases hu with rfl | rfl <;> rfl) ?c4 ?c5 ?c6 ?_)
      case c3 =>
        intro j u hj
        have := cell_two_new (wr.alloc (.cells #[.int .i64 vol, .int .i64 block, .string data] 55)) (.int .i64 vol) (.int .i64 block) 75 j u hj
        simpa using this
      case c4 => unfold maxLen; omega
      case c5 => omega
      case c6 => simp; omega
      intro v6 w6 hown hg _
      have HO6 : Hid (w6.ownsRow w1.heap.size 75 2 v6 (k + 1) (mkCells ((F.take (k + 1)).map mkOf))) := Lib.hid (by rw [HT.out, mkCells_append]; first | exact hown | (rw [List.map_take]; exact hown))
      have HB6 : Hid (Below w1.heap.size w1 w6) := Lib.hid ((HB2.out.alloc HB2.out.size _).grown hg (by simp; omega) (fun q hq => (HO.out.lt q hq).1))
      clear hown hg x1 x2 x3
      go_wp2_with fail
      go_roundg (n - (k + 1))
      case measure => omega
      case rel => exact ⟨k + 1, by go_num, by omega, Nat.le_refl _, HO6, HB6⟩
    · have hltz : ¬ (k : Int) < (n : Int) := by omega
      have HE : Hid (MksEnd (F.map mkOf) w (.returned (.slice A4 k c4)) wr) := Lib.hid (by
        have hO := HO.out
        have e1 : F.take k = F := List.take_of_length_le (by rw [HN.out]; omega)
        rw [e1] at hO
        have e2 : k = (F.map mkOf).length := by rw [List.length_map, HN.out]; omega
        rw [e2] at hO ⊢
        exact own_endM hO (HB1.out.trans (HB.out.mono HB1.out.size)))
      go_wp2_with fail
      go_ret
      exact HE.out
end Go.Proofs.Ytaenlcokgplgkaa
