/- Folded writes: contracts of Folded, of Marks, of the document's Marks. -/
import Derived.Test.YtpmllckfijfehaaFoldS
import Derived.Deep.RegionLaw
namespace Go.Proofs.Ytpmllckfijfehaa
open Go.Shelf Go.RowKit Go.Lib Go.Sort

set_option maxHeartbeats 4000000 in
set_option maxRecDepth 100000 in
theorem Folded_any {w : World} {A : Option Addr} {c : Nat} {ws : List Wr} (h : WrsAt w w.heap.size A ws) (hn : ws.length ≤ 4000) :
    Calls Try.prog 37 #[.slice A ws.length c] w fun e w' => e = .returned (.bool (eqW ws (foldW ws))) ∧ Below w.heap.size w w' := by
  have HV := Lib.hid h
  have mixed : Try.prog.follows .mixedOrders = true := by kernel_rfl
  obtain ⟨n, hnn⟩ : ∃ n, ws.length = n := ⟨_, rfl⟩
  have HN := Lib.hid hnn
  rw [hnn] at hn ⊢
  clear h hnn
  go_enter Try.func37, Try.ntmps37
  go_wp2
  go_loopg [3] n (fun kx s wr => ∃ k : Nat, k ≤ n ∧ n - k ≤ kx ∧ s = .int .i64 ((k : Int) + 1) ∧ Hid (∀ i, (hi : i + 1 < ws.length) → i < k → ltW ws[i] ws[i + 1] = true) ∧ Hid (Below w.heap.size w wr))
  case atStart => exact ⟨0, Nat.zero_le _, by omega, rfl, Lib.hid (fun i hi h => by omega), Lib.hid (Below.refl _ _)⟩
  case round =>
    obtain ⟨k, hk, hkx, rfl, HI, HB⟩ := hrel
    by_cases hlt : k + 1 < n
    · have hltz : (k : Int) + 1 < (n : Int) := by omega
      have h1 : k < ws.length := by rw [HN.out]; omega
      have h2 : k + 1 < ws.length := by rw [HN.out]; omega
      have hcg := fun q os => compare_any ws[k] ws[k + 1] (grow (wr.drewN q) os)
      obtain ⟨bb, oo, hA1, z0, z1, z2⟩ := HV.out.grown_at HB.out HB.out.size h1
      obtain ⟨bb', oo', hA2, y0, y1, y2⟩ := HV.out.grown_at HB.out HB.out.size h2
      subst hA1
      cases hA2
      have p0 : (0 : Int) ≤ (k : Int) := Int.natCast_nonneg _
      have p1 : (k : Int) < (n : Int) := by omega
      have p2 : (0 : Int) ≤ (k : Int) + 1 := by omega
      have p3 : ((k : Int) + 1).toNat = k + 1 := by omega
      have p4 : IntKind.i64.wrap (k : Int) = (k : Int) := by rw [IntKind.wrap_i64]; omega
      have p5 : IntKind.i64.wrap ((k : Int) + 1 - 1) = (k : Int) := by rw [IntKind.wrap_i64]; omega
      by_cases hc : cmpW ws[k] ws[k + 1] < 0
      · have HI2 : Hid (∀ i, (hi : i + 1 < ws.length) → i < k + 1 → ltW ws[i] ws[i + 1] = true) := Lib.hid (fun i hi h => by
          by_cases e : i = k
          · subst e; exact (cmpW_lt _ _).1 hc
          · exact HI.out i hi (by omega))
        obtain ⟨r, hr⟩ : ∃ r, cmpW ws[k] ws[k + 1] = r := ⟨_, rfl⟩
        rw [hr] at hcg hc
        have hc' : ¬ 0 ≤ r := by omega
        generalize ws[k] = xb at hcg z0 z1 z2
        generalize ws[k + 1] = xi at hcg y0 y1 y2
        clear hr
        go_wp2_with fail
        go_quiet_grown (first | (go_at_call 52; refine Calls.grown_of (hcg _ _)))
        have HB5 : Hid (Below w.heap.size w (grow (wr.drewN nq) osq)) := Lib.hid (HB.out.trans ((below_grown _ nq osq).mono HB.out.size))
        clear z0 z1 z2 y0 y1 y2 hcg
        generalize grow (wr.drewN nq) osq = w5 at HB5 ⊢
        go_wp2_with fail
        go_roundg (n - (k + 1))
        case measure => omega
        case rel => exact ⟨k + 1, by omega, Nat.le_refl _, by first | rfl | go_num | (congr 1; omega), HI2, HB5⟩
      · have HE : Hid (eqW ws (foldW ws) = false) := Lib.hid (eqW_ne (not_fold h2 (by
          cases hq : ltW ws[k] ws[k + 1] with
          | false => rfl
          | true => exact absurd ((cmpW_lt _ _).2 hq) hc)))
        obtain ⟨r, hr⟩ : ∃ r, cmpW ws[k] ws[k + 1] = r := ⟨_, rfl⟩
        rw [hr] at hcg hc
        have hc' : 0 ≤ r := by omega
        generalize ws[k] = xb at hcg z0 z1 z2
        generalize ws[k + 1] = xi at hcg y0 y1 y2
        clear hr hc
        go_wp2_with fail
        go_quiet_grown (first | (go_at_call 52; refine Calls.grown_of (hcg _ _)))
        have HB5 : Hid (Below w.heap.size w (grow (wr.drewN nq) osq)) := Lib.hid (HB.out.trans ((below_grown _ nq osq).mono HB.out.size))
        clear z0 z1 z2 y0 y1 y2 hcg
        generalize grow (wr.drewN nq) osq = w5 at HB5 ⊢
        go_wp2_with fail
        go_ret
        exact ⟨by rw [HE.out]; rfl, HB5.out⟩
    · have hltz : ¬ (k : Int) + 1 < (n : Int) := by omega
      have HE : Hid (eqW ws (foldW ws) = true) := Lib.hid (by
        have : foldW ws = ws := foldW_self (sorted_of (fun i hi => HI.out i hi (by rw [HN.out] at hi; omega)))
        rw [this]; exact eqW_self _)
      go_wp2_with fail
      go_ret
      exact ⟨by rw [HE.out]; rfl, HB.out⟩

def mkOf (x : Wr) : Mk := (x.vol, x.block)
theorem mkOf_take {F : List Wr} {k : Nat} (hk : k < F.length) : (F.take (k + 1)).map mkOf = (F.take k).map mkOf ++ [(F[k].vol, F[k].block)] := by
  rw [List.take_succ_eq_append_getElem hk, List.map_append]; rfl

end Go.Proofs.Ytpmllckfijfehaa
