/- Bitmaps: contract of Join. -/
import Derived.Test.YtpefhocjnkbklaaDirH
namespace Go.Proofs.Ytpefhocjnkbklaa
open Go.RowKit

/-- The tables of Join, list by list. -/
def jt (a b : List Bt) : Nat → Nat → Nat
  | 0 => noT
  | 1 => orT noT (ents a)
  | _ => joinT a b
theorem ents_take {m : List Bt} {k : Nat} (hk : k < m.length) : ents (m.take (k + 1)) = ents (m.take k) ++ [(m[k].vol.toNat, m[k].mask.toNat)] := by
  unfold ents
  rw [List.take_succ_eq_append_getElem hk, List.map_append]; rfl
theorem orT_small {f : Nat → Nat} {m : List Bt} {k : Nat} (hf : ∀ v, f v < 2 ^ 32) (h : bitsOk m = true) (v : Nat) : orT f (ents (m.take k)) v < 2 ^ 32 :=
  orT_lt hf (fun p hp => by
    unfold ents at hp
    obtain ⟨b, hb, rfl⟩ := List.mem_map.1 hp
    have := bitsFrom_le h b (List.mem_of_mem_take hb)
    show b.mask.toNat < 2 ^ 32
    omega) v
theorem or_cell {F x : Nat} {F' x' : Int} (hF : (F : Int) = F') (hx : x' = (x : Int)) (h1 : F < 4294967296) (h2 : x < 4294967296) : bits .or .u64 F' x' = ((F ||| x : Nat) : Int) := by
  subst hF hx
  exact u64_or_nat F x (by omega) (by omega)

def joinE (a b : List Bt) : Int := if (bitsOk a && bitsOk b) = true then 0 else 1
def joinR (a b : List Bt) : List Bt := if (bitsOk a && bitsOk b) = true then joinM a b else []
theorem joinE_ok {a b : List Bt} (ha : bitsOk a = true) (hb : bitsOk b = true) : joinE a b = 0 ∧ joinR a b = joinM a b := by unfold joinE joinR; rw [ha, hb]; exact ⟨rfl, rfl⟩
theorem joinE_a {a b : List Bt} (ha : bitsOk a = false) : joinE a b = 1 ∧ joinR a b = [] := by unfold joinE joinR; rw [ha]; exact ⟨rfl, rfl⟩
theorem joinE_b {a b : List Bt} (hb : bitsOk b = false) : joinE a b = 1 ∧ joinR a b = [] := by unfold joinE joinR; rw [hb, Bool.and_false]; exact ⟨rfl, rfl⟩

set_option maxHeartbeats 4000000 in
set_option maxRecDepth 100000 in
theorem Join_any {w : World} {A1 A2 : Option Addr} {c1 c2 : Nat} {a b : List Bt} (h1 : BtsAt w w.heap.size A1 a) (h2 : BtsAt w w.heap.size A2 b) (hf1 : BtsFit a) (hf2 : BtsFit b) :
    Calls Try.prog 19 #[.slice A1 a.length c1, .slice A2 b.length c2] w (BtsEnd (joinR a b) (.int .i64 (joinE a b)) w) := by
  have H1 := Lib.hid h1
  have H2 := Lib.hid h2
  have F1 := Lib.hid hf1
  have F2 := Lib.hid hf2
  clear h1 h2 hf1 hf2
  cases ha : bitsOk a with
  | false =>
    rw [(joinE_a ha).1, (joinE_a ha).2]
    have HR : Hid (∀ c, Calls Try.prog 12 #[.slice A1 a.length c] w fun e w' => e = .returned (.bool false) ∧ Below w.heap.size w w') := Lib.hid (fun c => by
      refine (DirRight_any H1.out F1.out.1).mono ?_; rw [ha]; exact fun _ _ h => h)
    clear ha
    go_enter Try.func19, Try.ntmps19
    go_wp2_with (go_at_call 12; refine (HR.out _).mono ?_; rintro e w1 ⟨rfl, hb⟩; replace hb := Lib.hid hb)
    go_ret2
    exact BtsEnd.none_ _ hb.out
  | true =>
    have HR : Hid (∀ c, Calls Try.prog 12 #[.slice A1 a.length c] w fun e w' => e = .returned (.bool true) ∧ Below w.heap.size w w') := Lib.hid (fun c => by
      refine (DirRight_any H1.out F1.out.1).mono ?_; rw [ha]; exact fun _ _ h => h)
    cases hb : bitsOk b with
    | false =>
      rw [(joinE_b hb).1, (joinE_b hb).2]
      have HR2 : Hid (∀ c w1, Below w.heap.size w w1 → Calls Try.prog 12 #[.slice A2 b.length c] w1 fun e w' => e = .returned (.bool false) ∧ Below w.heap.size w w') := Lib.hid (fun c w1 h => by
        refine (DirRight_any (H2.out.next h) F2.out.1).mono ?_; rw [hb]; exact fun _ _ h3 => ⟨h3.1, below_next h h3.2⟩)
      clear ha hb
      go_enter Try.func19, Try.ntmps19
      go_wp2_with fail
      refine (HR.out _).mono ?_
      rintro e w1 ⟨rfl, hb1⟩
      replace hb1 := Lib.hid hb1
      go_wp2_with fail
      refine (HR2.out _ _ hb1.out).mono ?_
      rintro e w2 ⟨rfl, hb2⟩
      replace hb2 := Lib.hid hb2
      go_wp2_with fail
      go_ret2
      exact BtsEnd.none_ _ hb2.out
    | true =>
      rw [(joinE_ok ha hb).1, (joinE_ok ha hb).2]
      have HR2 : Hid (∀ c w1, Below w.heap.size w w1 → Calls Try.prog 12 #[.slice A2 b.length c] w1 fun e w' => e = .returned (.bool true) ∧ Below w.heap.size w w') := Lib.hid (fun c w1 h => by
        refine (DirRight_any (H2.out.next h) F2.out.1).mono ?_; rw [hb]; exact fun _ _ h3 => ⟨h3.1, below_next h h3.2⟩)
      have HOk1 := Lib.hid ha
      have HOk2 := Lib.hid hb
      have hz := (zero_of_info Try.infoMasks).1
      clear ha hb
      go_enter Try.func19, Try.ntmps19
      go_wp2_with fail
      refine (HR.out _).mono ?_
      rintro e w1 ⟨rfl, hb1⟩
      replace hb1 := Lib.hid hb1
      go_wp2_with fail
      refine (HR2.out _ _ hb1.out).mono ?_
      rintro e w2 ⟨rfl, hb2⟩
      replace hb2 := Lib.hid hb2
      go_wp2_with fail
      clear hz
      rw [← mskCells_zero]
      have hs2 : w.heap.size ≤ w2.heap.size := hb2.out.size
      have HT0 : Hid (((w2.alloc (.cells (mskCells noT) 72)).alloc (.cells #[.slice A1 a.length c1, .slice A2 b.length c2] 22)).heap[w2.heap.size]? = some (.cells (mskCells noT) 72 (0, 0))) := Lib.hid (by
        rw [heap_alloc_old _ _ (by simp), heap_alloc_new])
      have HS0 : Hid (((w2.alloc (.cells (mskCells noT) 72)).alloc (.cells #[.slice A1 a.length c1, .slice A2 b.length c2] 22)).heap[w2.heap.size + 1]? = some (.cells #[.slice A1 a.length c1, .slice A2 b.length c2] 22 (0, 0))) := Lib.hid (heap_alloc2_new _ _ _)
      have HB0 : Hid (Below w.heap.size w ((w2.alloc (.cells (mskCells noT) 72)).alloc (.cells #[.slice A1 a.length c1, .slice A2 b.length c2] 22))) := Lib.hid ((hb2.out.alloc hs2 _).alloc (by simp; omega) _)
      generalize (w2.alloc (.cells (mskCells noT) 72)).alloc (.cells #[.slice A1 a.length c1, .slice A2 b.length c2] 22) = W0 at *
      have HJt : Hid (∀ t, t < 2 → ∃ (l : List Bt) (A : Option Addr) (c : Nat), BtsAt w w.heap.size A l ∧ BtsFit l ∧ bitsOk l = true ∧ (#[Value.slice A1 a.length c1, Value.slice A2 b.length c2] : Array Value)[t]? = some (.slice A l.length c) ∧ jt a b (t + 1) = orT (jt a b t) (ents l) ∧ ∀ v, jt a b t v < 2 ^ 32) := Lib.hid fun t ht => by
        have hn : ∀ v, noT v < 2 ^ 32 := fun v => by unfold noT; decide
        match t, ht with
        | 0, _ => exact ⟨a, A1, c1, H1.out, F1.out, HOk1.out, rfl, rfl, hn⟩
        | 1, _ => exact ⟨b, A2, c2, H2.out, F2.out, HOk2.out, rfl, rfl, fun v => orT_lt hn (ents_lt HOk1.out) v⟩
      have HEnd : Hid (listT (jt a b 2) = joinM a b) := Lib.hid rfl
      generalize w2.heap.size = H at *
      clear hb1 HR HR2
      go_loopg [23] 2 (fun kx s23 wr => ∃ (t : Nat), s23 = .int .i64 t ∧ t ≤ 2 ∧ 2 - t ≤ kx ∧ Hid (wr.heap[H]? = some (.cells (mskCells (jt a b t)) 72 (0, 0))) ∧ Hid (wr.heap[H + 1]? = some (.cells #[.slice A1 a.length c1, .slice A2 b.length c2] 22 (0, 0))) ∧ Hid (Below w.heap.size w wr))
      case atStart => exact ⟨0, rfl, by omega, by omega, HT0, HS0, HB0⟩
      case round =>
        clear HT0 HS0 HB0
        obtain ⟨t, rfl, ht2, htx, HT, HS, HB⟩ := hrel
        by_cases htl : t < 2
        · have htz : (t : Int) < 2 := by omega
          have ht0 : (0 : Int) ≤ (t : Int) := Int.natCast_nonneg _
          obtain ⟨l, A, c, g1, g2, g3, g4, g5, g6⟩ := HJt.out t htl
          have G1 := Lib.hid g1
          have G2 := Lib.hid g2
          have G3 := Lib.hid g3
          have G5 := Lib.hid g5
          have G6 := Lib.hid g6
          have d1 : wr.cell? ⟨H + 1, t, none⟩ = some (.slice A l.length c) := by rw [Lib.cell_of_heap HS.out]; exact g4
          have hsz : (#[Value.slice A1 a.length c1, Value.slice A2 b.length c2] : Array Value).size = 2 := rfl
          obtain ⟨n, hn⟩ : ∃ n, l.length = n := ⟨_, rfl⟩
          have HN := Lib.hid hn
          have hnl : n ≤ 255 := by rw [← hn]; exact bitsOk_length g3
          rw [hn] at d1
          clear g1 g2 g3 g4 g5 g6 hn hsz
          go_wp2_with fail
          go_loopg [29] n (fun kx s29 ws => ∃ (k : Nat), s29 = .int .i64 k ∧ k ≤ n ∧ n - k ≤ kx ∧ Hid (ws.heap[H]? = some (.cells (mskCells (orT (jt a b t) (ents (l.take k)))) 72 (0, 0))) ∧ Hid (ws.heap[H + 1]? = some (.cells #[.slice A1 a.length c1, .slice A2 b.length c2] 22 (0, 0))) ∧ Hid (Below w.heap.size w ws))
          case atStart => exact ⟨0, rfl, Nat.zero_le _, by omega, HT, HS, HB⟩
          case round =>
            clear HT HS HB
            obtain ⟨k, rfl, hk, hkx, HT, HS, HB⟩ := hrel
            by_cases hlt : k < n
            · have hltz : (k : Int) < (n : Int) := by omega
              have hkl : k < l.length := by rw [HN.out]; exact hlt
              obtain ⟨b0, off, hA, hbl, x1, x2⟩ := G1.out.at_ HB.out hkl
              have hbw : b0 < wr.heap.size := Nat.lt_of_lt_of_le hbl HB.out.size
              have hwz : w.heap.size ≤ wr.heap.size := HB.out.size
              have hHs : H < wr.heap.size := (Array.getElem?_eq_some_iff.1 HT.out).1
              have hHs1 : H + 1 < wr.heap.size := (Array.getElem?_eq_some_iff.1 HS.out).1
              subst hA
              have HTk := Lib.hid (ents_take hkl)
              have HMk := Lib.hid (bitsFrom_le G3.out _ (List.getElem_mem hkl))
              have HMf := Lib.hid (G2.out.2 _ (List.getElem_mem hkl))
              have HSm := Lib.hid (fun v => orT_small (k := k) G6.out G3.out v)
              obtain ⟨x, hx⟩ : ∃ x, l[k] = x := ⟨_, rfl⟩
              rw [hx] at x1 x2 HTk HMk HMf
              clear hx hkl
              obtain ⟨i1, u1⟩ := x
              simp only at x1 x2 HTk HMk HMf
              obtain ⟨V, hV⟩ : ∃ V : Nat, i1 = (V : Int) := ⟨i1.toNat, by have := HMk.out; omega⟩
              subst hV
              rw [Int.toNat_natCast] at HTk
              have hV2 : (V : Int) < 256 := by have := HMk.out; omega
              have hV3 : V < 256 := by omega
              have hV0 : (0 : Int) ≤ (V : Int) := Int.natCast_nonneg _
              obtain ⟨F, hF⟩ : ∃ F : Nat, orT (jt a b t) (ents (l.take k)) V = F := ⟨_, rfl⟩
              have hFl : F < 4294967296 := by rw [← hF]; exact HSm.out V
              have hor := or_cell (F := F) (x := u1.toNat) (F' := (F : Int)) (x' := u1) rfl (by have := HMf.out; omega) hFl (by have := HMk.out; omega)
              obtain ⟨R, hR⟩ : ∃ R : Int, ((F ||| u1.toNat : Nat) : Int) = R := ⟨_, rfl⟩
              rw [hR] at hor
              obtain ⟨F', hF'⟩ : ∃ F' : Int, (F : Int) = F' := ⟨_, rfl⟩
              rw [hF'] at hor
              have HF := Lib.hid hF'
              have HRo := Lib.hid hR
              clear hR hF'
              go_wp2_with fail
              clear x1 x2 hbw hbl
              have K1 : Hid ((wr.alloc (.cells #[.int .i64 V, .int .u64 u1] 66)).heap[H]? = some (.cells (mskCells (orT (jt a b t) (ents (l.take k)))) 72 (0, 0))) := Lib.hid (by rw [heap_alloc_old _ _ hHs]; exact HT.out)
              have K2 : Hid ((wr.alloc (.cells #[.int .i64 V, .int .u64 u1] 66)).heap[H + 1]? = some (.cells #[.slice A1 a.length c1, .slice A2 b.length c2] 22 (0, 0))) := Lib.hid (by rw [heap_alloc_old _ _ hHs1]; exact HS.out)
              have K3 : Hid ((wr.alloc (.cells #[.int .i64 V, .int .u64 u1] 66)).heap[wr.heap.size]? = some (.cells #[.int .i64 V, .int .u64 u1] 66 (0, 0))) := Lib.hid (heap_alloc_new _ _)
              have K4 : Hid (Below w.heap.size w (wr.alloc (.cells #[.int .i64 V, .int .u64 u1] 66))) := Lib.hid (HB.out.alloc hwz _)
              have hne : H ≠ wr.heap.size := by omega
              have hne2 : wr.heap.size ≠ H := by omega
              generalize wr.alloc (.cells #[.int .i64 V, .int .u64 u1] 66) = W1 at *
              generalize wr.heap.size = B at *
              have e1 : W1.cell? ⟨B, 0, none⟩ = some (.int .i64 V) := by rw [Lib.cell_of_heap K3.out]; rfl
              have e2 : W1.cell? ⟨B, 1, none⟩ = some (.int .u64 u1) := by rw [Lib.cell_of_heap K3.out]; rfl
              have e3 : W1.cell? ⟨H, V, none⟩ = some (.int .u64 F') := by rw [Lib.cell_of_heap K1.out, mskCells_at hV3, hF, HF.out]
              have e4 : W1.frozen? ⟨H, V, none⟩ = false := Lib.frozen_of_heap K1.out V
              have M1 : Hid ((W1.setCell ⟨H, V, none⟩ (.int .u64 R)).drew.heap[H]? = some (.cells (mskCells (orT (jt a b t) (ents (l.take (k + 1))))) 72 (0, 0))) := Lib.hid (by
                rw [HTk.out, orT_more, ← mskCells_set, hF, HRo.out]
                exact row_set K1.out V _)
              have M2 : Hid ((W1.setCell ⟨H, V, none⟩ (.int .u64 R)).drew.heap[H + 1]? = some (.cells #[.slice A1 a.length c1, .slice A2 b.length c2] 22 (0, 0))) := Lib.hid (by
                rw [show (W1.setCell ⟨H, V, none⟩ (.int .u64 R)).drew.heap = (W1.setCell ⟨H, V, none⟩ (.int .u64 R)).heap from rfl, Below.heap_setCell _ _ _ _ (by simp)]
                exact K2.out)
              have M3 : Hid (Below w.heap.size w (W1.setCell ⟨H, V, none⟩ (.int .u64 R)).drew) := Lib.hid ((K4.out.setCell (by simpa using hs2) _).trans ⟨rfl, rfl, rfl, Nat.le_refl _, fun _ _ => rfl⟩)
              clear hF hFl HT HS HB hHs hHs1 hwz K1 K2 K3 K4
              go_region
              generalize (W1.setCell ⟨H, V, none⟩ (.int .u64 R)).drew = W2 at *
              clear e1 e2 e3 e4
              go_wp2_with fail
              go_roundg (n - (k + 1))
              case measure => omega
              case rel => exact ⟨k + 1, by go_num, by omega, Nat.le_refl _, M1, M2, M3⟩
            · have hltz : ¬ (k : Int) < (n : Int) := by omega
              have HT2 : Hid (wr.heap[H]? = some (.cells (mskCells (jt a b (t + 1))) 72 (0, 0))) := Lib.hid (by
                have h := HT.out
                rw [List.take_of_length_le (by rw [HN.out]; omega)] at h
                rw [G5.out]; exact h)
              go_wp2_with fail
              go_roundg (2 - (t + 1))
              case measure => omega
              case rel => exact ⟨t + 1, by go_num, by omega, Nat.le_refl _, HT2, HS, HB⟩
        · have htz : ¬ (t : Int) < 2 := by omega
          have hte : t = 2 := by omega
          subst hte
          have HCl := Lib.hid (list_any HT.out)
          go_wp2_with fail
          refine HCl.out.mono ?_
          rintro e w5 ⟨A5, c5, rfl, hA5, hb5⟩
          have HE : Hid (BtsEnd (joinM a b) (.int .i64 0) w (.returned (.tuple #[.slice A5 (listT (jt a b 2)).length c5, .int .i64 0])) w5) := Lib.hid ⟨A5, c5, rfl, hA5, below_next HB.out hb5⟩
          clear hA5 hb5
          go_wp2_with fail
          go_ret2
          exact HE.out
end Go.Proofs.Ytpefhocjnkbklaa
