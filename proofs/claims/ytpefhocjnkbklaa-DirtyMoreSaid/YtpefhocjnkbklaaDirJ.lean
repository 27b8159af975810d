/- Bitmaps: contracts of Set and Of. -/
import Derived.Test.YtpefhocjnkbklaaDirI
namespace Go.Proofs.Ytpefhocjnkbklaa
open Go.RowKit

def setE (m : List Bt) (v b : Int) : Int := if bitsOk m = true then (if mayB (v, b) = true then 0 else 10) else 1
def setR (m : List Bt) (v b : Int) : List Bt := if bitsOk m = true then (if mayB (v, b) = true then joinM m (oneM v b) else []) else []
theorem setE_not {m : List Bt} {v b : Int} (h : bitsOk m = false) : setE m v b = 1 ∧ setR m v b = [] := by unfold setE setR; rw [h]; exact ⟨rfl, rfl⟩
theorem setE_may {m : List Bt} {v b : Int} (h : bitsOk m = true) (h2 : mayB (v, b) = false) : setE m v b = 10 ∧ setR m v b = [] := by unfold setE setR; rw [h, h2]; exact ⟨rfl, rfl⟩
theorem setE_ok {m : List Bt} {v b : Int} (h : bitsOk m = true) (h2 : mayB (v, b) = true) : setE m v b = 0 ∧ setR m v b = joinM m (oneM v b) := by unfold setE setR; rw [h, h2]; exact ⟨rfl, rfl⟩
theorem oneM_fit {v b : Int} (h : mayB (v, b) = true) : BtsFit (oneM v b) := by
  refine ⟨by simp [oneM], fun x hx => ?_⟩
  have hb := mayB_block h
  have := two_pow_lt (n := b.toNat) (by omega)
  simp only [oneM, List.mem_singleton] at hx
  subst hx
  simp only
  omega

set_option maxHeartbeats 2000000 in
set_option maxRecDepth 100000 in
theorem Set_any {w : World} {A : Option Addr} {c : Nat} {m : List Bt} (h : BtsAt w w.heap.size A m) (hf : BtsFit m) (v b : Int) :
    Calls Try.prog 15 #[.slice A m.length c, .int .i64 v, .int .i64 b] w (BtsEnd (setR m v b) (.int .i64 (setE m v b)) w) := by
  have HV := Lib.hid h
  have HF := Lib.hid hf
  clear h hf
  cases hr : bitsOk m with
  | false =>
    rw [(setE_not hr).1, (setE_not hr).2]
    have HR : Hid (∀ c, Calls Try.prog 12 #[.slice A m.length c] w fun e w' => e = .returned (.bool false) ∧ Below w.heap.size w w') := Lib.hid (fun c => by
      refine (DirRight_any HV.out HF.out.1).mono ?_; rw [hr]; exact fun _ _ h => h)
    clear hr
    go_enter Try.func15, Try.ntmps15
    go_wp2_with (go_at_call 12; refine (HR.out _).mono ?_; rintro e w1 ⟨rfl, hb⟩; replace hb := Lib.hid hb)
    go_ret2
    exact BtsEnd.none_ _ hb.out
  | true =>
    have HR : Hid (∀ c, Calls Try.prog 12 #[.slice A m.length c] w fun e w' => e = .returned (.bool true) ∧ Below w.heap.size w w') := Lib.hid (fun c => by
      refine (DirRight_any HV.out HF.out.1).mono ?_; rw [hr]; exact fun _ _ h => h)
    cases hm : mayB (v, b) with
    | false =>
      rw [(setE_may hr hm).1, (setE_may hr hm).2]
      have HM := Lib.hid hm
      clear hr hm
      go_enter Try.func15, Try.ntmps15
      go_wp2_with (first
        | (go_at_call 12; refine (HR.out _).mono ?_; rintro e w1 ⟨rfl, hb⟩; replace hb := Lib.hid hb)
        | (go_at_call 37; refine (isBlock_any _ _ _).mono ?_; rw [HM.out]; rintro e w1 ⟨rfl, rfl⟩))
      go_ret2
      exact BtsEnd.none_ _ hb.out
    | true =>
      rw [(setE_ok hr hm).1, (setE_ok hr hm).2]
      have HM := Lib.hid hm
      have HEq : Hid (joinR m (oneM v b) = joinM m (oneM v b) ∧ joinE m (oneM v b) = 0) := Lib.hid ⟨(joinE_ok hr (oneM_ok hm)).2, (joinE_ok hr (oneM_ok hm)).1⟩
      have HF2 := Lib.hid (oneM_fit hm)
      have hbl := mayB_block hm
      have hb0 := hbl.1
      have hb1 : b ≤ 32 := by omega
      obtain ⟨O, hO⟩ : ∃ O, oneM v b = O := ⟨_, rfl⟩
      obtain ⟨P, hP⟩ : ∃ P, (2 : Int) ^ b.toNat = P := ⟨_, rfl⟩
      have HO : Hid (O = [⟨v, P⟩]) := Lib.hid (by rw [← hO, ← hP]; rfl)
      rw [hO] at HEq HF2 ⊢
      have HP := Lib.hid hP
      clear hr hm hbl hP hO
      go_enter Try.func15, Try.ntmps15
      go_wp2_with (first
        | (go_at_call 12; refine (HR.out _).mono ?_; rintro e w1 ⟨rfl, hb⟩; replace hb := Lib.hid hb)
        | (go_at_call 37; refine (isBlock_any _ _ _).mono ?_; rw [HM.out]; rintro e w1 ⟨rfl, rfl⟩)
        | (go_at_call 39; refine (bit_any _ _ hb0 hb1).mono ?_; rw [HP.out]; rintro e w3 ⟨rfl, rfl⟩))
      have HB2 : Hid (Below w.heap.size w (w1.alloc (.cells #[.int .i64 v, .int .u64 P] 66))) := Lib.hid (hb.out.alloc hb.out.size _)
      have HOA : Hid (BtsAt (w1.alloc (.cells #[.int .i64 v, .int .u64 P] 66)) (w1.alloc (.cells #[.int .i64 v, .int .u64 P] 66)).heap.size (some ⟨w1.heap.size, 0, none⟩) O) := Lib.hid (by
        rw [HO.out]
        refine .inr ⟨_, _, rfl, by simp, fun i hi => ?_⟩
        have hi0 : i = 0 := by simpa using hi
        subst hi0
        constructor
        · rw [Lib.cell_of_heap (heap_alloc_new _ _)]; rfl
        · rw [Lib.cell_of_heap (heap_alloc_new _ _)]; rfl)
      have HJ : Hid (∀ c d, Calls Try.prog 19 #[.slice A m.length c, .slice (some ⟨w1.heap.size, 0, none⟩) 1 d] (w1.alloc (.cells #[.int .i64 v, .int .u64 P] 66)) (BtsEnd (joinM m O) (.int .i64 0) (w1.alloc (.cells #[.int .i64 v, .int .u64 P] 66)))) := Lib.hid (fun c d => by
        have := Join_any (c1 := c) (c2 := d) (HV.out.next HB2.out) HOA.out HF.out HF2.out
        rw [HEq.out.1, HEq.out.2, show O.length = 1 from by rw [HO.out]; rfl] at this
        exact this)
      generalize w1.alloc (.cells #[.int .i64 v, .int .u64 P] 66) = W2 at *
      refine (HJ.out _ _).mono ?_
      rintro e w5 ⟨A5, c5, rfl, hA5, hb5⟩
      have HE : Hid (BtsEnd (joinM m O) (.int .i64 0) w (.returned (.tuple #[.slice A5 (joinM m O).length c5, .int .i64 0])) w5) := Lib.hid ⟨A5, c5, rfl, hA5, below_next HB2.out hb5⟩
      clear hA5 hb5
      go_wp2_with fail
      go_ret2
      exact HE.out

/-! ### The blocks that writes name -/

def namesW (ws : List Wr) : List Mk := ws.map fun x => (x.vol, x.block)
def ofE (ws : List Wr) : Int := if mayAll (namesW ws) = true then 0 else 10
theorem namesW_take {ws : List Wr} {k : Nat} (hk : k < ws.length) : namesW (ws.take (k + 1)) = namesW (ws.take k) ++ [(ws[k].vol, ws[k].block)] := by
  unfold namesW
  rw [List.take_succ_eq_append_getElem hk, List.map_append]; rfl
theorem mayAll_append (l k : List Mk) : mayAll (l ++ k) = (mayAll l && mayAll k) := List.all_append
theorem mayAll_one (v b : Int) : mayAll [(v, b)] = mayB (v, b) := by simp [mayAll]
theorem named_bad {ws : List Wr} {k : Nat} (hk : k < ws.length) (h : mayB (ws[k].vol, ws[k].block) = false) : mayAll (namesW ws) = false := by
  rw [Bool.eq_false_iff]
  intro hall
  have := List.all_eq_true.1 hall (ws[k].vol, ws[k].block) (List.mem_map.2 ⟨_, List.getElem_mem hk, rfl⟩)
  rw [h] at this; cases this
theorem entsK_append (l k : List Mk) : entsK (l ++ k) = entsK l ++ entsK k := by simp [entsK]
theorem ofM_not {l : List Mk} (h : mayAll l = false) : ofM l = [] := by unfold ofM; rw [h]; rfl
theorem ofM_table {l : List Mk} (h : mayAll l = true) : listT (orT noT (entsK l)) = ofM l := by
  unfold ofM
  rw [if_pos h]
  exact listFrom_congr fun v _ _ => orT_named h v
theorem orK_small {l : List Mk} (h : mayAll l = true) (v : Nat) : orT noT (entsK l) v < 2 ^ 32 := by rw [orT_named h]; exact ofMask_lt _ _

set_option maxHeartbeats 4000000 in
set_option maxRecDepth 100000 in
theorem Of_any {w : World} {A : Option Addr} {c : Nat} {ws : List Wr} (h : WrsAt w w.heap.size A ws) (hl : ws.length ≤ 9223372036854775807) :
    Calls Try.prog 22 #[.slice A ws.length c] w (BtsEnd (ofM (namesW ws)) (.int .i64 (ofE ws)) w) := by
  have HV := Lib.hid h
  have hz := (zero_of_info Try.infoMasks).1
  obtain ⟨n, hn⟩ : ∃ n, ws.length = n := ⟨_, rfl⟩
  have HN := Lib.hid hn
  rw [hn] at hl ⊢
  have HBad : Hid (mayAll (namesW ws) = false → ofM (namesW ws) = [] ∧ ofE ws = 10) := Lib.hid fun h => ⟨ofM_not h, by unfold ofE; rw [h]; rfl⟩
  have HGood : Hid (mayAll (namesW ws) = true → listT (orT noT (entsK (namesW ws))) = ofM (namesW ws) ∧ ofE ws = 0) := Lib.hid fun h => ⟨ofM_table h, by unfold ofE; rw [h]; rfl⟩
  obtain ⟨R, hR⟩ : ∃ R, ofM (namesW ws) = R := ⟨_, rfl⟩
  obtain ⟨E, hE⟩ : ∃ E, ofE ws = E := ⟨_, rfl⟩
  rw [hR, hE] at HBad HGood ⊢
  clear h hn hR hE
  go_enter Try.func22, Try.ntmps22
  go_wp2_with fail
  clear hz
  rw [← mskCells_zero]
  have HT0 : Hid ((w.alloc (.cells (mskCells noT) 72)).heap[w.heap.size]? = some (.cells (mskCells noT) 72 (0, 0))) := Lib.hid (heap_alloc_new _ _)
  have HB0 : Hid (Below w.heap.size w (w.alloc (.cells (mskCells noT) 72))) := Lib.hid ((Below.refl _ _).alloc (Nat.le_refl _) _)
  generalize w.alloc (.cells (mskCells noT) 72) = W0 at *
  obtain ⟨H, hH⟩ : ∃ H, w.heap.size = H := ⟨_, rfl⟩
  have HHw : Hid (w.heap.size ≤ H) := Lib.hid (by omega)
  rw [hH] at HT0 ⊢
  clear hH
  go_loopg [9] n (fun kx s9 wr => ∃ (k : Nat), s9 = .int .i64 k ∧ k ≤ n ∧ n - k ≤ kx ∧ Hid (mayAll (namesW (ws.take k)) = true) ∧ Hid (wr.heap[H]? = some (.cells (mskCells (orT noT (entsK (namesW (ws.take k))))) 72 (0, 0))) ∧ Hid (Below w.heap.size w wr))
  case atStart => exact ⟨0, rfl, Nat.zero_le _, by omega, Lib.hid rfl, HT0, HB0⟩
  case round =>
    clear HT0 HB0
    obtain ⟨k, rfl, hk, hkx, HM, HT, HB⟩ := hrel
    by_cases hlt : k < n
    · have hltz : (k : Int) < (n : Int) := by omega
      have hkl : k < ws.length := by rw [HN.out]; exact hlt
      obtain ⟨b0, off, hA, hbl, x1, x2, x3⟩ := HV.out.at_ HB.out hkl
      have hbw : b0 < wr.heap.size := Nat.lt_of_lt_of_le hbl HB.out.size
      have hwz : w.heap.size ≤ wr.heap.size := HB.out.size
      have hHs : H < wr.heap.size := (Array.getElem?_eq_some_iff.1 HT.out).1
      subst hA
      have HTk := Lib.hid (namesW_take hkl)
      have HNB := Lib.hid (fun h => named_bad hkl h)
      have HSm := Lib.hid (fun v => orK_small HM.out v)
      obtain ⟨x, hx⟩ : ∃ x, ws[k] = x := ⟨_, rfl⟩
      rw [hx] at x1 x2 x3 HTk HNB
      clear hx hkl
      obtain ⟨i1, q1, s1⟩ := x
      simp only at x1 x2 x3 HTk HNB
      have HK4 : Hid (Below w.heap.size w (wr.alloc (.cells #[.int .i64 i1, .int .i64 q1, .string s1] 63))) := Lib.hid (HB.out.alloc hwz _)
      cases hm : mayB (i1, q1) with
      | false =>
        have HE := Lib.hid (HBad.out (HNB.out hm))
        have HMy := Lib.hid hm
        clear hm
        go_wp2_with (go_at_call 37; refine (isBlock_any _ _ _).mono ?_; rw [HMy.out]; rintro e w1 ⟨rfl, rfl⟩)
        go_ret2
        rw [HE.out.1, HE.out.2]
        exact BtsEnd.none_ _ HK4.out
      | true =>
        have HMy := Lib.hid hm
        have hm2 := hm
        simp only [mayB, decide_eq_true_eq] at hm2
        have HM2 : Hid (mayAll (namesW (ws.take (k + 1))) = true) := Lib.hid (by rw [HTk.out, mayAll_append, HM.out, mayAll_one, hm]; rfl)
        obtain ⟨V, hV⟩ : ∃ V : Nat, i1 = (V : Int) := ⟨i1.toNat, by omega⟩
        subst hV
        obtain ⟨F, hF⟩ : ∃ F : Nat, orT noT (entsK (namesW (ws.take k))) V = F := ⟨_, rfl⟩
        have hFl : F < 4294967296 := by rw [← hF]; exact HSm.out V
        have hV2 : (V : Int) < 256 := by omega
        have hV3 : V < 256 := by omega
        have hV0 : (0 : Int) ≤ (V : Int) := Int.natCast_nonneg _
        have hq0 : 0 ≤ q1 := hm2.2.2.1
        have hq1 : q1 ≤ 32 := by omega
        obtain ⟨P, hP⟩ : ∃ P, (2 : Int) ^ q1.toNat = P := ⟨_, rfl⟩
        have hpw := two_pow_lt (n := q1.toNat) (by omega)
        have hPn : P = ((2 ^ q1.toNat : Nat) : Int) := by rw [← hP]; simp
        have hor := or_cell (F := F) (x := 2 ^ q1.toNat) (F' := (F : Int)) (x' := P) rfl hPn hFl (by rw [hP] at hpw; omega)
        obtain ⟨R1, hR1⟩ : ∃ R : Int, ((F ||| 2 ^ q1.toNat : Nat) : Int) = R := ⟨_, rfl⟩
        rw [hR1] at hor
        obtain ⟨F', hF'⟩ : ∃ F' : Int, (F : Int) = F' := ⟨_, rfl⟩
        rw [hF'] at hor
        have HF' := Lib.hid hF'
        have HRo := Lib.hid hR1
        have HP := Lib.hid hP
        clear hR1 hF' hP hPn hpw hm hm2
        go_wp2_with (go_at_call 37; refine (isBlock_any _ _ _).mono ?_; rw [HMy.out]; rintro e w1 ⟨rfl, rfl⟩)
        clear x1 x2 x3 hbw hbl
        have K1 : Hid ((wr.alloc (.cells #[.int .i64 V, .int .i64 q1, .string s1] 63)).heap[H]? = some (.cells (mskCells (orT noT (entsK (namesW (ws.take k))))) 72 (0, 0))) := Lib.hid (by rw [heap_alloc_old _ _ hHs]; exact HT.out)
        have K3 : Hid ((wr.alloc (.cells #[.int .i64 V, .int .i64 q1, .string s1] 63)).heap[wr.heap.size]? = some (.cells #[.int .i64 V, .int .i64 q1, .string s1] 63 (0, 0))) := Lib.hid (heap_alloc_new _ _)
        have hne : H ≠ wr.heap.size := by omega
        have hne2 : wr.heap.size ≠ H := by omega
        generalize wr.alloc (.cells #[.int .i64 V, .int .i64 q1, .string s1] 63) = W1 at *
        generalize wr.heap.size = B at *
        have e1 : W1.cell? ⟨B, 0, none⟩ = some (.int .i64 V) := by rw [Lib.cell_of_heap K3.out]; rfl
        have e2 : W1.cell? ⟨B, 1, none⟩ = some (.int .i64 q1) := by rw [Lib.cell_of_heap K3.out]; rfl
        have e3 : W1.cell? ⟨H, V, none⟩ = some (.int .u64 F') := by rw [Lib.cell_of_heap K1.out, mskCells_at hV3, hF, HF'.out]
        have e4 : W1.frozen? ⟨H, V, none⟩ = false := Lib.frozen_of_heap K1.out V
        have M1 : Hid ((W1.setCell ⟨H, V, none⟩ (.int .u64 R1)).drew.heap[H]? = some (.cells (mskCells (orT noT (entsK (namesW (ws.take (k + 1)))))) 72 (0, 0))) := Lib.hid (by
          rw [HTk.out, entsK_append, show entsK [((V : Int), q1)] = [(V, 2 ^ q1.toNat)] from by simp [entsK], orT_more, ← mskCells_set, hF, HRo.out]
          exact row_set K1.out V _)
        have M3 : Hid (Below w.heap.size w (W1.setCell ⟨H, V, none⟩ (.int .u64 R1)).drew) := Lib.hid ((HK4.out.setCell (by simpa using HHw.out) _).trans ⟨rfl, rfl, rfl, Nat.le_refl _, fun _ _ => rfl⟩)
        clear hF hFl HT HB hHs hwz K1 K3 HK4
        go_region_with ((go_at_call 39; refine (bit_any _ _ hq0 hq1).mono ?_; rw [HP.out]; rintro e w3 ⟨rfl, rfl⟩))
        all_goals
          clear e1 e2 e3 e4
          generalize (W1.setCell ⟨H, V, none⟩ (.int .u64 R1)).drew = W2 at *
          go_wp2_with fail
          go_roundg (n - (k + 1))
          case measure => omega
          case rel => exact ⟨k + 1, by go_num, by omega, Nat.le_refl _, HM2, M1, M3⟩
    · have hltz : ¬ (k : Int) < (n : Int) := by omega
      have HAll : Hid (ws.take k = ws) := Lib.hid (List.take_of_length_le (by rw [HN.out]; omega))
      have HG := Lib.hid (HGood.out (by have := HM.out; rw [HAll.out] at this; exact this))
      have HCl : Hid (Calls Try.prog 41 #[.pointer (some ⟨H, 0, none⟩)] wr (BtsEnd1 R wr)) := Lib.hid (by
        have := list_any HT.out
        rw [HAll.out, HG.out.1] at this
        exact this)
      go_wp2_with fail
      refine HCl.out.mono ?_
      rintro e w5 ⟨A5, c5, rfl, hA5, hb5⟩
      have HE : Hid (BtsEnd R (.int .i64 0) w (.returned (.tuple #[.slice A5 R.length c5, .int .i64 0])) w5) := Lib.hid ⟨A5, c5, rfl, hA5, below_next HB.out hb5⟩
      clear hA5 hb5
      go_wp2_with fail
      go_ret2
      rw [HG.out.2]
      exact HE.out
end Go.Proofs.Ytpefhocjnkbklaa
