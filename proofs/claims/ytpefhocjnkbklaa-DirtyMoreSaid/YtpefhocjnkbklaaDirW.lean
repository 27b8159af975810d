/- Bitmaps: the fixed answer; the contract of Within. -/
import Derived.Test.YtpefhocjnkbklaaDirO
import Derived.Test.YtpefhocjnkbklaaDirJ
import Derived.Deep.RegionHeld3
namespace Go.Proofs.Ytpefhocjnkbklaa
open Go.RowKit

def wakeW : List Wr := [⟨2, 0, ⟨#[]⟩⟩, ⟨1, 3, ⟨#[]⟩⟩]
theorem wakeW_of : ofM (namesW wakeW) = [⟨1, 8⟩, ⟨2, 1⟩] ∧ ofE wakeW = 0 := ⟨by kernel_rfl, by kernel_rfl⟩

set_option maxHeartbeats 2000000 in
set_option maxRecDepth 100000 in
theorem awake10_any (w : World) : Calls Try.prog 10 #[] w fun e w' => e = .returned (.bool true) ∧ Below w.heap.size w w' := by
  obtain ⟨O1, hO1⟩ : ∃ O : Obj, O = .cells #[.int .i64 2, .int .i64 0, .string ⟨#[]⟩, .int .i64 1, .int .i64 3, .string ⟨#[]⟩] 63 := ⟨_, rfl⟩
  have hs1 : (w.alloc O1).heap.size = w.heap.size + 1 := by simp
  have hB : Below w.heap.size w (w.alloc O1) := (Below.refl _ _).alloc (Nat.le_refl _) _
  have g1 : ∀ j u, [Value.int .i64 2, .int .i64 0, .string ⟨#[]⟩, .int .i64 1, .int .i64 3, .string ⟨#[]⟩][j]? = some u → (w.alloc O1).cell? ⟨w.heap.size, j, none⟩ = some u := fun j u hj => by
    rw [hO1, Lib.cell_of_heap (heap_alloc_new _ _)]
    simpa using hj
  have hW : WrsAt (w.alloc O1) (w.alloc O1).heap.size (some ⟨w.heap.size, 0, none⟩) wakeW := by
    refine .inr ⟨w.heap.size, 0, rfl, by omega, fun i hi => ?_⟩
    have hi2 : i < 2 := hi
    match i, hi2 with
    | 0, _ => exact ⟨g1 0 _ rfl, g1 1 _ rfl, g1 2 _ rfl⟩
    | 1, _ => exact ⟨g1 3 _ rfl, g1 4 _ rfl, g1 5 _ rfl⟩
  have HN : Hid (∀ c, Calls Try.prog 22 #[.slice (some ⟨w.heap.size, 0, none⟩) 2 c] (w.alloc O1) (BtsEnd [⟨1, 8⟩, ⟨2, 1⟩] (.int .i64 0) (w.alloc O1))) := Lib.hid (fun c => by
    have := Of_any (c := c) hW (by decide)
    rw [wakeW_of.1, wakeW_of.2] at this
    exact this)
  have HB := Lib.hid hB
  rw [hO1] at HN HB
  have q1 := eql_bits ⟨1, 8⟩ ⟨1, 8⟩
  have q2 := eql_bits ⟨2, 1⟩ ⟨2, 1⟩
  rw [sameBt_self] at q1 q2
  simp only at q1 q2
  have hgd := guard_bits
  clear hO1 hs1 hB g1 hW
  go_enter Try.func10, Try.ntmps10
  go_wp2_with fail
  refine (HN.out _).mono ?_
  rintro e w2 ⟨A, c, rfl, hA, hb⟩
  have HB2 : Hid (Below w.heap.size w w2) := Lib.hid (below_next HB.out hb)
  obtain ⟨b, off, rfl, _, k1, k2⟩ := hA.at_ (Below.refl _ _) (i := 0) (by decide)
  obtain ⟨b', off', hA', _, k3, k4⟩ := hA.at_ (Below.refl _ _) (i := 1) (by decide)
  cases hA'
  simp only [List.getElem_cons_zero, List.getElem_cons_succ, Nat.zero_mul, Nat.add_zero, Nat.one_mul] at k1 k2 k3 k4
  clear hA hb
  go_wp2_with fail
  go_ret
  exact ⟨rfl, HB2.out⟩

/-! ### Within -/

def inMask (u m : Int) : Bool := !(bits .andNot .u64 u m != 0)
def inAll (m : List Bt) (vs : List Vl) : Bool := m.all fun x => inMask x.mask (maskI (allM vs) x.vol)
def withinB (m : List Bt) (vs : List Vl) : Bool := bitsOk m && (rightB vs && inAll m vs)
theorem inAll_bad {m : List Bt} {vs : List Vl} {k : Nat} (hk : k < m.length) (h : inMask m[k].mask (maskI (allM vs) m[k].vol) = false) : inAll m vs = false := by
  rw [Bool.eq_false_iff]
  intro hall
  have := List.all_eq_true.1 hall m[k] (List.getElem_mem hk)
  rw [h] at this; cases this
theorem inAll_take {m : List Bt} {vs : List Vl} {k : Nat} (hk : k < m.length) : inAll (m.take (k + 1)) vs = (inAll (m.take k) vs && inMask m[k].mask (maskI (allM vs) m[k].vol)) := by
  unfold inAll
  rw [List.take_succ_eq_append_getElem hk, List.all_append]; simp
theorem withinB_bits {m : List Bt} {vs : List Vl} (h : bitsOk m = false) : withinB m vs = false := by unfold withinB; rw [h]; rfl
theorem withinB_vols {m : List Bt} {vs : List Vl} (h : rightB vs = false) : withinB m vs = false := by unfold withinB; rw [h]; simp
theorem withinB_is {m : List Bt} {vs : List Vl} (h1 : bitsOk m = true) (h2 : rightB vs = true) : withinB m vs = inAll m vs := by unfold withinB; rw [h1, h2]; rfl
theorem allM_length (vs : List Vl) : (allM vs).length ≤ vs.length := by
  unfold allM allBits
  split <;> simp

set_option maxHeartbeats 4000000 in
set_option maxRecDepth 100000 in
theorem Within_any {w : World} {A A2 : Option Addr} {c c2 : Nat} {m : List Bt} {vs : List Vl} (h : BtsAt w w.heap.size A m) (hf : BtsFit m) (h2 : VolsAt w w.heap.size A2 vs) (hf2 : VolsFit vs) :
    Calls Try.prog 27 #[.slice A m.length c, .slice A2 vs.length c2] w fun e w' => e = .returned (.bool (withinB m vs)) ∧ Below w.heap.size w w' := by
  have HV := Lib.hid h
  have HF := Lib.hid hf
  have H2 := Lib.hid h2
  have HF2 := Lib.hid hf2
  clear h hf h2 hf2
  cases hr : bitsOk m with
  | false =>
    rw [withinB_bits hr]
    have HR : Hid (∀ c, Calls Try.prog 12 #[.slice A m.length c] w fun e w' => e = .returned (.bool false) ∧ Below w.heap.size w w') := Lib.hid (fun c => by
      refine (DirRight_any HV.out HF.out.1).mono ?_; rw [hr]; exact fun _ _ h => h)
    clear hr
    go_enter Try.func27, Try.ntmps27
    go_wp2_with (go_at_call 12; refine (HR.out _).mono ?_; rintro e w1 ⟨rfl, hb⟩; replace hb := Lib.hid hb)
    go_ret
    exact ⟨rfl, hb.out⟩
  | true =>
    have HR : Hid (∀ c, Calls Try.prog 12 #[.slice A m.length c] w fun e w' => e = .returned (.bool true) ∧ Below w.heap.size w w') := Lib.hid (fun c => by
      refine (DirRight_any HV.out HF.out.1).mono ?_; rw [hr]; exact fun _ _ h => h)
    cases hv : rightB vs with
    | false =>
      rw [withinB_vols hv]
      have HRv : Hid (∀ c w1, Below w.heap.size w w1 → Calls Try.prog 42 #[.slice A2 vs.length c] w1 fun e w' => e = .returned (.bool false) ∧ Below w.heap.size w w') := Lib.hid (fun c w1 h => by
        refine (Right_any (H2.out.next h) HF2.out).mono ?_; rw [hv]; exact fun _ _ h3 => ⟨h3.1, below_next h h3.2⟩)
      clear hr hv
      go_enter Try.func27, Try.ntmps27
      go_wp2_with (first
        | (go_at_call 12; refine (HR.out _).mono ?_; rintro e w1 ⟨rfl, hb⟩; replace hb := Lib.hid hb)
        | (go_at_call 42; refine (HRv.out _ _ hb.out).mono ?_; rintro e w2 ⟨rfl, hb2⟩; replace hb2 := Lib.hid hb2))
      go_ret
      exact ⟨rfl, hb2.out⟩
    | true =>
      rw [withinB_is hr hv]
      have HRv : Hid (∀ c w1, Below w.heap.size w w1 → Calls Try.prog 42 #[.slice A2 vs.length c] w1 fun e w' => e = .returned (.bool true) ∧ Below w.heap.size w w') := Lib.hid (fun c w1 h => by
        refine (Right_any (H2.out.next h) HF2.out).mono ?_; rw [hv]; exact fun _ _ h3 => ⟨h3.1, below_next h h3.2⟩)
      have HAl : Hid (∀ c w1, Below w.heap.size w w1 → Calls Try.prog 24 #[.slice A2 vs.length c] w1 (BtsEnd1 (allM vs) w1)) := Lib.hid (fun c w1 h => All_any (H2.out.next h) HF2.out)
      have hl := bitsOk_length hr
      have HBad := Lib.hid fun k hk h => inAll_bad (m := m) (vs := vs) (k := k) hk h
      have HTk := Lib.hid fun k hk => inAll_take (m := m) (vs := vs) (k := k) hk
      have hal : (allM vs).length ≤ 9223372036854775807 := by have := allM_length vs; have := HF2.out.1; omega
      obtain ⟨n, hn⟩ : ∃ n, m.length = n := ⟨_, rfl⟩
      have HN := Lib.hid hn
      have HR' : Hid (∀ c, Calls Try.prog 12 #[.slice A n c] w fun e w' => e = .returned (.bool true) ∧ Below w.heap.size w w') := Lib.hid (fun c => by rw [← hn]; exact HR.out c)
      rw [hn] at hl ⊢
      have HAlL := Lib.hid hal
      obtain ⟨L, hL⟩ : ∃ L, allM vs = L := ⟨_, rfl⟩
      rw [hL] at HAl HBad HTk HAlL
      clear hr hv HR hn hL hal
      go_enter Try.func27, Try.ntmps27
      go_wp2_with (first
        | (go_at_call 12; refine (HR'.out _).mono ?_; rintro e w1 ⟨rfl, hb⟩; replace hb := Lib.hid hb)
        | (go_at_call 42; refine (HRv.out _ _ hb.out).mono ?_; rintro e w2 ⟨rfl, hb2⟩; replace hb2 := Lib.hid hb2))
      refine (HAl.out _ _ hb2.out).mono ?_
      rintro e w3 ⟨A3, c3, rfl, hA3, hb3⟩
      have HA3 := Lib.hid hA3
      have HB3 := Lib.hid (below_next hb2.out hb3)
      have HMo : Hid (∀ w1 v, Below w3.heap.size w3 w1 → Calls Try.prog 38 #[.slice A3 L.length c3, .int .i64 v] w1 fun e w' => e = .returned (.int .u64 (maskI L v)) ∧ Below w1.heap.size w1 w') := Lib.hid (fun w1 v h => maskOf_any (HA3.out.next h) HAlL.out v)
      clear hA3 hb3 hb hb2
      go_wp2_with fail
      go_loopg [20] n (fun kx s20 wr => ∃ k : Nat, s20 = .int .i64 k ∧ k ≤ n ∧ n - k ≤ kx ∧ Hid (inAll (m.take k) vs = true) ∧ Hid (Below w3.heap.size w3 wr))
      case atStart => exact ⟨0, rfl, Nat.zero_le _, by omega, Lib.hid rfl, Lib.hid (Below.refl _ _)⟩
      case round =>
        obtain ⟨k, rfl, hk, hkx, HI, HB⟩ := hrel
        by_cases hlt : k < n
        · have hltz : (k : Int) < (n : Int) := by omega
          have hkl : k < m.length := by rw [HN.out]; exact hlt
          have HBW := Lib.hid (below_next HB3.out HB.out)
          obtain ⟨b, off, hA, hbl, x1, x2⟩ := HV.out.at_ HBW.out hkl
          have hbw : b < wr.heap.size := Nat.lt_of_lt_of_le hbl HBW.out.size
          have hwz : w3.heap.size ≤ wr.heap.size := HB.out.size
          subst hA
          have HBk := Lib.hid fun h => HBad.out k hkl h
          have HTk2 := Lib.hid (HTk.out k hkl)
          obtain ⟨x, hx⟩ : ∃ x, m[k] = x := ⟨_, rfl⟩
          rw [hx] at x1 x2 HBk HTk2
          clear hx hkl
          obtain ⟨i1, u1⟩ := x
          simp only at x1 x2 HBk HTk2
          have K3 : Hid ((wr.alloc (.cells #[.int .i64 i1, .int .u64 u1] 66)).heap[wr.heap.size]? = some (.cells #[.int .i64 i1, .int .u64 u1] 66 (0, 0))) := Lib.hid (heap_alloc_new _ _)
          have K4 : Hid (Below w3.heap.size w3 (wr.alloc (.cells #[.int .i64 i1, .int .u64 u1] 66))) := Lib.hid (HB.out.alloc hwz _)
          have hBs : wr.heap.size < (wr.alloc (.cells #[.int .i64 i1, .int .u64 u1] 66)).heap.size := by simp
          have HMk := Lib.hid fun w1 h => HMo.out w1 i1 h
          obtain ⟨M, hM⟩ : ∃ M, maskI L i1 = M := ⟨_, rfl⟩
          rw [hM] at HMk HBk HTk2
          obtain ⟨T, hT⟩ : ∃ T, bits .andNot .u64 u1 M = T := ⟨_, rfl⟩
          have HIs : Hid (inMask u1 M = !(T != 0)) := Lib.hid (by unfold inMask; rw [hT])
          clear hM
          go_wp2_with fail
          clear x1 x2 hbw hbl
          generalize wr.alloc (.cells #[.int .i64 i1, .int .u64 u1] 66) = W1 at *
          generalize wr.heap.size = B at *
          have e1 : W1.drew.cell? ⟨B, 0, none⟩ = some (.int .i64 i1) ∧ W1.drew.cell? ⟨B, 1, none⟩ = some (.int .u64 u1) := by
            constructor
            · rw [show W1.drew.cell? ⟨B, 0, none⟩ = W1.cell? ⟨B, 0, none⟩ from rfl, Lib.cell_of_heap K3.out]; rfl
            · rw [show W1.drew.cell? ⟨B, 1, none⟩ = W1.cell? ⟨B, 1, none⟩ from rfl, Lib.cell_of_heap K3.out]; rfl
          have HBd : Hid (Below w3.heap.size w3 W1.drew) := Lib.hid K4.out.drew
          have HKeep : Hid (∀ w', Below W1.drew.heap.size W1.drew w' → w'.cell? ⟨B, 0, none⟩ = some (.int .i64 i1) ∧ w'.cell? ⟨B, 1, none⟩ = some (.int .u64 u1)) := Lib.hid fun w' h => by
            rw [h.cell (p := ⟨B, 0, none⟩) hBs, h.cell (p := ⟨B, 1, none⟩) hBs]; exact e1
          go_region_held3 (fun w' => w'.cell? ⟨B, 0, none⟩ = some (.int .i64 i1) ∧ w'.cell? ⟨B, 1, none⟩ = some (.int .u64 u1)) (first | exact e1 | exact HKeep.out _ hb9.out) ((go_at_call 38; refine (HMk.out _ HBd.out).mono ?_; rintro e w9 ⟨rfl, hb9⟩; replace hb9 := Lib.hid hb9))
          have HB9 : Hid (Below w3.heap.size w3 w9) := Lib.hid (below_next HBd.out hb9.out)
          have HBW9 : Hid (Below w.heap.size w w9) := Lib.hid (below_next HB3.out HB9.out)
          clear e1 hT
          cases ht : (T != 0) with
          | true =>
            have HE : Hid (inAll m vs = false) := Lib.hid (HBk.out (by rw [HIs.out, ht]; rfl))
            clear hb9
            go_wp2_with fail
            go_ret
            exact ⟨by rw [HE.out]; rfl, HBW9.out⟩
          | false =>
            have HI2 : Hid (inAll (m.take (k + 1)) vs = true) := Lib.hid (by rw [HTk2.out, HI.out, HIs.out, ht]; rfl)
            clear hb9
            go_wp2_with fail
            go_roundg (n - (k + 1))
            case measure => omega
            case rel => exact ⟨k + 1, by go_num, by omega, Nat.le_refl _, HI2, HB9⟩
        · have hltz : ¬ (k : Int) < (n : Int) := by omega
          have HE : Hid (inAll m vs = true) := Lib.hid (by
            have h := HI.out
            rw [List.take_of_length_le (by rw [HN.out]; omega)] at h
            exact h)
          have HBWe := Lib.hid (below_next HB3.out HB.out)
          go_wp2_with fail
          go_ret
          exact ⟨by rw [HE.out]; rfl, HBWe.out⟩
end Go.Proofs.Ytpefhocjnkbklaa
