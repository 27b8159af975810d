/- The laws' fixed answer (awake); the document's Small, Right and Get. -/
import Derived.Test.YtpmllckfijfehaaVolJ
namespace Go.Proofs.Ytpmllckfijfehaa
open Go.RowKit

theorem add_seven : addV [] 7 2 = [(7, blankB 2)] ∧ addE [] 7 2 = 0 := ⟨by decide, by decide⟩
theorem right_seven : rightB [(7, blankB 2)] = true := by decide

/-! ### The document's answer: Small, Right, Get -/

def smallB (vs : List Vl) (m : Nat) : Bool := decide (vs.length ≤ 10) && (decide (m ≤ 200) && vs.all (fun v => decide (v.2.length ≤ 100)))
theorem smallB_iff (vs : List Vl) (m : Nat) : smallB vs m = true ↔ vs.length ≤ 10 ∧ m ≤ 200 ∧ ∀ v ∈ vs, v.2.length ≤ 100 := by simp [smallB]

set_option maxHeartbeats 800000 in
theorem Small_any {w : World} {A : Option Addr} {c : Nat} {vs : List Vl} (h : VolsAt w w.heap.size A vs) (hf : VolsFit vs) (A2 : Option Addr) (m c2 : Nat) :
    Calls Try.prog 28 #[.slice A vs.length c, .slice A2 m c2] w fun e w' => e = .returned (.bool (smallB vs m)) ∧ w = w' := by
  have hl := hf.1
  by_cases h10 : vs.length ≤ 10
  · by_cases hm : m ≤ 200
    · have HV := Lib.hid h
      have HS : Hid (∀ b, vs.all (fun v => decide (v.2.length ≤ 100)) = b → smallB vs m = b) := Lib.hid (fun b hb => by simp [smallB, h10, hm, hb])
      have h1 : decide (10 < (vs.length : Int)) = false := by rw [decide_eq_false_iff_not]; omega
      have h2 : decide (200 < (m : Int)) = false := by rw [decide_eq_false_iff_not]; omega
      obtain ⟨n, hn⟩ : ∃ n, vs.length = n := ⟨_, rfl⟩
      have HN := Lib.hid hn
      rw [hn] at hl h10 h1 ⊢
      clear h hf hn
      go_enter Try.func28, Try.ntmps28
      go_wp2
      go_loop [5] (fun i => ∃ k : Nat, k ≤ n ∧ i = .int .i64 k ∧ Hid ((vs.take k).all (fun v => decide (v.2.length ≤ 100)) = true)) (fun i => n - (intOf i).toNat)
      case atStart => exact ⟨0, Nat.zero_le _, rfl, Lib.hid (by simp)⟩
      case round =>
        obtain ⟨k, hk, rfl, HK⟩ := hrel
        by_cases hlt : k < n
        · have hkl : k < vs.length := by rw [HN.out]; exact hlt
          obtain ⟨b, off, a, c', hA, hbl, c1, c2, hly⟩ := HV.out.at_ (Below.refl _ _) hkl
          subst hA
          have HT := Lib.hid (List.take_succ_eq_append_getElem hkl)
          have HM := Lib.hid (List.getElem_mem hkl)
          obtain ⟨v, hv⟩ : ∃ v, vs[k] = v := ⟨_, rfl⟩
          rw [hv] at c1 c2 HT HM
          clear hv hkl hly c1
          obtain ⟨q, hq⟩ : ∃ q, v.2.length = q := ⟨_, rfl⟩
          rw [hq] at c2
          have HQ := Lib.hid hq
          clear hq
          by_cases h100 : q ≤ 100
          · have h3 : decide (100 < (q : Int)) = false := by rw [decide_eq_false_iff_not]; omega
            go_wp2
            go_round
            case rel => exact ⟨k + 1, by omega, by go_num, Lib.hid (by rw [HT.out, List.all_append, HK.out]; simp [HQ.out, h100])⟩
            case measure => simp [intOf]; omega
          · have h3 : decide (100 < (q : Int)) = true := by rw [decide_eq_true_iff]; omega
            go_wp2
            go_ret
            refine ⟨?_, rfl⟩
            rw [HS.out false (by
              rw [Bool.eq_false_iff]
              intro hall
              have := List.all_eq_true.1 hall v HM.out
              simp [HQ.out] at this
              omega)]
            rfl
        · have HE : Hid (vs.all (fun v => decide (v.2.length ≤ 100)) = true) := Lib.hid (by have := HK.out; rwa [List.take_of_length_le (by rw [HN.out]; omega)] at this)
          go_wp2
          go_ret
          exact ⟨by rw [HS.out true HE.out]; rfl, rfl⟩
    · rw [show smallB vs m = false from by simp [smallB]; omega]
      have h1 : decide (10 < (vs.length : Int)) = false := by rw [decide_eq_false_iff_not]; omega
      have h2 : decide (200 < (m : Int)) = true := by rw [decide_eq_true_iff]; omega
      clear h hf
      go_enter Try.func28, Try.ntmps28
      go_wp2
      go_ret
      exact ⟨rfl, rfl⟩
  · rw [show smallB vs m = false from by simp [smallB]; omega]
    have h1 : decide (10 < (vs.length : Int)) = true := by rw [decide_eq_true_iff]; omega
    clear h hf
    go_enter Try.func28, Try.ntmps28
    go_wp2
    go_ret
    exact ⟨rfl, rfl⟩

theorem gotN_hit {vs : List Vl} {vol block : Int} {k : Nat} (h : gotE vs vol block = gotE (vs.drop k) vol block ∧ gotS vs vol block = gotS (vs.drop k) vol block) (hk : k < vs.length) (h1 : vs[k].1 = vol) :
    gotE vs vol block = (if inB vs[k].2 block = true then 0 else 10) ∧ gotS vs vol block = (if inB vs[k].2 block = true then vs[k].2.getD block.toNat ByteArray.empty else ByteArray.empty) := by
  obtain ⟨e1, e2⟩ := h
  rw [drop_at hk] at e1 e2
  rw [gotE, if_pos h1] at e1
  rw [gotS, if_pos h1] at e2
  exact ⟨e1, e2⟩
theorem gotN_step {vs : List Vl} {vol block : Int} {k : Nat} (h : gotE vs vol block = gotE (vs.drop k) vol block ∧ gotS vs vol block = gotS (vs.drop k) vol block) (hk : k < vs.length) (h1 : ¬ vs[k].1 = vol) :
    gotE vs vol block = gotE (vs.drop (k + 1)) vol block ∧ gotS vs vol block = gotS (vs.drop (k + 1)) vol block := by
  obtain ⟨e1, e2⟩ := h
  rw [drop_at hk] at e1 e2
  rw [gotE, if_neg h1] at e1
  rw [gotS, if_neg h1] at e2
  exact ⟨e1, e2⟩

end Go.Proofs.Ytpmllckfijfehaa
