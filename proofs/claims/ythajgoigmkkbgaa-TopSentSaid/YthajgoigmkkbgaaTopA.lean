/- The laws through the layers: contract of small. -/
import Derived.Test.YthajgoigmkkbgaaQueY
import Derived.Test.YthajgoigmkkbgaaLagO
namespace Go.Proofs.Ythajgoigmkkbgaa
open Go.Shelf Go.RowKit Go.Lib Go.Sort

/-- The first lists are short. -/
def shortL (l : List (List Wr)) (most : Nat) : Bool := (l.take most).all (fun x => decide (x.length ≤ 20))
theorem shortL_iff (l : List (List Wr)) (most : Nat) : shortL l most = true ↔ ∀ i, (h : i < l.length) → i < most → l[i].length ≤ 20 := by
  unfold shortL
  rw [List.all_eq_true]
  constructor
  · intro h i hi hm
    have := h l[i] (List.mem_take_iff_getElem.2 ⟨i, by omega, rfl⟩)
    simpa using this
  · intro h x hx
    obtain ⟨i, hi, rfl⟩ := List.mem_take_iff_getElem.1 hx
    simpa using h i (by omega) (by omega)
def smallT (vs : List Vl) (l : List (List Wr)) (most : Nat) : Bool := rightB vs && shortL l most

set_option maxHeartbeats 4000000 in
set_option maxRecDepth 100000 in
theorem SmallT_any {w : World} {A A1 : Option Addr} {c c1 : Nat} {vs : List Vl} {l : List (List Wr)} (h : VolsAt w w.heap.size A vs) (hf : VolsFit vs) (h1 : WlsAt w w.heap.size A1 l) (hl : l.length ≤ 9223372036854775807) (most : Nat) (hm : most ≤ 1000) :
    Calls Try.prog 20 #[.slice A vs.length c, .slice A1 l.length c1, .int .i64 most] w fun e w' => e = .returned (.bool (smallT vs l most)) ∧ Below w.heap.size w w' := by
  have HR := Lib.hid (Right_any (c := c) h hf)
  have H1 := Lib.hid h1
  have hR4 : rightB vs = true → vs.length ≤ 4 := fun e => ((rightB_iff vs).1 e).1
  obtain ⟨m, hm'⟩ : ∃ m, vs.length = m := ⟨_, rfl⟩
  rw [hm'] at HR hR4 ⊢
  clear hm'
  unfold smallT
  have HY := Lib.hid (shortL_iff l most)
  generalize shortL l most = G at HY ⊢
  generalize rightB vs = R at HR hR4 ⊢
  cases R with
  | false =>
    go_enter Try.func20, Try.ntmps20
    go_wp2_with fail
    refine HR.out.mono ?_
    rintro e w1 ⟨rfl, hb⟩
    have HB := Lib.hid hb
    clear hb
    go_wp2_with fail
    go_ret
    exact ⟨rfl, HB.out⟩
  | true =>
    have h4 : ¬ (4 : Int) < (m : Int) := by have := hR4 rfl; omega
    go_enter Try.func20, Try.ntmps20
    go_wp2_with fail
    refine HR.out.mono ?_
    rintro e w1 ⟨rfl, hb⟩
    have HB := Lib.hid hb
    clear hb hR4
    obtain ⟨n, hn⟩ : ∃ n, l.length = n := ⟨_, rfl⟩
    have HN := Lib.hid hn
    rw [hn] at hl ⊢
    clear hn h1
    go_wp2_with fail
    go_loopg [7] n (fun kx s3 wr => ∃ k : Nat, s3 = .int .i64 k ∧ k ≤ n ∧ n - k ≤ kx ∧ Hid (∀ i, (h : i < l.length) → i < k → i < most → l[i].length ≤ 20) ∧ Hid (wr = w1))
    case atStart => exact ⟨0, rfl, Nat.zero_le _, by omega, Lib.hid (fun i _ h => by omega), Lib.hid rfl⟩
    case round =>
      obtain ⟨k, rfl, hk, hkx, HG, HZ⟩ := hrel
      have hz := HZ.out
      subst hz
      clear HZ
      by_cases hlt : k < n
      · have hltz : (k : Int) < (n : Int) := by omega
        by_cases hlm : k < most
        · have hlmz : (k : Int) < (most : Int) := by omega
          have hkl : k < l.length := by rw [HN.out]; exact hlt
          obtain ⟨b, off, ax, cx, hA, hbl, -, hfar⟩ := H1.out.far hkl
          have lc := (hfar _ HB.out).1
          clear hfar
          obtain ⟨j, hj⟩ : ∃ j, l[k].length = j := ⟨_, rfl⟩
          have HJ := Lib.hid hj
          rw [hj] at lc
          subst hA
          clear hj hbl
          cases e1 : decide ((20 : Int) < (j : Int)) with
          | true =>
            have hG : G = false := by
              rw [Bool.eq_false_iff]
              intro e
              have := HY.out.1 e k hkl hlm
              rw [HJ.out] at this
              have := of_decide_eq_true e1
              omega
            go_wp2_with fail
            go_ret
            exact ⟨by first | (rw [hG]; rfl) | rfl, HB.out⟩
          | false =>
            have HG2 : Hid (∀ i, (h : i < l.length) → i < k + 1 → i < most → l[i].length ≤ 20) := Lib.hid (fun i h hi hm => by
              by_cases e : i = k
              · subst e; rw [HJ.out]; have := of_decide_eq_false e1; omega
              · exact HG.out i h (by omega) hm)
            go_wp2_with fail
            go_roundg (n - (k + 1))
            case measure => omega
            case rel => exact ⟨k + 1, by go_num, by omega, Nat.le_refl _, HG2, Lib.hid rfl⟩
        · have hlmz : ¬ (k : Int) < (most : Int) := by omega
          have hG : G = true := HY.out.2 (fun i hi hm => HG.out i hi (by omega) hm)
          go_wp2_with fail
          go_ret
          exact ⟨by first | (rw [hG]; rfl) | rfl, HB.out⟩
      · have hltz : ¬ (k : Int) < (n : Int) := by omega
        have hG : G = true := HY.out.2 (fun i hi hm => HG.out i hi (by have := HN.out; omega) hm)
        go_wp2_with fail
        go_ret
        exact ⟨by first | (rw [hG]; rfl) | rfl, HB.out⟩
end Go.Proofs.Ythajgoigmkkbgaa
