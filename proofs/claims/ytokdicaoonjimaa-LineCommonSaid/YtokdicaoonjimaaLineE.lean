/- Lineages: contract of diverge; where two lines part, by it. -/
import Derived.Test.YtokdicaoonjimaaLineD
namespace Go.Proofs.Ytokdicaoonjimaa
open Go.RowKit

def divN : List Br → List Br → Nat
  | x :: r, y :: q => if x = y then divN r q + 1 else 0
  | _, _ => 0
theorem divN_nil (m : List Br) : divN [] m = 0 := by cases m <;> rfl
theorem divN_end (l : List Br) : divN l [] = 0 := by cases l <;> rfl
theorem divN_same {x y : Br} {r q : List Br} (h : x = y) : divN (x :: r) (y :: q) = divN r q + 1 := by rw [divN, if_pos h]
theorem divN_ne {x y : Br} {r q : List Br} (h : x ≠ y) : divN (x :: r) (y :: q) = 0 := by rw [divN, if_neg h]
theorem divN_le (l m : List Br) : divN l m ≤ l.length ∧ divN l m ≤ m.length := by
  induction l generalizing m with
  | nil => rw [divN_nil]; omega
  | cons x r ih =>
    cases m with
    | nil => rw [divN_end]; simp
    | cons y q =>
      by_cases h : x = y
      · rw [divN_same h]; have := ih q; simp; omega
      · rw [divN_ne h]; simp
theorem divN_comm (l m : List Br) : divN l m = divN m l := by
  induction l generalizing m with
  | nil => rw [divN_nil, divN_end]
  | cons x r ih =>
    cases m with
    | nil => rw [divN_nil, divN_end]
    | cons y q =>
      by_cases h : x = y
      · rw [divN_same h, divN_same h.symm, ih]
      · rw [divN_ne h, divN_ne (fun e => h e.symm)]
theorem parts_div (l m : List Br) : partsB l m = ((l[divN l m]?).map (·.2)).getD (-1) := by
  induction l generalizing m with
  | nil => rw [partsB_nil]; simp
  | cons x r ih =>
    cases m with
    | nil => rw [partsB_end, divN_end]; simp
    | cons y q =>
      by_cases h : x = y
      · rw [partsB_same h, divN_same h, List.getElem?_cons_succ, ih]
      · rw [partsB_ne h, divN_ne h]; simp

theorem div_end1 {l m : List Br} {k D : Nat} (h : D = k + divN (l.drop k) (m.drop k)) (hk : l.length ≤ k) : D = k := by
  rw [List.drop_eq_nil_of_le hk, divN_nil] at h; exact h
theorem div_end2 {l m : List Br} {k D : Nat} (h : D = k + divN (l.drop k) (m.drop k)) (hk : m.length ≤ k) : D = k := by
  rw [List.drop_eq_nil_of_le hk, divN_end] at h; exact h

set_option maxHeartbeats 4000000 in
set_option maxRecDepth 100000 in
theorem diverge_any {w : World} {A1 A2 : Option Addr} {c1 c2 : Nat} {l m : List Br} (h1 : BrsAt w w.heap.size A1 l) (h2 : BrsAt w w.heap.size A2 m) (hl1 : l.length ≤ 9223372036854775807) :
    Calls Try.prog 31 #[.slice A1 l.length c1, .slice A2 m.length c2] w fun e w' => e = .returned (.int .i64 (divN l m)) ∧ Below w.heap.size w w' := by
  have H1 := Lib.hid h1
  have H2 := Lib.hid h2
  obtain ⟨n1, hn1⟩ : ∃ n, l.length = n := ⟨_, rfl⟩
  obtain ⟨n2, hn2⟩ : ∃ n, m.length = n := ⟨_, rfl⟩
  have HN1 := Lib.hid hn1
  have HN2 := Lib.hid hn2
  rw [hn1, hn2]
  rw [hn1] at hl1
  have mixed : Try.prog.follows .mixedOrders = true := by kernel_rfl
  obtain ⟨D, hD⟩ : ∃ D, divN l m = D := ⟨_, rfl⟩
  have HD0 : Hid (D = 0 + divN (l.drop 0) (m.drop 0)) := Lib.hid (by simp [hD])
  rw [hD]
  clear h1 h2 hn1 hn2 hD
  go_enter Try.func31, Try.ntmps31
  go_wp2
  go_loopg [5] n1 (fun kx i wr => ∃ k : Nat, k ≤ n1 ∧ k ≤ n2 ∧ n1 - k ≤ kx ∧ i = .int .i64 k ∧ Hid (D = k + divN (l.drop k) (m.drop k)) ∧ Hid (Below w.heap.size w wr))
  case atStart => exact ⟨0, Nat.zero_le _, Nat.zero_le _, by omega, rfl, HD0, Lib.hid (Below.refl _ _)⟩
  case round =>
    obtain ⟨k, hk, hkb, hkx, rfl, HK, HB⟩ := hrel
    by_cases hlt : k < n1
    · have hd1 : decide ((k : Int) < (n1 : Int)) = true := by rw [decide_eq_true_iff]; omega
      by_cases hltb : k < n2
      · have hd2 : decide ((k : Int) < (n2 : Int)) = true := by rw [decide_eq_true_iff]; omega
        have hk1 : k < l.length := by rw [HN1.out]; exact hlt
        have hk2 : k < m.length := by rw [HN2.out]; exact hltb
        obtain ⟨b1, o1, hA1, _, x1, x2⟩ := H1.out.at_ HB.out hk1
        obtain ⟨b2, o2, hA2, _, y1, y2⟩ := H2.out.at_ HB.out hk2
        subst hA1
        subst hA2
        have HNo : Hid (l[k] ≠ m[k] → D = k) := Lib.hid (fun h => by rw [HK.out, drop_at hk1, drop_at hk2, divN_ne h]; rfl)
        have HYes : Hid (l[k] = m[k] → D = (k + 1) + divN (l.drop (k + 1)) (m.drop (k + 1))) := Lib.hid (fun h => by rw [HK.out, drop_at hk1, drop_at hk2, divN_same h]; omega)
        obtain ⟨u, hu⟩ : ∃ u, l[k] = u := ⟨_, rfl⟩
        obtain ⟨v, hv⟩ : ∃ v, m[k] = v := ⟨_, rfl⟩
        rw [hu] at x1 x2 HNo HYes
        rw [hv] at y1 y2 HNo HYes
        clear hu hv hk1 hk2 HK
        obtain ⟨i1, j1⟩ := u
        obtain ⟨i2, j2⟩ := v
        simp only at x1 x2 y1 y2
        have hk0 : (0 : Int) ≤ (k : Int) := Int.natCast_nonneg _
        have hk8 : (k : Int) < (n1 : Int) := by omega
        have hk9 : (k : Int) < (n2 : Int) := by omega
        have hne := eql_br (i1, j1) (i2, j2)
        have hgd := guard_br
        simp only at hne
        by_cases he : ((i1, j1) : Br) = (i2, j2)
        · have HE := Lib.hid (HYes.out he)
          rw [he, sameB_self] at hne
          have e1 : i1 = i2 := congrArg Prod.fst he
          have e2 : j1 = j2 := congrArg Prod.snd he
          subst e1
          subst e2
          clear he HYes HNo
          go_wp2_with fail
          go_quiet (fail)
          go_wp2_with fail
          go_roundg (n1 - (k + 1))
          case measure => omega
          case rel => exact ⟨k + 1, by omega, by omega, Nat.le_refl _, by go_num, HE, Lib.hid (HB.out.trans ⟨rfl, rfl, rfl, Nat.le_refl _, fun _ _ => rfl⟩)⟩
        · have HE := Lib.hid (HNo.out he)
          rw [sameB_ne he] at hne
          clear he HYes HNo
          go_wp2_with fail
          go_quiet (fail)
          go_wp2_with fail
          go_ret
          exact ⟨by rw [HE.out]; rfl, HB.out.trans ⟨rfl, rfl, rfl, Nat.le_refl _, fun _ _ => rfl⟩⟩
      · have hd2 : decide ((k : Int) < (n2 : Int)) = false := by rw [decide_eq_false_iff_not]; omega
        have HE : Hid (D = k) := Lib.hid (div_end2 HK.out (by rw [HN2.out]; omega))
        go_wp2_with fail
        go_quiet (fail)
        go_wp2_with fail
        go_ret
        exact ⟨by rw [HE.out]; rfl, HB.out.trans ⟨rfl, rfl, rfl, Nat.le_refl _, fun _ _ => rfl⟩⟩
    · have hd1 : decide ((k : Int) < (n1 : Int)) = false := by rw [decide_eq_false_iff_not]; omega
      have HE : Hid (D = k) := Lib.hid (div_end1 HK.out (by rw [HN1.out]; omega))
      go_wp2_with fail
      go_quiet (fail)
      go_wp2_with fail
      go_ret
      exact ⟨by rw [HE.out]; rfl, HB.out.trans ⟨rfl, rfl, rfl, Nat.le_refl _, fun _ _ => rfl⟩⟩
end Go.Proofs.Ytokdicaoonjimaa
