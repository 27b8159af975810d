/- Contracts of same, and of the document's Put. -/
import Derived.Test.YtfcpgkbbocadpaaWireC
namespace Go.Proofs.Ytfcpgkbbocadpaa
open Go.RowKit

theorem take_eq_step {α : Type} {a b : List α} {k : Nat} (h : a.take k = b.take k) (h1 : k < a.length) (h2 : k < b.length) (he : a[k] = b[k]) : a.take (k + 1) = b.take (k + 1) := by
  rw [List.take_succ_eq_append_getElem h1, List.take_succ_eq_append_getElem h2, h, he]
theorem take_eq_all {α : Type} {a b : List α} {k : Nat} (h : a.take k = b.take k) (h1 : a.length ≤ k) (h2 : b.length ≤ k) : a = b := by
  rwa [List.take_of_length_le h1, List.take_of_length_le h2] at h
theorem ne_at {α : Type} {a b : List α} {k : Nat} (h1 : k < a.length) (h2 : k < b.length) (h : a[k] ≠ b[k]) : a ≠ b := by
  intro e; subst e; exact h rfl
theorem str_inj16 {a b : List UInt8} (h : str a = str b) : a = b := by
  have := congrArg (fun s : ByteArray => s.data.toList) h
  simpa [str] using this

set_option maxHeartbeats 1000000 in
set_option maxRecDepth 100000 in
theorem same16_any {w : World} {A1 A2 : Option Addr} {c1 c2 : Nat} {l m : List WPk} (h1 : WpAt w w.heap.size A1 l) (h2 : WpAt w w.heap.size A2 m) (hl : l.length ≤ 100000) :
    Calls Try.prog 12 #[.slice A1 l.length c1, .slice A2 m.length c2] w fun e w' => e = .returned (.bool (decide (l = m))) ∧ Below w.heap.size w w' := by
  obtain ⟨b, hb⟩ : ∃ b, decide (l = m) = b := ⟨_, rfl⟩
  by_cases hlen : l.length = m.length
  · have H1 := Lib.hid h1
    have H2 := Lib.hid h2
    have HF := Lib.hid hb
    obtain ⟨n, hn⟩ : ∃ n, l.length = n := ⟨_, rfl⟩
    have HN1 := Lib.hid hn
    have HN2 : Hid (m.length = n) := Lib.hid (by rw [← hlen]; exact hn)
    rw [← hlen, hn, hb]
    rw [hn] at hl
    clear h1 h2 hn hlen hb
    go_enter Try.func12, Try.ntmps12
    go_wp2
    go_loopw [13] (fun i wr => ∃ k q : Nat, k ≤ n ∧ i = .int .i64 k ∧ Hid (l.take k = m.take k) ∧ wr = w.drewN q) (fun i _ => n - (intOf i).toNat)
    case atStart => exact ⟨0, 0, by omega, rfl, Lib.hid (by simp), rfl⟩
    case round =>
      obtain ⟨k, q, hk, rfl, HT, rfl⟩ := hrel
      by_cases hlt : k < n
      · have k1 : k < l.length := by rw [HN1.out]; exact hlt
        have k2 : k < m.length := by rw [HN2.out]; exact hlt
        obtain ⟨b1, o1, rfl, _, x0, x1⟩ := H1.out.at_ (Below.refl _ _) k1
        obtain ⟨b2, o2, rfl, _, y0, y1⟩ := H2.out.at_ (Below.refl _ _) k2
        have HNe := Lib.hid (@ne_at _ l m k k1 k2)
        have HSt := Lib.hid (@take_eq_step _ l m k HT.out k1 k2)
        obtain ⟨p, hp⟩ : ∃ p, l[k] = p := ⟨_, rfl⟩
        obtain ⟨r, hr⟩ : ∃ r, m[k] = r := ⟨_, rfl⟩
        rw [hp] at x0 x1 HNe HSt
        rw [hr] at y0 y1 HNe HSt
        obtain ⟨t1, s1⟩ := p
        obtain ⟨t2, s2⟩ := r
        dsimp only at x0 x1 y0 y1
        obtain ⟨T1, hT1⟩ : ∃ T, str s1 = T := ⟨_, rfl⟩
        obtain ⟨T2, hT2⟩ : ∃ T, str s2 = T := ⟨_, rfl⟩
        rw [hT1] at x1
        rw [hT2] at y1
        have HS1 := Lib.hid hT1
        have HS2 := Lib.hid hT2
        have hi0 : (0 : Int) ≤ (k : Int) := by omega
        have hi1 : (k : Int) < (n : Int) := by omega
        clear k1 k2 hp hr hT1 hT2
        by_cases ht : t1 = t2
        · subst ht
          by_cases hs : T1 = T2
          · subst hs
            have HT2 := Lib.hid (HSt.out (by rw [str_inj16 (HS1.out.trans HS2.out.symm)]))
            go_wp2
            go_quiet (fail)
            go_wp2
            go_roundw
            case rel => exact ⟨k + 1, q + nq, by omega, by go_num, HT2, rfl⟩
            case measure => simp [intOf]; omega
          · have hs' : (T1.toList == T2.toList) = false := by rw [beq_eq_false_iff_ne, ne_eq, Lib.toList_data, Lib.toList_data]; exact fun e => hs (by rw [← str_of T1, ← str_of T2, e])
            have HE : Hid (b = false) := Lib.hid (by rw [← HF.out]; exact decide_eq_false (HNe.out (fun e => hs (by rw [← HS1.out, ← HS2.out]; injection e with _ e2; rw [e2]))))
            go_wp2
            go_quiet (fail)
            go_wp2
            go_ret
            rw [HE.out]
            exact ⟨rfl, below_drewN (below_drewN (Below.refl _ _) _) _⟩
        · have ht' : (t1 == t2) = false := beq_eq_false_iff_ne.2 ht
          have HE : Hid (b = false) := Lib.hid (by rw [← HF.out]; exact decide_eq_false (HNe.out (fun e => ht (by injection e))))
          go_wp2
          go_quiet (fail)
          go_wp2
          go_ret
          rw [HE.out]
          exact ⟨rfl, below_drewN (below_drewN (Below.refl _ _) _) _⟩
      · have HE : Hid (b = true) := Lib.hid (by rw [← HF.out]; exact decide_eq_true (take_eq_all HT.out (by have := HN1.out; omega) (by have := HN2.out; omega)))
        go_wp2
        go_ret
        rw [HE.out]
        exact ⟨rfl, below_drewN (Below.refl _ _) _⟩
  · have hlen2 : ((l.length : Int) == (m.length : Int)) = false := by rw [beq_eq_false_iff_ne]; omega
    have hlen3 : ¬ (l.length : Int) = (m.length : Int) := by omega
    have HE : Hid (b = false) := Lib.hid (by rw [← hb]; exact decide_eq_false (fun e => hlen (by rw [e])))
    rw [hb]
    obtain ⟨n, hn⟩ : ∃ n, l.length = n := ⟨_, rfl⟩
    obtain ⟨k, hk⟩ : ∃ k, m.length = k := ⟨_, rfl⟩
    rw [hn, hk] at hlen2 hlen3
    rw [hn, hk]
    clear h1 h2 hb hn hk hlen hl
    go_enter Try.func12, Try.ntmps12
    go_wp2
    go_ret
    rw [HE.out]
    exact ⟨rfl, Below.refl _ _⟩
end Go.Proofs.Ytfcpgkbbocadpaa
