/- The walk of LinkOnce. -/
import Derived.Test.YtdhmkcomngbmaaaLinkIn
import Derived.Test.YtdhmkcomngbmaaaLinkO
namespace Go.Proofs.Ytdhmkcomngbmaaa
open Go.RowKit

/-- At each end: begins, called with what has come there and what was put at the other end, answers true. -/
theorem begins_lat {B H : Nat} {V : World} {l : Line} {m : LnM} {N : Nat} (h : LnAt B H V l m) (ho : LineOk l N) (hN : N ≤ 1000) {i : Nat} (hi : i < 2) :
    ∃ (A : Option Addr) (n c : Nat) (A' : Option Addr) (n' c' : Nat), m.v (3 + i) = .slice A n c ∧ m.v (1 + (1 - i)) = .slice A' n' c' ∧ LatCalls Try.prog V 26 #[.slice A n c, .slice A' n' c'] (.bool true) := by
  obtain ⟨A, c, hv, hl, hs, _, _⟩ := own_strs2 (h.came i hi)
  obtain ⟨A', c', hv', hl', hs', _, hc'⟩ := own_strs2 (h.put (1 - i) (by omega))
  have hS := ho.at_ hi
  have hp : (l.st (1 - i)).put.length ≤ 1000 := by
    have h0 := ho.p0
    have h1 := ho.p1
    rcases (show i = 0 ∨ i = 1 by omega) with rfl | rfl <;> (simp; omega)
  exact ⟨A, _, c, A', _, c', hv, hv', LatCalls.of fun z => begins_yes A A' c c' _ _ z.wd (hs.next z.bel) (hs'.next z.bel) hS.pre hc' (by omega)⟩

set_option maxHeartbeats 4000000 in
set_option maxRecDepth 100000 in
theorem LinkOnce_walk {w : World} {A : Option Addr} {len cap : Nat} (xs : List LActV) (h : IsLActs w A len xs) :
    Calls Try.prog 6 #[.slice A len cap] w fun e w' => e = .returned (.bool true) ∧ Below w.heap.size w w' := by
  have HA := Lib.hid h
  have hlen : xs.length = len := h.1
  have hlm := h.2.1
  have HLi := Lib.hid (line_any w)
  clear h
  go_enter Try.func6, Try.ntmps6
  go_wp2_with (go_at_call 24; (with_reducible refine HLi.out.mono ?_); rintro e w1 ⟨H, m0, rfl, hH, hL1, hb1⟩; have HL1 := Lib.hid hL1; have HH := Lib.hid hH; have HB1 := Lib.hid hb1; clear hL1 hb1)
  go_loopw [5] (fun i wr => ∃ (k : Nat) (lk : Line) (m' : LnM), k ≤ 120 ∧ k ≤ len ∧ i = .int .i64 k ∧ Hid (LnAt w1.heap.size H wr lk m') ∧ Hid (LineOk lk k ∧ BadLe lk) ∧ Hid (Below w.heap.size w wr ∧ w1.heap.size ≤ wr.heap.size)) (fun i _ => 120 - (intOf i).toNat)
  case atStart => exact ⟨0, lineNew, m0, by omega, by omega, rfl, HL1, Lib.hid ⟨lineNew_ok, badLe_new⟩, Lib.hid ⟨HB1.out, Nat.le_refl _⟩⟩
  case round =>
    obtain ⟨k, lk, m', hk, hkl, rfl, HLk, HOk, HBk⟩ := hrel
    have hE : ∀ W9, Below wr.heap.size wr W9 → Below w.heap.size w W9 := fun W9 hb => below_next HBk.out.1 hb
    have HE := Lib.hid hE
    clear hE
    by_cases hk2 : k < len
    case neg =>
      have hkl2 : ¬ (k : Int) < (len : Int) := by omega
      go_wp2_with (go_at_call 11; refine (awake15_any _).mono ?_; rintro e w9 ⟨rfl, hb9⟩)
      go_ret
      exact ⟨rfl, HE.out _ hb9⟩
    by_cases hk3 : k < 120
    case neg =>
      have hkl2 : (k : Int) < (len : Int) := by omega
      have hkl3 : ¬ (k : Int) < 120 := by omega
      go_wp2_with (go_at_call 11; refine (awake15_any _).mono ?_; rintro e w9 ⟨rfl, hb9⟩)
      go_ret
      exact ⟨rfl, HE.out _ hb9⟩
    obtain ⟨b, off, rfl, hbl, hca, hoa⟩ := HA.out.at_ HBk.out.1 (i := k) (by omega)
    obtain ⟨c0, c1, c2⟩ := hca
    obtain ⟨⟨kd, nd, ps⟩, hx⟩ : ∃ x, xs[k] = x := ⟨_, rfl⟩
    rw [hx] at c0 c1 c2
    dsimp only at c0 c1 c2
    have hkl2 : (k : Int) < (len : Int) := by omega
    have hkl3 : (k : Int) < 120 := by omega
    have hk0 : (0 : Int) ≤ (k : Int) := by omega
    clear hx hoa
    by_cases hps : 600 < ps.size
    · have hps2 : (600 : Int) < (ps.size : Int) := by omega
      go_wp2_with (go_at_call 11; refine (awake15_any _).mono ?_; rintro e w9 ⟨rfl, hb9⟩)
      go_ret
      exact ⟨rfl, HE.out _ hb9⟩
    have hps2 : ¬ (600 : Int) < (ps.size : Int) := by omega
    have hac := act_any HLk.out (HOk.out.1.in_ HOk.out.2 (by omega)) HBk.out.2 kd nd ps.data.toList
    rw [str_of] at hac
    obtain ⟨l2, hl2⟩ : ∃ l2, actL lk ((kd % 18446744073709551616).toNat % 12) (nd % 18446744073709551616).toNat ps.data.toList = l2 := ⟨_, rfl⟩
    have HO2 : Hid (LineOk l2 (k + 1) ∧ BadLe l2) := Lib.hid ⟨by rw [← hl2]; exact HOk.out.1.act _ _ _ (by omega), by rw [← hl2]; exact HOk.out.2.act HOk.out.1 _ _ _⟩
    rw [hl2] at hac
    have HAc := Lib.hid hac
    clear hac hl2
    go_upto_region 10 with (go_at_call 25; (with_reducible refine HAc.out.mono ?_); rintro e w7 ⟨rfl, ⟨m7, hL7⟩, hB7⟩; have HL7 := Lib.hid hL7; have HB7 := Lib.hid hB7; clear hL7 hB7)
    obtain ⟨A0, n0, d0, A1, n1, d1, v0, v1, hb0⟩ := begins_lat HL7.out HO2.out.1 (by omega) (i := 0) (by omega)
    obtain ⟨A2, n2, d2, A3, n3, d3, v2, v3, hb1⟩ := begins_lat HL7.out HO2.out.1 (by omega) (i := 1) (by omega)
    have HG0 := Lib.hid hb0
    have HG1 := Lib.hid hb1
    have x13 : ∀ z : LatW w7, z.wd.cell? ⟨H, 13, none⟩ = some (.slice A0 n0 d0) := fun z => by rw [← v0]; exact (HL7.out.later z.bel).cell 13
    have x12 : ∀ z : LatW w7, z.wd.cell? ⟨H, 12, none⟩ = some (.slice A1 n1 d1) := fun z => by rw [← v1]; exact (HL7.out.later z.bel).cell 12
    have x14 : ∀ z : LatW w7, z.wd.cell? ⟨H, 14, none⟩ = some (.slice A2 n2 d2) := fun z => by rw [← v2]; exact (HL7.out.later z.bel).cell 14
    have x11 : ∀ z : LatW w7, z.wd.cell? ⟨H, 11, none⟩ = some (.slice A3 n3 d3) := fun z => by rw [← v3]; exact (HL7.out.later z.bel).cell 11
    have HB8 := Lib.hid (show Below w.heap.size w w7 from HBk.out.1.trans (HB7.out.mono HH.out))
    have HZ8 := Lib.hid (Nat.le_trans HBk.out.2 HB7.out.size)
    clear v0 v1 v2 v3 hb0 hb1 c0 c1 c2
    refine wp_region_in15 (Below.refl _ _) (by kernel_rfl) (by kernel_rfl) ?_
    repeat (first | go_big_quiet_skip | quiet_step (first | (go_at_call 26; with_reducible exact (HG0.out).at_ _) | (go_at_call 26; with_reducible exact (HG1.out).at_ _)) | (go_big_quiet_want; go_big_quiet_op; go_big_quiet_on))
    refine wpQuiet_nil ?_
    intro w9 hw9
    obtain ⟨z9, hw9'⟩ := hw9
    subst hw9'
    clear x11 x12 x13 x14
    have HL9 := Lib.hid (HL7.out.later z9.bel)
    have HB9 := Lib.hid (below_next HB8.out z9.bel)
    have HZ9 := Lib.hid (Nat.le_trans HZ8.out z9.bel.size)
    go_wp2_with fail
    go_roundw
    case rel => exact ⟨k + 1, l2, m7, by omega, by omega, by go_num, HL9, HO2, Lib.hid ⟨HB9.out, HZ9.out⟩⟩
    case measure => simp [intOf]; omega
end Go.Proofs.Ytdhmkcomngbmaaa
