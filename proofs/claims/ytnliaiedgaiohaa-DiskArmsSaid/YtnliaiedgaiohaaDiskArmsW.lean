/- The walk of DiskArms. -/
import Derived.Test.YtnliaiedgaiohaaDiskArmsP
namespace Go.Proofs.Ytnliaiedgaiohaa
open Go.RowKit

/-- Where the law's loop stands. -/
def ArmsAt (W : World) (n : Int) (i : Nat) (a : Nat) (done : Int) (wr : World) : Prop :=
  ∃ F d, IsDisk wr F a d ∧ (∀ k, F k → W.heap.size ≤ k) ∧ ArmInv n done d ∧ d.loose.length ≤ i ∧ Below W.heap.size W wr

theorem ArmsAt.next {W w1 w2 : World} {n done' : Int} {i a : Nat} {F : Nat → Prop} {d : DSt} {v : Value} {e : Ending} (hF : ∀ k, F k → W.heap.size ≤ k) (hb : Below W.heap.size W w1) (h : DiskEnd w1 F a d v e w2) (hi : ArmInv n done' d) (hl : d.loose.length ≤ i) : ArmsAt W n i a done' w2 := by
  obtain ⟨_, hm, F', hd, hF'⟩ := h
  exact ⟨F', d, hd, fun k hk => (hF' k hk).elim (hF k) (fun h => Nat.le_trans hb.size h), hi, hl, hb.trans (hm.below hb.size hF)⟩

set_option maxHeartbeats 8000000 in
set_option maxRecDepth 100000 in
theorem DiskArms_walk (n : Int) (A : Option Addr) (len cap : Nat) (l : List ActV) (W : World) (hl : IsActs W A len l) :
    Calls Try.prog 6 #[.int .i64 n, .slice A len cap] W fun e w' => e = .returned (.bool true) ∧ Below W.heap.size W w' := by
  have hlen := hl.1
  have hlen2 := hl.2.1
  have HL := Lib.hid hl
  have HLen := Lib.hid hlen
  clear hl hlen
  by_cases hn : n < 0 ∨ 40 < n
  · go_enter Try.func6, Try.ntmps6
    go_wp2_with fail
    refine (New_ok 5 _ (by omega) (by omega)).mono ?_
    rintro e w1 ⟨a, F, rfl, hd, hF, hb⟩
    have HB := Lib.hid hb
    clear hd hF hb
    go_wp2_with (go_at_call 15; refine (DiskAwake_any _).mono ?_; rintro e w9 ⟨rfl, hb9⟩; have HB9 : Hid (Below W.heap.size W w9) := Lib.hid (HB.out.trans (hb9.mono HB.out.size)); clear hb9)
    all_goals
      go_ret
      exact ⟨rfl, HB9.out⟩
  have hn0 : 0 ≤ n := by omega
  have hn4 : n ≤ 40 := by omega
  clear hn
  go_enter Try.func6, Try.ntmps6
  go_wp2_with fail
  refine (New_ok 5 _ (by omega) (by omega)).mono ?_
  rintro e w1 ⟨a, F, rfl, hd, hF, hb⟩
  have HD := Lib.hid hd
  have HF := Lib.hid hF
  have HB := Lib.hid hb
  clear hd hF hb
  go_wp2_with fail
  refine (Arm_any HD.out n (by omega) (by omega)).mono ?_
  rintro e w2 h2
  have HA : Hid (ArmsAt W n 0 a 0 w2) := Lib.hid (ArmsAt.next HF.out HB.out h2 (armInv_start hn0) (by simp [DSt.armD, DSt.new]))
  obtain ⟨rfl, _⟩ := h2
  clear HD HF HB
  go_wp2_with fail
  go_loopw [6, 7] (fun dn i wr => ∃ (k : Nat) (dd : Int), k ≤ 40 ∧ 0 ≤ dd ∧ dd ≤ 40 ∧ i = .int .i64 k ∧ dn = .int .i64 dd ∧ Hid (ArmsAt W n k a dd wr)) (fun _ i _ => 40 - (intOf i).toNat)
  case atStart => exact ⟨0, 0, by omega, by omega, by omega, rfl, rfl, HA⟩
  case round =>
    clear HA
    obtain ⟨k, dd, hk, hd0, hd4, rfl, rfl, HA⟩ := hrel
    by_cases hgo : k < len ∧ k < 40
    · obtain ⟨hg1, hg2⟩ := hgo
      have hkl : k < l.length := by rw [HLen.out]; exact hg1
      obtain ⟨F, d, hd, hF, hI, hlo, hbel⟩ := HA.out
      obtain ⟨b, off, rfl, hbW, hc, hok⟩ := HL.out.at_ hbel hkl
      obtain ⟨p, hp⟩ : ∃ p, l[k] = p := ⟨_, rfl⟩
      rw [hp] at hc hok
      clear hp hkl HA
      obtain ⟨c0, c1, c2, c3, c4⟩ := hc
      have HOK := Lib.hid hok
      have HD := Lib.hid hd
      have HF := Lib.hid hF
      have HI := Lib.hid hI
      have HLo := Lib.hid hlo
      have HB := Lib.hid hbel
      have hsz : p.s.size ≤ 9223372036854775807 := hok.s1
      clear hok hd hF hI hlo hbel
      go_wp2_with fail
      refine (kind_any _ _ _ _ _ _).mono ?_
      rintro e w3 ⟨rfl, hb3⟩
      have hbs : b < wr.heap.size := Nat.lt_of_lt_of_le hbW HB.out.size
      have HC1 : Hid (w3.cell? ⟨b, off + k * 5 + 1, none⟩ = some (.int .i64 p.at_)) := Lib.hid ((hb3.cell (p := ⟨b, off + k * 5 + 1, none⟩) hbs).trans c1)
      have HC3 : Hid (w3.cell? ⟨b, off + k * 5 + 3, none⟩ = some (.string p.s)) := Lib.hid ((hb3.cell (p := ⟨b, off + k * 5 + 3, none⟩) hbs).trans c3)
      have HD3 : Hid (IsDisk w3 F a d) := Lib.hid (HD.out.below hb3)
      have HB3 : Hid (Below W.heap.size W w3) := Lib.hid (HB.out.trans (hb3.mono HB.out.size))
      have hq7 := kindN_lt p.k
      generalize kindN p.k = q at *
      clear c0 c1 c2 c3 c4 HD HB hb3 hbs
      have hloose : d.loose.length ≤ 1000000 := by have := HLo.out; omega
      rcases (show q = 0 ∨ q = 1 ∨ q = 2 ∨ q = 3 ∨ q = 4 ∨ q = 5 ∨ q = 6 by omega) with rfl | rfl | rfl | rfl | rfl | rfl | rfl
      · have c1 := HC1.out
        have c3 := HC3.out
        go_wp2_with fail
        go_still_tail 11, (by kernel_rfl)
        change wpList _ _ _ _ _ w3.drew
        have HD4 : Hid (IsDisk w3.drew F a d) := Lib.hid (HD3.out.below (Below.refl _ _).drew)
        have HB4 : Hid (Below W.heap.size W w3.drew) := Lib.hid HB3.out.drew
        clear c1 c3 HC1 HC3
        generalize w3.drew = w4 at *
        clear HD3 HB3
        go_wp2_with fail
        refine (Write_any HD4.out p.at_ p.s hsz hloose).mono ?_
        rintro e w5 h5
        have hst := arm_write HI.out p.at_ p.s.data.toList
        have hlo5 := writeD_loose d p.at_ p.s.data.toList
        have HN : Hid (∀ dd', ArmInv n dd' (d.writeD p.at_ p.s.data.toList) → ArmsAt W n (k + 1) a dd' w5) := Lib.hid (fun dd' hi => ArmsAt.next HF.out HB4.out h5 hi (by have := HLo.out; omega))
        obtain ⟨rfl, _, F5, hd5, _⟩ := h5
        have HD5 := Lib.hid hd5
        clear hd5 hlo5
        rcases hst with ⟨e0, eo, hi⟩ | ⟨e0, eo, en, hi⟩ | ⟨e0, eo, hi⟩
        · have HE := Lib.hid (HN.out _ hi)
          have EO := Lib.hid eo
          have h9 : dd + 1 ≤ n := hi.hi
          rw [e0]
          clear hi e0 eo HN
          go_wp2_with (go_at_call 12; refine (Down_any HD5.out).mono ?_; rw [EO.out]; rintro e w' ⟨rfl, rfl⟩)
          go_roundw
          case rel => exact ⟨k + 1, dd + 1, by omega, by omega, by omega, by go_num, rfl, HE⟩
          case measure => simp [intOf]; omega
        · have HE := Lib.hid (HN.out _ hi)
          have EO := Lib.hid eo
          subst en
          rw [e0]
          clear hi e0 eo HN
          go_wp2_with (go_at_call 12; refine (Down_any HD5.out).mono ?_; rw [EO.out]; rintro e w' ⟨rfl, rfl⟩)
          go_roundw
          case rel => exact ⟨k + 1, dd, by omega, by omega, by omega, by go_num, rfl, HE⟩
          case measure => simp [intOf]; omega
        · have HE := Lib.hid (HN.out _ hi)
          have EO := Lib.hid eo
          have h9 : dd ≤ n := hi.hi
          rcases e0 with e0 | e0
          all_goals
            rw [e0]
            clear hi e0 eo HN
            go_wp2_with (go_at_call 12; refine (Down_any HD5.out).mono ?_; rw [EO.out]; rintro e w' ⟨rfl, rfl⟩)
            go_roundw
            case rel => exact ⟨k + 1, dd, by omega, by omega, by omega, by go_num, rfl, HE⟩
            case measure => simp [intOf]; omega
      · have c1 := HC1.out
        have c3 := HC3.out
        go_wp2_with fail
        go_still_tail 11, (by kernel_rfl)
        change wpList _ _ _ _ _ w3.drew
        have HD4 : Hid (IsDisk w3.drew F a d) := Lib.hid (HD3.out.below (Below.refl _ _).drew)
        have HB4 : Hid (Below W.heap.size W w3.drew) := Lib.hid HB3.out.drew
        clear c1 c3 HC1 HC3
        generalize w3.drew = w4 at *
        clear HD3 HB3
        go_wp2_with fail
        refine (Write_any HD4.out p.at_ p.s hsz hloose).mono ?_
        rintro e w5 h5
        have hst := arm_write HI.out p.at_ p.s.data.toList
        have hlo5 := writeD_loose d p.at_ p.s.data.toList
        have HN : Hid (∀ dd', ArmInv n dd' (d.writeD p.at_ p.s.data.toList) → ArmsAt W n (k + 1) a dd' w5) := Lib.hid (fun dd' hi => ArmsAt.next HF.out HB4.out h5 hi (by have := HLo.out; omega))
        obtain ⟨rfl, _, F5, hd5, _⟩ := h5
        have HD5 := Lib.hid hd5
        clear hd5 hlo5
        rcases hst with ⟨e0, eo, hi⟩ | ⟨e0, eo, en, hi⟩ | ⟨e0, eo, hi⟩
        · have HE := Lib.hid (HN.out _ hi)
          have EO := Lib.hid eo
          have h9 : dd + 1 ≤ n := hi.hi
          rw [e0]
          clear hi e0 eo HN
          go_wp2_with (go_at_call 12; refine (Down_any HD5.out).mono ?_; rw [EO.out]; rintro e w' ⟨rfl, rfl⟩)
          go_roundw
          case rel => exact ⟨k + 1, dd + 1, by omega, by omega, by omega, by go_num, rfl, HE⟩
          case measure => simp [intOf]; omega
        · have HE := Lib.hid (HN.out _ hi)
          have EO := Lib.hid eo
          subst en
          rw [e0]
          clear hi e0 eo HN
          go_wp2_with (go_at_call 12; refine (Down_any HD5.out).mono ?_; rw [EO.out]; rintro e w' ⟨rfl, rfl⟩)
          go_roundw
          case rel => exact ⟨k + 1, dd, by omega, by omega, by omega, by go_num, rfl, HE⟩
          case measure => simp [intOf]; omega
        · have HE := Lib.hid (HN.out _ hi)
          have EO := Lib.hid eo
          have h9 : dd ≤ n := hi.hi
          rcases e0 with e0 | e0
          all_goals
            rw [e0]
            clear hi e0 eo HN
            go_wp2_with (go_at_call 12; refine (Down_any HD5.out).mono ?_; rw [EO.out]; rintro e w' ⟨rfl, rfl⟩)
            go_roundw
            case rel => exact ⟨k + 1, dd, by omega, by omega, by omega, by go_num, rfl, HE⟩
            case measure => simp [intOf]; omega
      · have c1 := HC1.out
        have c3 := HC3.out
        go_wp2_with fail
        go_still_tail 11, (by kernel_rfl)
        change wpList _ _ _ _ _ w3.drew
        have HD4 : Hid (IsDisk w3.drew F a d) := Lib.hid (HD3.out.below (Below.refl _ _).drew)
        have HB4 : Hid (Below W.heap.size W w3.drew) := Lib.hid HB3.out.drew
        clear c1 c3 HC1 HC3
        generalize w3.drew = w4 at *
        clear HD3 HB3
        go_wp2_with fail
        refine (Write_any HD4.out p.at_ p.s hsz hloose).mono ?_
        rintro e w5 h5
        have hst := arm_write HI.out p.at_ p.s.data.toList
        have hlo5 := writeD_loose d p.at_ p.s.data.toList
        have HN : Hid (∀ dd', ArmInv n dd' (d.writeD p.at_ p.s.data.toList) → ArmsAt W n (k + 1) a dd' w5) := Lib.hid (fun dd' hi => ArmsAt.next HF.out HB4.out h5 hi (by have := HLo.out; omega))
        obtain ⟨rfl, _, F5, hd5, _⟩ := h5
        have HD5 := Lib.hid hd5
        clear hd5 hlo5
        rcases hst with ⟨e0, eo, hi⟩ | ⟨e0, eo, en, hi⟩ | ⟨e0, eo, hi⟩
        · have HE := Lib.hid (HN.out _ hi)
          have EO := Lib.hid eo
          have h9 : dd + 1 ≤ n := hi.hi
          rw [e0]
          clear hi e0 eo HN
          go_wp2_with (go_at_call 12; refine (Down_any HD5.out).mono ?_; rw [EO.out]; rintro e w' ⟨rfl, rfl⟩)
          go_roundw
          case rel => exact ⟨k + 1, dd + 1, by omega, by omega, by omega, by go_num, rfl, HE⟩
          case measure => simp [intOf]; omega
        · have HE := Lib.hid (HN.out _ hi)
          have EO := Lib.hid eo
          subst en
          rw [e0]
          clear hi e0 eo HN
          go_wp2_with (go_at_call 12; refine (Down_any HD5.out).mono ?_; rw [EO.out]; rintro e w' ⟨rfl, rfl⟩)
          go_roundw
          case rel => exact ⟨k + 1, dd, by omega, by omega, by omega, by go_num, rfl, HE⟩
          case measure => simp [intOf]; omega
        · have HE := Lib.hid (HN.out _ hi)
          have EO := Lib.hid eo
          have h9 : dd ≤ n := hi.hi
          rcases e0 with e0 | e0
          all_goals
            rw [e0]
            clear hi e0 eo HN
            go_wp2_with (go_at_call 12; refine (Down_any HD5.out).mono ?_; rw [EO.out]; rintro e w' ⟨rfl, rfl⟩)
            go_roundw
            case rel => exact ⟨k + 1, dd, by omega, by omega, by omega, by go_num, rfl, HE⟩
            case measure => simp [intOf]; omega
      · go_wp2_with fail
        refine (Flush_any HD3.out (by omega)).mono ?_
        rintro e w5 h5
        have HB4 := HB3
        have hst := arm_flush HI.out
        have hlo5 := flushD_loose d
        have HN : Hid (∀ dd', ArmInv n dd' (d.flushD) → ArmsAt W n (k + 1) a dd' w5) := Lib.hid (fun dd' hi => ArmsAt.next HF.out HB4.out h5 hi (by have := HLo.out; omega))
        obtain ⟨rfl, _, F5, hd5, _⟩ := h5
        have HD5 := Lib.hid hd5
        clear hd5 hlo5
        rcases hst with ⟨e0, eo, hi⟩ | ⟨e0, eo, en, hi⟩ | ⟨e0, eo, hi⟩
        · have HE := Lib.hid (HN.out _ hi)
          have EO := Lib.hid eo
          have h9 : dd + 1 ≤ n := hi.hi
          rw [e0]
          clear hi e0 eo HN
          go_wp2_with (go_at_call 12; refine (Down_any HD5.out).mono ?_; rw [EO.out]; rintro e w' ⟨rfl, rfl⟩)
          go_roundw
          case rel => exact ⟨k + 1, dd + 1, by omega, by omega, by omega, by go_num, rfl, HE⟩
          case measure => simp [intOf]; omega
        · have HE := Lib.hid (HN.out _ hi)
          have EO := Lib.hid eo
          subst en
          rw [e0]
          clear hi e0 eo HN
          go_wp2_with (go_at_call 12; refine (Down_any HD5.out).mono ?_; rw [EO.out]; rintro e w' ⟨rfl, rfl⟩)
          go_roundw
          case rel => exact ⟨k + 1, dd, by omega, by omega, by omega, by go_num, rfl, HE⟩
          case measure => simp [intOf]; omega
        · have HE := Lib.hid (HN.out _ hi)
          have EO := Lib.hid eo
          have h9 : dd ≤ n := hi.hi
          rcases e0 with e0 | e0
          all_goals
            rw [e0]
            clear hi e0 eo HN
            go_wp2_with (go_at_call 12; refine (Down_any HD5.out).mono ?_; rw [EO.out]; rintro e w' ⟨rfl, rfl⟩)
            go_roundw
            case rel => exact ⟨k + 1, dd, by omega, by omega, by omega, by go_num, rfl, HE⟩
            case measure => simp [intOf]; omega
      · have HE : Hid (ArmsAt W n (k + 1) a dd w3) := Lib.hid ⟨F, d, HD3.out, HF.out, HI.out, Nat.le_succ_of_le HLo.out, HB3.out⟩
        go_wp2_with fail
        go_roundw
        case rel => exact ⟨k + 1, dd, by omega, by omega, by omega, by go_num, rfl, HE⟩
        case measure => simp [intOf]; omega
      · have HE : Hid (ArmsAt W n (k + 1) a dd w3) := Lib.hid ⟨F, d, HD3.out, HF.out, HI.out, Nat.le_succ_of_le HLo.out, HB3.out⟩
        go_wp2_with fail
        go_roundw
        case rel => exact ⟨k + 1, dd, by omega, by omega, by omega, by go_num, rfl, HE⟩
        case measure => simp [intOf]; omega
      · have HE : Hid (ArmsAt W n (k + 1) a dd w3) := Lib.hid ⟨F, d, HD3.out, HF.out, HI.out, Nat.le_succ_of_le HLo.out, HB3.out⟩
        go_wp2_with fail
        go_roundw
        case rel => exact ⟨k + 1, dd, by omega, by omega, by omega, by go_num, rfl, HE⟩
        case measure => simp [intOf]; omega
    · obtain ⟨F, d, hd, hF, hI, hlo, hbel⟩ := HA.out
      obtain ⟨x1, x2, x3, x4⟩ := crash_works hd.1 []
      have X1 := Lib.hid x1
      have X2 := Lib.hid x2
      have X3 := Lib.hid x3
      have X4 := Lib.hid x4
      have HD := Lib.hid hd
      have HF := Lib.hid hF
      have HB := Lib.hid hbel
      have hloose : d.loose.length ≤ 1000001 := by omega
      clear hd hF hI hlo hbel x1 x2 x3 x4 HA
      have hgo2 : k < len → decide ((k : Int) < 40) = false := fun h => by rw [decide_eq_false_iff_not]; omega
      by_cases hkl : k < len
      · have hk40 := hgo2 hkl
        clear hgo2 hgo
        go_wp2_with fail
        refine (Crash_any HD.out hloose (bs := []) (.inl rfl) rfl (by simp)).mono ?_
        rintro e w6 ⟨rfl, hm6, F6, hd6, hF6⟩
        have HD6 := Lib.hid hd6
        have HB6 : Hid (Below W.heap.size W w6) := Lib.hid (HB.out.trans (hm6.below HB.out.size HF.out))
        have HF6 : Hid (∀ q, F6 q → W.heap.size ≤ q) := Lib.hid (fun q hq => (hF6 q hq).elim (HF.out q) (fun h => Nat.le_trans HB.out.size h))
        clear hd6 hm6 hF6 HD HB HF
        go_wp2_with fail
        refine (Down_any HD6.out).mono ?_
        rw [X1.out]
        rintro e w' ⟨rfl, rfl⟩
        go_wp2_with fail
        refine (Write_any HD6.out 0 xB (by decide) (by show ([] : List (Nat × List UInt8)).length ≤ _; simp)).mono ?_
        rw [X2.out]
        rintro e w7 ⟨rfl, hm7, F7, hd7, hF7⟩
        have HD7 := Lib.hid hd7
        have HB7 : Hid (Below W.heap.size W w7) := Lib.hid (HB6.out.trans (hm7.below HB6.out.size HF6.out))
        have HF7 : Hid (∀ q, F7 q → W.heap.size ≤ q) := Lib.hid (fun q hq => (hF7 q hq).elim (HF6.out q) (fun h => Nat.le_trans HB6.out.size h))
        clear hd7 hm7 hF7 HD6 HB6 HF6
        go_wp2_with fail
        refine (Flush_any HD7.out (Nat.le_succ_of_le X4.out)).mono ?_
        rw [X3.out]
        rintro e w8 ⟨rfl, hm8, F8, hd8, hF8⟩
        have HB8 : Hid (Below W.heap.size W w8) := Lib.hid (HB7.out.trans (hm8.below HB7.out.size HF7.out))
        clear hd8 hm8 hF8 HD7 HB7 HF7
        go_wp2_with fail
        refine (DiskAwake_any _).mono ?_
        rintro e w9 ⟨rfl, hb9⟩
        have HB9 : Hid (Below W.heap.size W w9) := Lib.hid (HB8.out.trans (hb9.mono HB8.out.size))
        clear hb9
        go_wp2_with fail
        go_ret
        exact ⟨rfl, HB9.out⟩
      · have hkl2 : decide (k < len) = false := by simpa using hkl
        clear hgo2 hgo
        go_wp2_with fail
        refine (Crash_any HD.out hloose (bs := []) (.inl rfl) rfl (by simp)).mono ?_
        rintro e w6 ⟨rfl, hm6, F6, hd6, hF6⟩
        have HD6 := Lib.hid hd6
        have HB6 : Hid (Below W.heap.size W w6) := Lib.hid (HB.out.trans (hm6.below HB.out.size HF.out))
        have HF6 : Hid (∀ q, F6 q → W.heap.size ≤ q) := Lib.hid (fun q hq => (hF6 q hq).elim (HF.out q) (fun h => Nat.le_trans HB.out.size h))
        clear hd6 hm6 hF6 HD HB HF
        go_wp2_with fail
        refine (Down_any HD6.out).mono ?_
        rw [X1.out]
        rintro e w' ⟨rfl, rfl⟩
        go_wp2_with fail
        refine (Write_any HD6.out 0 xB (by decide) (by show ([] : List (Nat × List UInt8)).length ≤ _; simp)).mono ?_
        rw [X2.out]
        rintro e w7 ⟨rfl, hm7, F7, hd7, hF7⟩
        have HD7 := Lib.hid hd7
        have HB7 : Hid (Below W.heap.size W w7) := Lib.hid (HB6.out.trans (hm7.below HB6.out.size HF6.out))
        have HF7 : Hid (∀ q, F7 q → W.heap.size ≤ q) := Lib.hid (fun q hq => (hF7 q hq).elim (HF6.out q) (fun h => Nat.le_trans HB6.out.size h))
        clear hd7 hm7 hF7 HD6 HB6 HF6
        go_wp2_with fail
        refine (Flush_any HD7.out (Nat.le_succ_of_le X4.out)).mono ?_
        rw [X3.out]
        rintro e w8 ⟨rfl, hm8, F8, hd8, hF8⟩
        have HB8 : Hid (Below W.heap.size W w8) := Lib.hid (HB7.out.trans (hm8.below HB7.out.size HF7.out))
        clear hd8 hm8 hF8 HD7 HB7 HF7
        go_wp2_with fail
        refine (DiskAwake_any _).mono ?_
        rintro e w9 ⟨rfl, hb9⟩
        have HB9 : Hid (Below W.heap.size W w9) := Lib.hid (HB8.out.trans (hb9.mono HB8.out.size))
        clear hb9
        go_wp2_with fail
        go_ret
        exact ⟨rfl, HB9.out⟩
end Go.Proofs.Ytnliaiedgaiohaa
