/- The walk of DiskFirm. -/
import Derived.Test.YtnliaiedgaiohaaDiskH
import Derived.Test.YtnliaiedgaiohaaDiskSomeP
import Derived.Deep.CutRange
namespace Go.Proofs.Ytnliaiedgaiohaa
open Go.RowKit

/-- Sector i is firm with x, and no loose write names it. -/
structure FirmInv (i : Nat) (x : List UInt8) (d : DSt) : Prop where
  firm : d.firm.getD i [] = x
  loose : ∀ p ∈ d.loose, p.1 ≠ i
  size : d.seen.length = 8

theorem applyAll_apart (l : List (Nat × List UInt8)) : ∀ (f : List (List UInt8)) (i : Nat), (∀ p ∈ l, p.1 ≠ i) → (applyAll f l).getD i [] = f.getD i [] := by
  induction l with
  | nil => intro f i _; rfl
  | cons p l ih =>
    intro f i h
    show (applyAll (f.set p.1 p.2) l).getD i [] = _
    rw [ih _ i (fun q hq => h q (List.mem_cons_of_mem _ hq)), List.getD_eq_getElem?_getD, List.getElem?_set_ne (h p List.mem_cons_self), List.getD_eq_getElem?_getD]

theorem FirmInv.spent {i : Nat} {x : List UInt8} {d : DSt} (h : FirmInv i x d) : FirmInv i x d.spent := ⟨by rw [DSt.spent_firm]; exact h.firm, by rw [DSt.spent_loose]; exact h.loose, by rw [DSt.spent_seen]; exact h.size⟩

theorem firm_write {i : Nat} {x : List UInt8} {d : DSt} (h : FirmInv i x d) {j : Int} (hj : j ≠ i) (s : List UInt8) : FirmInv i x (d.writeD j s) := by
  unfold DSt.writeD
  split
  · exact h
  · next hn =>
    have hh : d.has j = true := by cases hq : d.has j; exact absurd (Or.inr (Or.inl hq)) hn; rfl
    obtain ⟨h1, _⟩ := (d.has_iff j).1 hh
    split
    · refine ⟨h.spent.firm, fun p hp => ?_, by show (d.spent.seen.set _ _).length = 8; rw [List.length_set]; exact h.spent.size⟩
      rcases List.mem_append.1 hp with hp | hp
      · exact h.spent.loose p hp
      · rw [List.mem_singleton] at hp
        subst hp
        show j.toNat ≠ i
        omega
    · exact h.spent
theorem firm_flush {i : Nat} {x : List UInt8} {d : DSt} (h : FirmInv i x d) : FirmInv i x d.flushD := by
  unfold DSt.flushD
  split
  · exact h
  · split
    · exact ⟨by show (applyAll d.spent.firm d.spent.loose).getD i [] = x; rw [applyAll_apart _ _ _ h.spent.loose]; exact h.spent.firm, (fun p hp => by cases hp), h.spent.size⟩
    · exact h.spent
theorem firm_crash {i : Nat} {x : List UInt8} {d : DSt} (ho : d.Ok) (h : FirmInv i x d) (bs : List Bool) : FirmInv i x (d.crashD bs) ∧ (d.crashD bs).seen.getD i [] = x := by
  have e : (d.crashF bs).getD i [] = x := by
    unfold DSt.crashF
    rw [applyAll_apart _ _ _ (fun p hp => h.loose p (keepOf_sub _ _ p hp))]
    exact h.firm
  exact ⟨⟨e, (fun p hp => by cases hp), by show (d.crashF bs).length = 8; rw [d.crashF_length, ho.len]; exact h.size⟩, e⟩
theorem firm_act {i : Nat} {x : List UInt8} {d : DSt} (ho : d.Ok) (h : FirmInv i x d) (p : ActV) (hp : ¬ (kindN p.k < 3 ∧ p.at_ = i)) : FirmInv i x (actD d p) := by
  have h7 := kindN_lt p.k
  unfold actD
  split
  · exact firm_flush h
  · split
    · exact h
    · split
      · exact ⟨h.firm, h.loose, h.size⟩
      · split
        · exact (firm_crash ho h p.bs).1
        · next h3 h4 h5 h6 => exact firm_write h (fun e => hp ⟨by omega, e⟩) _
theorem actD_loose (d : DSt) (p : ActV) : (actD d p).loose.length ≤ d.loose.length + 1 := by
  unfold actD
  split
  · have := flushD_loose d; omega
  · split
    · omega
    · split
      · exact Nat.le_succ _
      · split
        · exact Nat.zero_le _
        · exact writeD_loose d _ _

/-- Behind a write and a flush of a new disk. -/
theorem firm_start {i : Nat} (hi : i < 8) {s : List UInt8} (hs : s.length ≤ 32) :
    (DSt.new 8).writeE (i : Int) s = 0 ∧ ((DSt.new 8).writeD (i : Int) s).flushE = 0 ∧ FirmInv i (padB s) ((DSt.new 8).writeD (i : Int) s).flushD ∧ ((DSt.new 8).writeD (i : Int) s).flushD.loose = [] ∧
    ((DSt.new 8).writeD (i : Int) s).flushD.readE (i : Int) = 0 ∧ ((DSt.new 8).writeD (i : Int) s).flushD.readB (i : Int) = padB s := by
  have hc := calm_new (n := 8)
  rcases calm_write hc (i : Int) s with ⟨h1, _, _, _, h5, h6⟩ | ⟨h1, _⟩
  · obtain ⟨f1, f2, f3⟩ := calm_flush h6
    have hseen : ((DSt.new 8).writeD (i : Int) s).seen.getD i [] = padB s := by
      rw [h5, Int.toNat_natCast]
      show ((DSt.new 8).seen.set i _).getD i [] = _
      rw [List.getD_eq_getElem?_getD, List.getElem?_set_self (by rw [hc.size]; exact hi)]
      rfl
    obtain ⟨r1, r2⟩ := calm_read f3 hi
    refine ⟨h1, f1, ⟨?_, ?_, f3.size⟩, by rw [f2], r1, ?_⟩
    · rw [f2]; exact hseen
    · rw [f2]; exact fun p hp => by cases hp
    · rw [r2, f2]; exact hseen
  · exfalso
    apply h1
    unfold DSt.writeE
    have hh : (DSt.new 8).has (i : Int) = true := by rw [DSt.has_iff, hc.size]; omega
    rw [if_neg (by simp [DSt.new]), if_neg (by rw [hh]; simp), if_neg (by omega), if_pos hc.lasts.1]

def FirmAt (W : World) (i : Nat) (x : List UInt8) (k a : Nat) (wr : World) : Prop :=
  ∃ F d, IsDisk wr F a d ∧ (∀ q, F q → W.heap.size ≤ q) ∧ FirmInv i x d ∧ d.loose.length ≤ k ∧ Below W.heap.size W wr

set_option maxHeartbeats 8000000 in
set_option maxRecDepth 100000 in
theorem DiskFirm_walk (at_ : Int) (t : ByteArray) (A : Option Addr) (len cap : Nat) (l : List ActV) (W : World) (ht : t.size ≤ 140737488351232) (hl : IsActs W A len l) :
    Calls Try.prog 4 #[.int .i64 at_, .string t, .slice A len cap] W fun e w' => e = .returned (.bool true) ∧ Below W.heap.size W w' := by
  have hlen2 := hl.2.1
  have HL := Lib.hid hl
  have HLen := Lib.hid hl.1
  clear hl
  by_cases hbad : at_ < 0 ∨ 7 < at_ ∨ 32 < t.size
  · go_enter Try.func4, Try.ntmps4
    go_wp2_with fail
    refine (New_ok 8 _ (by omega) (by omega)).mono ?_
    rintro e w1 ⟨a, F, rfl, hd, hF, hb⟩
    have HB := Lib.hid hb
    clear hd hF hb
    go_wp2_with (go_at_call 15; refine (DiskAwake_any _).mono ?_; rintro e w9 ⟨rfl, hb9⟩; have HB9 : Hid (Below W.heap.size W w9) := Lib.hid (HB.out.trans (hb9.mono HB.out.size)); clear hb9)
    all_goals first
      | (go_ret; exact ⟨rfl, HB9.out⟩)
      | (exfalso; omega)
  obtain ⟨i, rfl⟩ := Int.eq_ofNat_of_zero_le (show 0 ≤ at_ by omega)
  have hi8 : i < 8 := by omega
  have ht32 : t.size ≤ 32 := by omega
  clear hbad
  obtain ⟨s1, s2, s3, s4, s5, s6⟩ := firm_start hi8 (s := t.data.toList) (by rw [list_length]; exact ht32)
  have S1 := Lib.hid s1
  have S2 := Lib.hid s2
  have S3 := Lib.hid s3
  have S4 := Lib.hid s4
  have S5 := Lib.hid s5
  have S6 := Lib.hid s6
  have hwl := writeD_loose (DSt.new 8) (i : Int) t.data.toList
  have HWL : Hid (((DSt.new 8).writeD (i : Int) t.data.toList).loose.length ≤ 1000001) := Lib.hid (by have e : (DSt.new 8).loose.length = 0 := rfl; omega)
  clear s1 s2 s3 s4 s5 s6 hwl
  have hi0' : decide ((i : Int) < 0) = false := by rw [decide_eq_false_iff_not]; omega
  have hi7' : decide (7 < (i : Int)) = false := by rw [decide_eq_false_iff_not]; omega
  have ht32' : decide (32 < (t.size : Int)) = false := by rw [decide_eq_false_iff_not]; omega
  go_enter Try.func4, Try.ntmps4
  go_wp2_with fail
  refine (New_ok 8 _ (by omega) (by omega)).mono ?_
  rintro e w1 ⟨a, F, rfl, hd, hF, hb⟩
  have HD := Lib.hid hd
  have HF := Lib.hid hF
  have HB := Lib.hid hb
  clear hd hF hb
  go_wp2_with fail
  refine (Write_any HD.out (i : Int) t (by omega) (Nat.zero_le _)).mono ?_
  rw [S1.out]
  rintro e w2 ⟨rfl, hm2, F2, hd2, hF2⟩
  have HD2 := Lib.hid hd2
  have HB2 : Hid (Below W.heap.size W w2) := Lib.hid (HB.out.trans (hm2.below HB.out.size HF.out))
  have HF2 : Hid (∀ q, F2 q → W.heap.size ≤ q) := Lib.hid (fun q hq => (hF2 q hq).elim (HF.out q) (fun h => Nat.le_trans HB.out.size h))
  clear hd2 hm2 hF2 HD HF HB
  go_wp2_with fail
  refine (Flush_any HD2.out HWL.out).mono ?_
  rw [S2.out]
  rintro e w3 ⟨rfl, hm3, F3, hd3, hF3⟩
  have HD3 := Lib.hid hd3
  have HA : Hid (FirmAt W i (padB t.data.toList) 0 a w3) := Lib.hid ⟨F3, _, hd3, fun q hq => (hF3 q hq).elim (HF2.out q) (fun h => Nat.le_trans HB2.out.size h), S3.out, by rw [S4.out]; simp, HB2.out.trans (hm3.below HB2.out.size HF2.out)⟩
  clear hd3 hm3 hF3 HD2 HF2 HB2
  go_wp2_with fail
  refine (Read_any HD3.out (i : Int)).mono ?_
  rw [S5.out, S6.out]
  rintro e w' ⟨rfl, rfl⟩
  clear HD3 S1 S2 S3 S4 S5 S6 HWL
  have hx32 : (padB t.data.toList).length = 32 := padB_length (by rw [list_length]; exact ht32)
  have htk : (padB t.data.toList).take t.data.toList.length = t.data.toList := padB_take
  generalize padB t.data.toList = x at *
  obtain ⟨S, hS⟩ : ∃ S, str x = S := ⟨_, rfl⟩
  have hS1 : S.size = 32 := by rw [← hS, str_size, hx32]
  have hS2 : ((S.extract 0 t.size).toList == t.toList) = true := by
    rw [← hS, bytes_toList, bytes_toList, extract_take, str_list, ← list_length, htk]
    simp
  have HS2 := Lib.hid hS2
  have HS1 := Lib.hid hS1
  have HSS := Lib.hid hS
  rw [hS]
  clear hS hS1 hS2 hx32 htk
  go_wp2_with fail
  go_loopw [10] (fun j wr => ∃ k : Nat, k ≤ 40 ∧ j = .int .i64 k ∧ Hid (FirmAt W i x k a wr)) (fun j _ => 40 - (intOf j).toNat)
  case atStart => exact ⟨0, by omega, rfl, HA⟩
  case round =>
    clear HA
    obtain ⟨k, hk, rfl, HA⟩ := hrel
    by_cases hgo : k < len ∧ k < 40
    · obtain ⟨hg1, hg2⟩ := hgo
      have hkl : k < l.length := by rw [HLen.out]; exact hg1
      obtain ⟨F, d, hd, hF, hI, hlo, hbel⟩ := HA.out
      have HC : Hid (∀ w, Below W.heap.size W w → ∃ b off, A = some ⟨b, off, none⟩ ∧ ActCells w b (off + k * 5) l[k] ∧ ActOk W l[k]) := Lib.hid (fun w hw => by
        obtain ⟨b, off, h1, _, h2, h3⟩ := HL.out.at_ hw hkl
        exact ⟨b, off, h1, h2, h3⟩)
      obtain ⟨p, hp⟩ : ∃ p, l[k] = p := ⟨_, rfl⟩
      rw [hp] at HC
      clear hp hkl HA
      obtain ⟨b, off, hA, ⟨c0, c1, c2, c3, c4⟩, hok⟩ := HC.out wr hbel
      subst hA
      have HOK := Lib.hid hok
      have hpl : p.len ≤ 9223372036854775807 := hok.len2
      have HP := Lib.hid (show IsDisk wr F a d ∧ (∀ q, F q → W.heap.size ≤ q) ∧ FirmInv i x d ∧ Below W.heap.size W wr from ⟨hd, hF, hI, hbel⟩)
      have HLo := Lib.hid hlo
      have hloose : d.loose.length ≤ 1000000 := by omega
      have HNo : Hid (∀ w', Below wr.heap.size wr w' → FirmAt W i x (k + 1) a w') := Lib.hid (fun w' hw => ⟨F, d, HP.out.1.below hw, HP.out.2.1, HP.out.2.2.1, Nat.le_succ_of_le HLo.out, HP.out.2.2.2.trans (hw.mono HP.out.2.2.2.size)⟩)
      clear hok hd hF hI hlo hbel
      by_cases h100 : 100 < p.len
      · have HN9 := Lib.hid (HNo.out wr (Below.refl _ _))
        go_wp2_with fail
        go_roundw
        case rel => exact ⟨k + 1, by omega, by go_num, HN9⟩
        case measure => simp [intOf]; omega
      have hp100 : decide (100 < p.len) = false := by simpa using h100
      go_wp2_with fail
      refine (kind_any _ _ _ _ _ _).mono ?_
      rintro e w4 ⟨rfl, hb4⟩
      have HN4 := Lib.hid (HNo.out w4 hb4)
      have HD4 : Hid (IsDisk w4 F a d) := Lib.hid (HP.out.1.below hb4)
      have HB4 : Hid (Below W.heap.size W w4) := Lib.hid (HP.out.2.2.2.trans (hb4.mono HP.out.2.2.2.size))
      clear c0 c1 c2 c3 c4 hb4
      obtain ⟨b', off', he, ⟨c0, c1, c2, c3, c4⟩, _⟩ := HC.out w4 HB4.out
      simp only [Option.some.injEq, Addr.mk.injEq, and_true] at he
      obtain ⟨rfl, rfl⟩ := he
      have HAct : Hid (¬ (kindN p.k < 3 ∧ p.at_ = i) → FirmInv i x (actD d p)) := Lib.hid (fun h => firm_act HP.out.1.1 HP.out.2.2.1 p h)
      have hq7 := kindN_lt p.k
      generalize kindN p.k = q at *
      by_cases hq3 : q < 3
      · by_cases hpa : p.at_ = i
        · have hpe : (p.at_ == (i : Int)) = true := by simpa using hpa
          clear hpa
          go_wp2_with fail
          go_roundw
          case rel => exact ⟨k + 1, by omega, by go_num, HN4⟩
          case measure => simp [intOf]; omega
        · have hpe : (p.at_ == (i : Int)) = false := by simpa using hpa
          have HI5 := Lib.hid (HAct.out (fun h => hpa h.2))
          clear hpa HAct
          go_wp2_with fail
          refine (act_none HD4.out p HOK.out HB4.out HP.out.2.1 hloose).mono ?_
          rintro e w5 ⟨⟨v5, rfl⟩, hm5, F5, hd5, hF5⟩
          have HN5 : Hid (FirmAt W i x (k + 1) a w5) := Lib.hid ⟨F5, _, hd5, fun q hq => (hF5 q hq).elim (HP.out.2.1 q) (fun h => Nat.le_trans HB4.out.size h), HI5.out, by have := actD_loose d p; have := HLo.out; omega, HB4.out.trans (hm5.below HB4.out.size HP.out.2.1)⟩
          clear hm5 hd5 hF5
          go_wp2_with fail
          go_roundw
          case rel => exact ⟨k + 1, by omega, by go_num, HN5⟩
          case measure => simp [intOf]; omega
      · have hq3' : decide ((q : Int) < 3) = false := by rw [decide_eq_false_iff_not]; omega
        have HI5 := Lib.hid (HAct.out (fun h => hq3 h.1))
        clear HAct
        go_wp2_with fail
        refine (act_none HD4.out p HOK.out HB4.out HP.out.2.1 hloose).mono ?_
        rintro e w5 ⟨⟨v5, rfl⟩, hm5, F5, hd5, hF5⟩
        have HN5 : Hid (FirmAt W i x (k + 1) a w5) := Lib.hid ⟨F5, _, hd5, fun q hq => (hF5 q hq).elim (HP.out.2.1 q) (fun h => Nat.le_trans HB4.out.size h), HI5.out, by have := actD_loose d p; have := HLo.out; omega, HB4.out.trans (hm5.below HB4.out.size HP.out.2.1)⟩
        clear hm5 hd5 hF5
        go_wp2_with fail
        go_roundw
        case rel => exact ⟨k + 1, by omega, by go_num, HN5⟩
        case measure => simp [intOf]; omega
    · go_upto_region 10 with fail
      go_cut [51] from 44 to 84 (fun v wc => v = .bool false ∧ wc = wr)
      case first =>
        by_cases hkl : k < len
        · have hk40 : decide ((k : Int) < 40) = false := by rw [decide_eq_false_iff_not]; omega
          clear hgo
          go_wp2
          go_meet
          case rel => exact ⟨rfl, rfl⟩
        · have hkl2 : decide (k < len) = false := by simpa using hkl
          clear hgo
          go_wp2
          go_meet
          case rel => exact ⟨rfl, rfl⟩
      case rest =>
        obtain ⟨rfl, rfl⟩ := hcut
        obtain ⟨F, d, hd, hF, hI, hlo, hbel⟩ := HA.out
        obtain ⟨f1, f2⟩ := firm_crash hd.1 hI []
        have HD := Lib.hid hd
        have HF := Lib.hid hF
        have HB := Lib.hid hbel
        have hloose : d.loose.length ≤ 1000001 := by omega
        have HR1 : Hid ((d.crashD []).readE (i : Int) = 0) := Lib.hid (by
          unfold DSt.readE
          rw [if_neg (by simp [DSt.crashD]), if_pos ((DSt.has_iff _ _).2 ⟨by omega, by rw [f1.size]; omega⟩)])
        have HR2 : Hid ((d.crashD []).readB (i : Int) = x) := Lib.hid (by
          unfold DSt.readB
          rw [if_pos HR1.out, Int.toNat_natCast]
          exact f2)
        clear hd hF hbel hI hlo HA f1 f2 hgo
        go_wp2_with fail
        refine (Crash_any HD.out hloose (bs := []) (.inl rfl) rfl (by simp)).mono ?_
        rintro e w6 ⟨rfl, hm6, F6, hd6, hF6⟩
        have HD6 := Lib.hid hd6
        have HB6 : Hid (Below W.heap.size W w6) := Lib.hid (HB.out.trans (hm6.below HB.out.size HF.out))
        clear hd6 hm6 hF6 HD HB HF
        go_wp2_with fail
        refine (Read_any HD6.out (i : Int)).mono ?_
        rw [HR1.out, HR2.out, HSS.out]
        rintro e w' ⟨rfl, rfl⟩
        have hS2 := HS2.out
        have hs3 : ((S.size : Int) == 32) = true := by rw [HS1.out]; rfl
        have hs4 : (t.size : Int) ≤ (S.size : Int) := by rw [HS1.out]; omega
        go_wp2_with fail
        refine (DiskAwake_any _).mono ?_
        rintro e w9 ⟨rfl, hb9⟩
        have HB9 : Hid (Below W.heap.size W w9) := Lib.hid (HB6.out.trans (hb9.mono HB6.out.size))
        clear hb9
        go_wp2_with fail
        go_ret
        exact ⟨rfl, HB9.out⟩
end Go.Proofs.Ytnliaiedgaiohaa
