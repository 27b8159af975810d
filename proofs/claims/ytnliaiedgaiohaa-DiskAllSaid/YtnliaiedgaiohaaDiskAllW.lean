/- The walk of DiskAll. -/
import Derived.Test.YtnliaiedgaiohaaDiskAllP
import Derived.Deep.CutRange
namespace Go.Proofs.Ytnliaiedgaiohaa
open Go.RowKit

theorem Try.infoBool : (Try.prog.info? 4).map (fun i => (i.zero, i.size, i.bytes)) = some (some (.bool false), 1, 1) := by kernel_rfl

/-- Three disks of which the first j hold x, the others y. -/
def three (x y : DSt) (j : Nat) : List DSt := match j with | 0 => [y, y, y] | 1 => [x, y, y] | 2 => [x, x, y] | _ => [x, x, x]

theorem take_next {l : List ActV} {k : Nat} (h : k < l.length) (d : DSt) : runW d (l.take (k + 1)) = (runW d (l.take k)).writeD l[k].at_ l[k].s.data.toList := by
  rw [List.take_succ_eq_append_getElem h, runW_snoc]

theorem loose_le {n : Nat} {d : DSt} (h : Calm n d) (hl : d.loose = []) (l : List ActV) {k : Nat} (_hk : k ≤ 30) : (runW d (l.take k)).loose.length ≤ k := by
  have := (calm_runW (l.take k) h).2.2
  rw [hl, List.length_take] at this
  simp at this
  omega

set_option maxHeartbeats 16000000 in
set_option maxRecDepth 100000 in
theorem DiskAll_walk (A1 : Option Addr) (len1 cap1 : Nat) (l1 : List ActV) (A2 : Option Addr) (len2 cap2 : Nat) (l2 : List ActV) (W : World)
    (hl1 : IsActs W A1 len1 l1) (hl2 : IsActs W A2 len2 l2) :
    Calls Try.prog 7 #[.slice A1 len1 cap1, .slice A2 len2 cap2] W fun e w' => e = .returned (.bool true) ∧ Below W.heap.size W w' := by
  have hlen1 := hl1.2.1
  have hlen2 := hl2.2.1
  have HL1 := Lib.hid hl1
  have HL2 := Lib.hid hl2
  have HLen1 := Lib.hid hl1.1
  have HLen2 := Lib.hid hl2.1
  clear hl1 hl2
  obtain ⟨i0, hi0, hz0, hz1, hz2⟩ := info_parts Try.infoBool
  have HI0 := Lib.hid (And.intro hi0 (And.intro hz0 (And.intro hz1 hz2)))
  clear hi0 hz0 hz1 hz2
  go_enter Try.func7, Try.ntmps7
  go_wp2_with fail
  refine (New_ok 6 _ (by omega) (by omega)).mono ?_
  rintro e w1 h1
  obtain ⟨a, rfl, hm1⟩ := (many_none W).new h1
  have HM1 := Lib.hid hm1
  clear hm1 h1
  go_wp2_with fail
  refine (New_ok 6 _ (by omega) (by omega)).mono ?_
  rintro e w2 h2
  obtain ⟨b, rfl, hm2⟩ := HM1.out.new h2
  have HM2 := Lib.hid hm2
  clear hm2 h2 HM1
  go_wp2_with fail
  refine (New_ok 6 _ (by omega) (by omega)).mono ?_
  rintro e w3 h3
  obtain ⟨c, rfl, hm3⟩ := HM2.out.new h3
  have HM3 : Hid (Many W w3 [a, b, c] [runW (DSt.new 6) (l1.take 0), runW (DSt.new 6) (l1.take 0), runW (DSt.new 6) (l1.take 0)] (.slice none 0 0) 0 (fun _ => False)) := Lib.hid hm3
  clear hm3 h3 HM2
  go_wp2_with fail
  go_loopw [9] (fun i wr => ∃ k : Nat, k ≤ 30 ∧ k ≤ len1 ∧ i = .int .i64 k ∧ Hid (Many W wr [a, b, c] [runW (DSt.new 6) (l1.take k), runW (DSt.new 6) (l1.take k), runW (DSt.new 6) (l1.take k)] (.slice none 0 0) 0 (fun _ => False))) (fun i _ => 30 - (intOf i).toNat)
  case atStart => exact ⟨0, by omega, by omega, rfl, HM3⟩
  case round =>
    clear HM3
    obtain ⟨k, hk, hk1, rfl, HM⟩ := hrel
    by_cases hgo : k < len1 ∧ k < 30
    · obtain ⟨hg1, hg2⟩ := hgo
      have hkl : k < l1.length := by rw [HLen1.out]; exact hg1
      have HTN := Lib.hid (take_next hkl (DSt.new 6))
      have HLo : Hid ((runW (DSt.new 6) (l1.take k)).loose.length ≤ k) := Lib.hid (loose_le calm_new rfl l1 hk)
      obtain ⟨bb, off, rfl, hbW, hcc, hok⟩ := HL1.out.at_ HM.out.bel hkl
      have HC : Hid (∀ w, Below W.heap.size W w → ActCells w bb (off + k * 5) l1[k]) := Lib.hid (fun w hw => by
        obtain ⟨bb', off', he, _, hc, _⟩ := HL1.out.at_ hw hkl
        simp only [Option.some.injEq, Addr.mk.injEq, and_true] at he
        obtain ⟨rfl, rfl⟩ := he
        exact hc)
      obtain ⟨p, hp⟩ : ∃ p, l1[k] = p := ⟨_, rfl⟩
      rw [hp] at HC HTN hok
      have hsz : p.s.size ≤ 9223372036854775807 := hok.s1
      clear hp hcc hkl hok
      have HMv : Hid (Many W (wr.alloc (.cells #[.pointer (some ⟨a, 0, none⟩), .pointer (some ⟨b, 0, none⟩), .pointer (some ⟨c, 0, none⟩)] 23)) [a, b, c] (three (runW (DSt.new 6) (l1.take (k + 1))) (runW (DSt.new 6) (l1.take k)) 0) (.slice none 0 0) 0 (fun q => q = wr.heap.size)) := Lib.hid (HM.out.avoid _)
      have HBl : Hid ((wr.alloc (.cells #[.pointer (some ⟨a, 0, none⟩), .pointer (some ⟨b, 0, none⟩), .pointer (some ⟨c, 0, none⟩)] 23)).heap[wr.heap.size]? = some (.cells #[.pointer (some ⟨a, 0, none⟩), .pointer (some ⟨b, 0, none⟩), .pointer (some ⟨c, 0, none⟩)] 23 (0, 0))) := Lib.hid (heap_alloc_new _ _)
      clear HM
      have hk30 : decide ((k : Int) < 30) = true := by rw [decide_eq_true_iff]; omega
      go_wp2_with fail
      generalize wr.heap.size = P at *
      generalize runW (DSt.new 6) (l1.take k) = R at *
      rw [HTN.out] at HMv
      go_loopw [54] (fun j wr2 => ∃ j' : Nat, j' ≤ 3 ∧ j = .int .i64 j' ∧ Hid (Many W wr2 [a, b, c] (three (R.writeD p.at_ p.s.data.toList) R j') (.slice none 0 0) 0 (fun q => q = P)) ∧ Hid (wr2.heap[P]? = some (.cells #[.pointer (some ⟨a, 0, none⟩), .pointer (some ⟨b, 0, none⟩), .pointer (some ⟨c, 0, none⟩)] 23 (0, 0)))) (fun j _ => 3 - (intOf j).toNat)
      case atStart => exact ⟨0, by omega, rfl, HMv, HBl⟩
      case round =>
        clear HMv HBl
        obtain ⟨j, hj, rfl, HMv, HBl⟩ := hrel
        have hloose : R.loose.length ≤ 1000000 := by have := HLo.out; omega
        rcases (show j = 0 ∨ j = 1 ∨ j = 2 ∨ j = 3 by omega) with rfl | rfl | rfl | rfl
        · obtain ⟨F, hd, hF, _, hX, hXl, hnx⟩ := HMv.out.get 0 (a := a) (d := R) rfl rfl
          have HDw := Lib.hid (hd.below (Below.refl _ _).drew)
          have HNx : Hid (∀ x e w2, DiskEnd wr.drew F a (R.writeD p.at_ p.s.data.toList) x e w2 → Many W w2 [a, b, c] (three (R.writeD p.at_ p.s.data.toList) R (0 + 1)) (.slice none 0 0) 0 (fun q => q = P) ∧ w2.heap[P]? = some (.cells #[.pointer (some ⟨a, 0, none⟩), .pointer (some ⟨b, 0, none⟩), .pointer (some ⟨c, 0, none⟩)] 23 (0, 0))) := Lib.hid (fun x e w2 h2 => by
            have h3 : DiskEnd wr F a (R.writeD p.at_ p.s.data.toList) x e w2 := ⟨h2.1, ⟨h2.2.1.os, h2.2.1.tape, h2.2.1.output, h2.2.1.size, h2.2.1.block⟩, h2.2.2⟩
            exact ⟨hnx _ _ _ _ h3, (h3.2.1.block P (hXl P rfl) (fun hf => hX P hf rfl)).trans HBl.out⟩)
          obtain ⟨_, c1, _, c3, _⟩ := HC.out wr HMv.out.bel
          have cP : wr.cell? ⟨P, 0, none⟩ = some (.pointer (some ⟨a, 0, none⟩)) := by rw [Lib.cell_of_heap HBl.out]; rfl
          clear hd hF hX hXl hnx HMv HBl
          go_wp2_with fail
          go_still_tail 11, (by kernel_rfl)
          change wpList _ _ _ _ _ wr.drew
          clear c1 c3 cP
          generalize wr.drew = w4 at *
          go_wp2_with fail
          refine (Write_any HDw.out p.at_ p.s hsz hloose).mono ?_
          rintro e w5 h5
          have HN5 := Lib.hid (HNx.out _ _ _ h5)
          obtain ⟨rfl, _⟩ := h5
          go_wp2_with fail
          go_roundw
          case rel => exact ⟨0 + 1, by omega, by go_num, Lib.hid HN5.out.1, Lib.hid HN5.out.2⟩
          case measure => simp [intOf]
        · obtain ⟨F, hd, hF, _, hX, hXl, hnx⟩ := HMv.out.get 1 (a := b) (d := R) rfl rfl
          have HDw := Lib.hid (hd.below (Below.refl _ _).drew)
          have HNx : Hid (∀ x e w2, DiskEnd wr.drew F b (R.writeD p.at_ p.s.data.toList) x e w2 → Many W w2 [a, b, c] (three (R.writeD p.at_ p.s.data.toList) R (1 + 1)) (.slice none 0 0) 0 (fun q => q = P) ∧ w2.heap[P]? = some (.cells #[.pointer (some ⟨a, 0, none⟩), .pointer (some ⟨b, 0, none⟩), .pointer (some ⟨c, 0, none⟩)] 23 (0, 0))) := Lib.hid (fun x e w2 h2 => by
            have h3 : DiskEnd wr F b (R.writeD p.at_ p.s.data.toList) x e w2 := ⟨h2.1, ⟨h2.2.1.os, h2.2.1.tape, h2.2.1.output, h2.2.1.size, h2.2.1.block⟩, h2.2.2⟩
            exact ⟨hnx _ _ _ _ h3, (h3.2.1.block P (hXl P rfl) (fun hf => hX P hf rfl)).trans HBl.out⟩)
          obtain ⟨_, c1, _, c3, _⟩ := HC.out wr HMv.out.bel
          have cP : wr.cell? ⟨P, 1, none⟩ = some (.pointer (some ⟨b, 0, none⟩)) := by rw [Lib.cell_of_heap HBl.out]; rfl
          clear hd hF hX hXl hnx HMv HBl
          go_wp2_with fail
          go_still_tail 11, (by kernel_rfl)
          change wpList _ _ _ _ _ wr.drew
          clear c1 c3 cP
          generalize wr.drew = w4 at *
          go_wp2_with fail
          refine (Write_any HDw.out p.at_ p.s hsz hloose).mono ?_
          rintro e w5 h5
          have HN5 := Lib.hid (HNx.out _ _ _ h5)
          obtain ⟨rfl, _⟩ := h5
          go_wp2_with fail
          go_roundw
          case rel => exact ⟨1 + 1, by omega, by go_num, Lib.hid HN5.out.1, Lib.hid HN5.out.2⟩
          case measure => simp [intOf]
        · obtain ⟨F, hd, hF, _, hX, hXl, hnx⟩ := HMv.out.get 2 (a := c) (d := R) rfl rfl
          have HDw := Lib.hid (hd.below (Below.refl _ _).drew)
          have HNx : Hid (∀ x e w2, DiskEnd wr.drew F c (R.writeD p.at_ p.s.data.toList) x e w2 → Many W w2 [a, b, c] (three (R.writeD p.at_ p.s.data.toList) R (2 + 1)) (.slice none 0 0) 0 (fun q => q = P) ∧ w2.heap[P]? = some (.cells #[.pointer (some ⟨a, 0, none⟩), .pointer (some ⟨b, 0, none⟩), .pointer (some ⟨c, 0, none⟩)] 23 (0, 0))) := Lib.hid (fun x e w2 h2 => by
            have h3 : DiskEnd wr F c (R.writeD p.at_ p.s.data.toList) x e w2 := ⟨h2.1, ⟨h2.2.1.os, h2.2.1.tape, h2.2.1.output, h2.2.1.size, h2.2.1.block⟩, h2.2.2⟩
            exact ⟨hnx _ _ _ _ h3, (h3.2.1.block P (hXl P rfl) (fun hf => hX P hf rfl)).trans HBl.out⟩)
          obtain ⟨_, c1, _, c3, _⟩ := HC.out wr HMv.out.bel
          have cP : wr.cell? ⟨P, 2, none⟩ = some (.pointer (some ⟨c, 0, none⟩)) := by rw [Lib.cell_of_heap HBl.out]; rfl
          clear hd hF hX hXl hnx HMv HBl
          go_wp2_with fail
          go_still_tail 11, (by kernel_rfl)
          change wpList _ _ _ _ _ wr.drew
          clear c1 c3 cP
          generalize wr.drew = w4 at *
          go_wp2_with fail
          refine (Write_any HDw.out p.at_ p.s hsz hloose).mono ?_
          rintro e w5 h5
          have HN5 := Lib.hid (HNx.out _ _ _ h5)
          obtain ⟨rfl, _⟩ := h5
          go_wp2_with fail
          go_roundw
          case rel => exact ⟨2 + 1, by omega, by go_num, Lib.hid HN5.out.1, Lib.hid HN5.out.2⟩
          case measure => simp [intOf]
        · have HM9 : Hid (Many W wr [a, b, c] [runW (DSt.new 6) (l1.take (k + 1)), runW (DSt.new 6) (l1.take (k + 1)), runW (DSt.new 6) (l1.take (k + 1))] (.slice none 0 0) 0 (fun _ => False)) := by
            rw [HTN.out]
            exact Lib.hid HMv.out.free
          go_wp2_with fail
          go_roundw
          case rel => exact ⟨k + 1, by omega, by omega, by go_num, HM9⟩
          case measure => simp [intOf]; omega
    · go_upto_region 6 with fail
      go_cut [46] from 39 to 70 (fun v wc => v = .bool false ∧ wc = wr)
      case first =>
        by_cases hkl : k < len1
        · have hk40 : decide ((k : Int) < 30) = false := by rw [decide_eq_false_iff_not]; omega
          clear hgo
          go_wp2
          go_meet
          case rel => exact ⟨rfl, rfl⟩
        · have hkl2 : decide (k < len1) = false := by simpa using hkl
          clear hgo
          go_wp2
          go_meet
          case rel => exact ⟨rfl, rfl⟩
      case rest =>
        obtain ⟨rfl, rfl⟩ := hcut
        have HK1 : Hid (k ≤ 30 ∧ k ≤ len1 ∧ ¬ (k < len1 ∧ k < 30)) := Lib.hid ⟨hk, hk1, hgo⟩
        have HCR := Lib.hid (calm_runW (n := 6) (l1.take k) calm_new)
        have HLo : Hid ((runW (DSt.new 6) (l1.take k)).loose.length ≤ k) := Lib.hid (loose_le (n := 6) calm_new rfl l1 hk)
        have hloose : (runW (DSt.new 6) (l1.take k)).loose.length ≤ 1000001 := by have := HLo.out; omega
        obtain ⟨fe, fd, fc⟩ := calm_flush HCR.out.1
        have HE := Lib.hid fe
        have HCF := Lib.hid fc
        have HFL : Hid ((runW (DSt.new 6) (l1.take k)).flushD.loose = [] ∧ (runW (DSt.new 6) (l1.take k)).flushD.firm = (runW (DSt.new 6) (l1.take k)).seen) := Lib.hid (by rw [fd]; exact ⟨rfl, rfl⟩)
        clear fe fd fc hgo hk hk1 HLo
        generalize hR : runW (DSt.new 6) (l1.take k) = R at *
        have HR := Lib.hid hR
        clear hR
        generalize k = k1 at *
        obtain ⟨F0, hd0, _, _, _, _, hnx0⟩ := HM.out.get 0 (a := a) (d := R) rfl rfl
        have HD0 := Lib.hid hd0
        have HX0 := Lib.hid hnx0
        clear hd0 hnx0
        go_wp2_with fail
        refine (Flush_any HD0.out hloose).mono ?_
        rw [HE.out]
        rintro e wA h5
        have HMA := Lib.hid (HX0.out _ _ _ _ h5)
        obtain ⟨rfl, _⟩ := h5
        clear HD0 HX0 HM
        obtain ⟨F1, hd1, _, _, _, _, hnx1⟩ := HMA.out.get 1 (a := b) (d := R) rfl rfl
        have HD1 := Lib.hid hd1
        have HX1 := Lib.hid hnx1
        clear hd1 hnx1
        go_wp2_with fail
        refine (Flush_any HD1.out hloose).mono ?_
        rw [HE.out]
        rintro e wB h5
        have HMB := Lib.hid (HX1.out _ _ _ _ h5)
        obtain ⟨rfl, _⟩ := h5
        clear HD1 HX1 HMA
        obtain ⟨F2, hd2, _, _, _, _, hnx2⟩ := HMB.out.get 2 (a := c) (d := R) rfl rfl
        have HD2 := Lib.hid hd2
        have HX2 := Lib.hid hnx2
        clear hd2 hnx2
        go_wp2_with fail
        refine (Flush_any HD2.out hloose).mono ?_
        rw [HE.out]
        rintro e wC h5
        have HMC := Lib.hid (HX2.out _ _ _ _ h5)
        obtain ⟨rfl, _⟩ := h5
        clear HD2 HX2 HMB
        have HM3 : Hid (Many W wC [a, b, c] [runW R.flushD (l2.take 0), runW R.flushD (l2.take 0), R.flushD] (.slice none 0 0) 0 (fun _ => False)) := HMC
        clear HMC hloose HE
        generalize R.flushD = d1 at *
        go_wp2_with fail
        go_loopw [8, 12] (fun v i wr => ∃ k : Nat, k ≤ 30 ∧ k ≤ len2 ∧ i = .int .i64 k ∧ Hid (Many W wr [a, b, c] [runW d1 (l2.take k), runW d1 (l2.take k), d1] v k (fun _ => False))) (fun _ i _ => 30 - (intOf i).toNat)
        case atStart => exact ⟨0, by omega, by omega, rfl, HM3⟩
        case round =>
          clear HM3
          obtain ⟨k, hk, hk1, rfl, HM⟩ := hrel
          by_cases hgo : k < len2 ∧ k < 30
          · obtain ⟨hg1, hg2⟩ := hgo
            have hkl : k < l2.length := by rw [HLen2.out]; exact hg1
            have HTN := Lib.hid (take_next hkl (d1))
            have HLo : Hid ((runW (d1) (l2.take k)).loose.length ≤ k) := Lib.hid (loose_le HCF.out HFL.out.1 l2 hk)
            obtain ⟨bb, off, rfl, hbW, hcc, hok⟩ := HL2.out.at_ HM.out.bel hkl
            have HC : Hid (∀ w, Below W.heap.size W w → ActCells w bb (off + k * 5) l2[k]) := Lib.hid (fun w hw => by
              obtain ⟨bb', off', he, _, hc, _⟩ := HL2.out.at_ hw hkl
              simp only [Option.some.injEq, Addr.mk.injEq, and_true] at he
              obtain ⟨rfl, rfl⟩ := he
              exact hc)
            obtain ⟨p, hp⟩ : ∃ p, l2[k] = p := ⟨_, rfl⟩
            rw [hp] at HC HTN hok
            have hsz : p.s.size ≤ 9223372036854775807 := hok.s1
            clear hp hcc hkl hok
            obtain ⟨F, hd, _, _, _, _, hnx⟩ := HM.out.get 0 (a := a) (d := runW d1 (l2.take k)) rfl rfl
            have HDw := Lib.hid (hd.below (Below.refl _ _).drew)
            have hloose : (runW d1 (l2.take k)).loose.length ≤ 1000000 := by have := HLo.out; omega
            have HNx : Hid (∀ x e w2, DiskEnd wr.drew F a ((runW d1 (l2.take k)).writeD p.at_ p.s.data.toList) x e w2 → Many W w2 [a, b, c] [runW d1 (l2.take (k + 1)), runW d1 (l2.take k), d1] u8 k (fun _ => False)) := Lib.hid (fun x e w2 h2 => by
              rw [HTN.out]
              exact hnx _ _ _ _ ⟨h2.1, ⟨h2.2.1.os, h2.2.1.tape, h2.2.1.output, h2.2.1.size, h2.2.1.block⟩, h2.2.2⟩)
            obtain ⟨_, c1, _, c3, _⟩ := HC.out wr HM.out.bel
            clear hd hnx HM
            have hk30 : decide ((k : Int) < 30) = true := by rw [decide_eq_true_iff]; omega
            go_wp2_with fail
            go_still_tail 11, (by kernel_rfl)
            change wpList _ _ _ _ _ wr.drew
            clear c1 c3
            generalize wr.drew = w4 at *
            go_wp2_with fail
            refine (Write_any HDw.out p.at_ p.s hsz hloose).mono ?_
            rintro e w5 h5
            have HM5 := Lib.hid (HNx.out _ _ _ h5)
            obtain ⟨rfl, _⟩ := h5
            clear HNx HDw
            obtain ⟨Fb, hdb, _, _, _, _, hnxb⟩ := HM5.out.get 1 (a := b) (d := runW d1 (l2.take k)) rfl rfl
            have HDb := Lib.hid (hdb.below (Below.refl _ _).drew)
            have HNb : Hid (∀ x e w2, DiskEnd w5.drew Fb b ((runW d1 (l2.take k)).writeD p.at_ p.s.data.toList) x e w2 → Many W w2 [a, b, c] [runW d1 (l2.take (k + 1)), runW d1 (l2.take (k + 1)), d1] u8 k (fun _ => False)) := Lib.hid (fun x e w2 h2 => by
              have h3 := hnxb _ _ _ _ ⟨h2.1, ⟨h2.2.1.os, h2.2.1.tape, h2.2.1.output, h2.2.1.size, h2.2.1.block⟩, h2.2.2⟩
              rw [HTN.out] at h3 ⊢
              exact h3)
            obtain ⟨_, c1, _, c3, _⟩ := HC.out w5 HM5.out.bel
            clear hdb hnxb
            go_wp2_with fail
            go_region_held3 (fun w' => w'.cell? ⟨bb, off + k * 5 + 1, none⟩ = some (.int .i64 p.at_) ∧ w'.cell? ⟨bb, off + k * 5 + 3, none⟩ = some (.string p.s)) (first | exact ⟨c1, c3⟩ | exact ⟨(HC.out _ HM6.out.bel).2.1, (HC.out _ HM6.out.bel).2.2.2.1⟩)
              (first
                | (((with_reducible refine (Write_any HDb.out p.at_ p.s hsz hloose).mono ?_); rintro e w6 h6
                    have HM6 := Lib.hid (HNb.out _ _ _ h6)
                    obtain ⟨rfl, _⟩ := h6)))
            clear c1 c3 HNb HDb HM5
            obtain ⟨_, _, _, _, _, _, ho6, _⟩ := HM6.out
            have HB6 := Lib.hid HM6.out.bel.size
            obtain ⟨hi0, hz0, hz1, hz2⟩ := HI0.out
            have hone1 : ∀ u ∈ ([.bool true] : List Value), u.oneCell' = true := by intro u hu; simp at hu; subst hu; rfl
            have hk63 : k + 1 ≤ maxLen := by unfold maxLen; omega
            have hbs6 : W.heap.size ≤ (w6.alloc (.cells #[.bool true] 4)).heap.size := by have := HB6.out; simp; omega
            go_wp2_with (at_builtin; refine wpList_append_lies _ rfl (.tmp 120) (.tmp 121) 37 rfl W.heap.size 4 i0 (.bool false) 1 1 Try.underlying37 hi0 hz0 hz1 hz2 rfl (by decide) u8 k (List.replicate k (.bool true)) rfl (ho6.alloc _) ⟨w6.heap.size, 0, none⟩ 1 1 [.bool true] rfl rfl (cell_one_new _ _ _) hone1 (by omega) hk63 (by omega) hbs6 _ rfl ?_)
            intro g7 cap7 w7 hown7 hg7 hat7 hlt7
            have HM7 := Lib.hid (HM6.out.keep _ hg7 (hat7.imp id (fun e => by simpa using e)) hown7)
            clear hown7 hg7 hat7 hlt7 ho6 hone1 hk63 hbs6
            go_wp2_with fail
            go_roundw
            case rel => exact ⟨k + 1, by omega, by omega, by go_num, HM7⟩
            case measure => simp [intOf]; omega
          · go_upto_region 16 with fail
            go_cut [91] from 84 to 122 (fun v wc => v = .bool false ∧ wc = wr)
            case first =>
              by_cases hkl : k < len2
              · have hk40 : decide ((k : Int) < 30) = false := by rw [decide_eq_false_iff_not]; omega
                clear hgo
                go_wp2
                go_meet
                case rel => exact ⟨rfl, rfl⟩
              · have hkl2 : decide (k < len2) = false := by simpa using hkl
                clear hgo
                go_wp2
                go_meet
                case rel => exact ⟨rfl, rfl⟩
            case rest =>
              obtain ⟨rfl, rfl⟩ := hcut
              have HCS := Lib.hid (calm_runW (n := 6) (l2.take k) HCF.out)
              have HLo : Hid ((runW d1 (l2.take k)).loose.length ≤ k) := Lib.hid (loose_le HCF.out HFL.out.1 l2 hk)
              have hloose : (runW d1 (l2.take k)).loose.length ≤ 1000001 := by have := HLo.out; omega
              obtain ⟨fe, fd, fc⟩ := calm_flush HCS.out.1
              have HE := Lib.hid fe
              obtain ⟨F, hd, _, hv, _, _, hnx⟩ := HM.out.get 0 (a := a) (d := runW d1 (l2.take k)) rfl rfl
              obtain ⟨_, _, _, _, _, _, ho, _⟩ := HM.out
              obtain ⟨B, c8, rfl, _, _⟩ := own_form ho
              obtain ⟨_, hkp⟩ := HM.out.keepIs hv
              have HSA : Hid (((runW d1 (l2.take k)).crashD (List.replicate k true)).seen = (runW d1 (l2.take k)).seen ∧ Calm 6 ((runW d1 (l2.take k)).crashD (List.replicate k true))) := Lib.hid ⟨crash_all HCS.out.1 HLo.out, calm_crash HCS.out.1 hd.1 _⟩
              have HSB : Hid ((runW d1 (l2.take k)).flushD.seen = (runW d1 (l2.take k)).seen ∧ Calm 6 (runW d1 (l2.take k)).flushD) := Lib.hid ⟨by rw [fd], fc⟩
              have HDa := Lib.hid hd
              have HNa := Lib.hid hnx
              have HKp := Lib.hid hkp
              clear hd hnx hv ho hkp fe fd fc hgo hk1 HM
              go_wp2_with fail
              refine (Crash_any HDa.out hloose HKp.out (by simp) (by omega)).mono ?_
              rintro e wD h5
              have HMD := Lib.hid (HNa.out _ _ _ _ h5)
              obtain ⟨rfl, _⟩ := h5
              clear HDa HNa HKp
              obtain ⟨Fb, hdb, _, _, _, _, hnxb⟩ := HMD.out.get 1 (a := b) (d := runW d1 (l2.take k)) rfl rfl
              have HDb := Lib.hid hdb
              have HNb := Lib.hid hnxb
              clear hdb hnxb
              go_wp2_with fail
              refine (Flush_any HDb.out hloose).mono ?_
              rw [HE.out]
              rintro e wE h5
              have HME0 := Lib.hid (HNb.out _ _ _ _ h5)
              obtain ⟨rfl, _⟩ := h5
              clear HDb HNb HMD HE HCS HLo hloose hk
              generalize hS : runW d1 (l2.take k) = S at *
              clear hS
              generalize S.crashD (List.replicate k true) = sa at *
              generalize S.flushD = sb at *
              have HSS : Hid (sa.seen = sb.seen) := Lib.hid (by rw [HSA.out.1, HSB.out.1])
              have HME : Hid (Many W wE [a, b, c] [sa, sb, runW d1 (l2.take 0)] (.slice B k c8) k (fun _ => False)) := HME0
              clear HME0
              generalize (Value.slice B k c8) = v8 at *
              generalize k = kk at *
              go_wp2_with fail
              go_loopw [14] (fun i wr => ∃ k : Nat, k ≤ 30 ∧ k ≤ len2 ∧ i = .int .i64 k ∧ Hid (Many W wr [a, b, c] [sa, sb, runW d1 (l2.take k)] v8 kk (fun _ => False))) (fun i _ => 30 - (intOf i).toNat)
              case atStart => exact ⟨0, by omega, by omega, rfl, HME⟩
              case round =>
                clear HME
                obtain ⟨k, hk, hk1, rfl, HM⟩ := hrel
                by_cases hgo : k < len2 ∧ k < 30
                · obtain ⟨hg1, hg2⟩ := hgo
                  have hkl : k < l2.length := by rw [HLen2.out]; exact hg1
                  have HTN := Lib.hid (take_next hkl (d1))
                  have HLo : Hid ((runW (d1) (l2.take k)).loose.length ≤ k) := Lib.hid (loose_le HCF.out HFL.out.1 l2 hk)
                  obtain ⟨bb, off, rfl, hbW, hcc, hok⟩ := HL2.out.at_ HM.out.bel hkl
                  have HC : Hid (∀ w, Below W.heap.size W w → ActCells w bb (off + k * 5) l2[k]) := Lib.hid (fun w hw => by
                    obtain ⟨bb', off', he, _, hc, _⟩ := HL2.out.at_ hw hkl
                    simp only [Option.some.injEq, Addr.mk.injEq, and_true] at he
                    obtain ⟨rfl, rfl⟩ := he
                    exact hc)
                  obtain ⟨p, hp⟩ : ∃ p, l2[k] = p := ⟨_, rfl⟩
                  rw [hp] at HC HTN hok
                  have hsz : p.s.size ≤ 9223372036854775807 := hok.s1
                  clear hp hcc hkl hok
                  obtain ⟨F, hd, _, _, _, _, hnx⟩ := HM.out.get 2 (a := c) (d := runW (d1) (l2.take k)) rfl rfl
                  have HDw := Lib.hid (hd.below (Below.refl _ _).drew)
                  have hloose : (runW (d1) (l2.take k)).loose.length ≤ 1000000 := by have := HLo.out; omega
                  have HNx : Hid (∀ x e w2, DiskEnd wr.drew F c ((runW (d1) (l2.take k)).writeD p.at_ p.s.data.toList) x e w2 → Many W w2 [a, b, c] [sa, sb, runW d1 (l2.take (k + 1))] v8 kk (fun _ => False)) := Lib.hid (fun x e w2 h2 => by
                    rw [HTN.out]
                    exact hnx _ _ _ _ ⟨h2.1, ⟨h2.2.1.os, h2.2.1.tape, h2.2.1.output, h2.2.1.size, h2.2.1.block⟩, h2.2.2⟩)
                  obtain ⟨_, c1, _, c3, _⟩ := HC.out wr HM.out.bel
                  clear hd hnx HM
                  go_wp2_with fail
                  go_still_tail 11, (by kernel_rfl)
                  change wpList _ _ _ _ _ wr.drew
                  clear c1 c3
                  generalize wr.drew = w4 at *
                  go_wp2_with fail
                  refine (Write_any HDw.out p.at_ p.s hsz hloose).mono ?_
                  rintro e w5 h5
                  have HN5 := Lib.hid (HNx.out _ _ _ h5)
                  obtain ⟨rfl, _⟩ := h5
                  go_wp2_with fail
                  go_roundw
                  case rel => exact ⟨k + 1, by omega, by omega, by go_num, HN5⟩
                  case measure => simp [intOf]; omega
                · go_upto_region 26 with fail
                  go_cut [136] from 129 to 150 (fun v wc => v = .bool false ∧ wc = wr)
                  case first =>
                    by_cases hkl : k < len2
                    · have hk40 : decide ((k : Int) < 30) = false := by rw [decide_eq_false_iff_not]; omega
                      clear hgo
                      go_wp2
                      go_meet
                      case rel => exact ⟨rfl, rfl⟩
                    · have hkl2 : decide (k < len2) = false := by simpa using hkl
                      clear hgo
                      go_wp2
                      go_meet
                      case rel => exact ⟨rfl, rfl⟩
                  case rest =>
                    obtain ⟨rfl, rfl⟩ := hcut
                    have HCT := Lib.hid (calm_runW (n := 6) (l2.take k) HCF.out)
                    have HLo : Hid ((runW d1 (l2.take k)).loose.length ≤ k) := Lib.hid (loose_le HCF.out HFL.out.1 l2 hk)
                    have hloose : (runW d1 (l2.take k)).loose.length ≤ 1000001 := by have := HLo.out; omega
                    obtain ⟨F, hd, _, _, _, _, hnx⟩ := HM.out.get 2 (a := c) (d := runW d1 (l2.take k)) rfl rfl
                    have HSC : Hid (((runW d1 (l2.take k)).crashD []).seen = R.seen ∧ Calm 6 ((runW d1 (l2.take k)).crashD [])) := Lib.hid ⟨by rw [crash_none, HCT.out.2.1, HFL.out.2], calm_crash HCT.out.1 hd.1 _⟩
                    have HDc := Lib.hid hd
                    have HNc := Lib.hid hnx
                    clear hd hnx hgo hk1 HM
                    go_wp2_with fail
                    refine (Crash_any HDc.out hloose (bs := []) (.inl rfl) rfl (by simp)).mono ?_
                    rintro e wF h5
                    have HMF := Lib.hid (HNc.out _ _ _ _ h5)
                    obtain ⟨rfl, _⟩ := h5
                    clear HDc HNc HCT HLo hloose hk
                    generalize (runW d1 (l2.take k)).crashD [] = sc at *
                    go_wp2_with fail
                    refine (New_ok 6 _ (by omega) (by omega)).mono ?_
                    rintro e wG h5
                    obtain ⟨dd, rfl, hmG⟩ := HMF.out.new h5
                    have HMG : Hid (Many W wG [a, b, c, dd] [sa, sb, sc, runW (DSt.new 6) (l1.take 0)] v8 kk (fun _ => False)) := Lib.hid hmG
                    clear hmG h5 HMF
                    go_wp2_with fail
                    go_loopw [16] (fun i wr => ∃ k : Nat, k ≤ 30 ∧ k ≤ len1 ∧ i = .int .i64 k ∧ Hid (Many W wr [a, b, c, dd] [sa, sb, sc, runW (DSt.new 6) (l1.take k)] v8 kk (fun _ => False))) (fun i _ => 30 - (intOf i).toNat)
                    case atStart => exact ⟨0, by omega, by omega, rfl, HMG⟩
                    case round =>
                      clear HMG
                      obtain ⟨k, hk, hk1, rfl, HM⟩ := hrel
                      by_cases hgo : k < len1 ∧ k < 30
                      · obtain ⟨hg1, hg2⟩ := hgo
                        have hkl : k < l1.length := by rw [HLen1.out]; exact hg1
                        have HTN := Lib.hid (take_next hkl (DSt.new 6))
                        have HLo : Hid ((runW (DSt.new 6) (l1.take k)).loose.length ≤ k) := Lib.hid (loose_le calm_new rfl l1 hk)
                        obtain ⟨bb, off, rfl, hbW, hcc, hok⟩ := HL1.out.at_ HM.out.bel hkl
                        have HC : Hid (∀ w, Below W.heap.size W w → ActCells w bb (off + k * 5) l1[k]) := Lib.hid (fun w hw => by
                          obtain ⟨bb', off', he, _, hc, _⟩ := HL1.out.at_ hw hkl
                          simp only [Option.some.injEq, Addr.mk.injEq, and_true] at he
                          obtain ⟨rfl, rfl⟩ := he
                          exact hc)
                        obtain ⟨p, hp⟩ : ∃ p, l1[k] = p := ⟨_, rfl⟩
                        rw [hp] at HC HTN hok
                        have hsz : p.s.size ≤ 9223372036854775807 := hok.s1
                        clear hp hcc hkl hok
                        obtain ⟨F, hd, _, _, _, _, hnx⟩ := HM.out.get 3 (a := dd) (d := runW (DSt.new 6) (l1.take k)) rfl rfl
                        have HDw := Lib.hid (hd.below (Below.refl _ _).drew)
                        have hloose : (runW (DSt.new 6) (l1.take k)).loose.length ≤ 1000000 := by have := HLo.out; omega
                        have HNx : Hid (∀ x e w2, DiskEnd wr.drew F dd ((runW (DSt.new 6) (l1.take k)).writeD p.at_ p.s.data.toList) x e w2 → Many W w2 [a, b, c, dd] [sa, sb, sc, runW (DSt.new 6) (l1.take (k + 1))] v8 kk (fun _ => False)) := Lib.hid (fun x e w2 h2 => by
                          rw [HTN.out]
                          exact hnx _ _ _ _ ⟨h2.1, ⟨h2.2.1.os, h2.2.1.tape, h2.2.1.output, h2.2.1.size, h2.2.1.block⟩, h2.2.2⟩)
                        obtain ⟨_, c1, _, c3, _⟩ := HC.out wr HM.out.bel
                        clear hd hnx HM
                        go_wp2_with fail
                        go_still_tail 11, (by kernel_rfl)
                        change wpList _ _ _ _ _ wr.drew
                        clear c1 c3
                        generalize wr.drew = w4 at *
                        go_wp2_with fail
                        refine (Write_any HDw.out p.at_ p.s hsz hloose).mono ?_
                        rintro e w5 h5
                        have HN5 := Lib.hid (HNx.out _ _ _ h5)
                        obtain ⟨rfl, _⟩ := h5
                        go_wp2_with fail
                        go_roundw
                        case rel => exact ⟨k + 1, by omega, by omega, by go_num, HN5⟩
                        case measure => simp [intOf]; omega
                      · go_upto_region 32 with fail
                        go_cut [161] from 154 to 175 (fun v wc => v = .bool false ∧ wc = wr)
                        case first =>
                          by_cases hkl : k < len1
                          · have hk40 : decide ((k : Int) < 30) = false := by rw [decide_eq_false_iff_not]; omega
                            clear hgo
                            go_wp2
                            go_meet
                            case rel => exact ⟨rfl, rfl⟩
                          · have hkl2 : decide (k < len1) = false := by simpa using hkl
                            clear hgo
                            go_wp2
                            go_meet
                            case rel => exact ⟨rfl, rfl⟩
                        case rest =>
                          obtain ⟨rfl, rfl⟩ := hcut
                          have HSD : Hid ((runW (DSt.new 6) (l1.take k)).seen = R.seen ∧ Calm 6 (runW (DSt.new 6) (l1.take k))) := by
                            obtain ⟨q1, q2, q3⟩ := HK1.out
                            have e : k = k1 := by omega
                            rw [← HR.out, ← e]
                            exact Lib.hid ⟨rfl, (calm_runW (n := 6) (l1.take k) calm_new).1⟩
                          clear hgo hk hk1
                          generalize runW (DSt.new 6) (l1.take k) = sd at *
                          obtain ⟨Fa, hda, _, _, _, _, _⟩ := HM.out.get 0 (a := a) (d := sa) rfl rfl
                          obtain ⟨Fb, hdb, _, _, _, _, _⟩ := HM.out.get 1 (a := b) (d := sb) rfl rfl
                          obtain ⟨Fc, hdc, _, _, _, _, _⟩ := HM.out.get 2 (a := c) (d := sc) rfl rfl
                          obtain ⟨Fd, hdd, _, _, _, _, _⟩ := HM.out.get 3 (a := dd) (d := sd) rfl rfl
                          have HDa := Lib.hid hda
                          have HDb := Lib.hid hdb
                          have HDc := Lib.hid hdc
                          have HDd := Lib.hid hdd
                          have HB := Lib.hid HM.out.bel
                          clear hda hdb hdc hdd HM
                          go_wp2_with fail
                          go_loopw [176] (fun i wr => ∃ k : Nat, k ≤ 6 ∧ i = .int .i64 k ∧ wr = wc) (fun i _ => 6 - (intOf i).toNat)
                          case atStart => exact ⟨0, by omega, rfl, rfl⟩
                          case round =>
                            obtain ⟨i, hi, rfl, hwc⟩ := hrel
                            obtain rfl : wc = wr := hwc.symm
                            by_cases hlt : i < 6
                            · obtain ⟨a1, a2⟩ := calm_read HSA.out.2 hlt
                              obtain ⟨b1, b2⟩ := calm_read HSB.out.2 hlt
                              obtain ⟨x1, x2⟩ := calm_read HSC.out.2 hlt
                              obtain ⟨d1', d2'⟩ := calm_read HSD.out.2 hlt
                              rw [HSS.out] at a2
                              rw [HSC.out.1] at x2
                              rw [HSD.out.1] at d2'
                              have R1 := Lib.hid (And.intro a1 a2)
                              have R2 := Lib.hid (And.intro b1 b2)
                              have R3 := Lib.hid (And.intro x1 x2)
                              have R4 := Lib.hid (And.intro d1' d2')
                              clear a1 a2 b1 b2 x1 x2 d1' d2'
                              go_wp2_with fail
                              refine (Read_any HDa.out (i : Int)).mono ?_
                              rw [R1.out.1, R1.out.2]
                              rintro e w' ⟨rfl, rfl⟩
                              go_wp2_with fail
                              refine (Read_any HDb.out (i : Int)).mono ?_
                              rw [R2.out.1, R2.out.2]
                              rintro e w' ⟨rfl, rfl⟩
                              go_wp2_with fail
                              refine (Read_any HDc.out (i : Int)).mono ?_
                              rw [R3.out.1, R3.out.2]
                              rintro e w' ⟨rfl, rfl⟩
                              go_wp2_with fail
                              refine (Read_any HDd.out (i : Int)).mono ?_
                              rw [R4.out.1, R4.out.2]
                              rintro e w' ⟨rfl, rfl⟩
                              go_wp2_with fail
                              go_roundw
                              case rel => exact ⟨i + 1, by omega, by go_num, trivial⟩
                              case measure => simp [intOf]; omega
                            · go_wp2_with fail
                              refine (DiskAwake_any _).mono ?_
                              rintro e w9 ⟨rfl, hb9⟩
                              have HB9 : Hid (Below W.heap.size W w9) := Lib.hid (HB.out.trans (hb9.mono HB.out.size))
                              clear hb9
                              go_wp2_with fail
                              go_ret
                              exact ⟨rfl, HB9.out⟩
end Go.Proofs.Ytnliaiedgaiohaa
