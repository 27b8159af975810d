/- The walk of DiskSome. -/
import Derived.Test.YtnliaiedgaiohaaDiskSomeP
import Derived.Deep.CutRange
import Derived.Deep.QuietTactic
import Derived.BigQuiet
namespace Go.Proofs.Ytnliaiedgaiohaa
open Go.RowKit

theorem Try.infoString : (Try.prog.info? 9).map (fun i => (i.zero, i.size, i.bytes)) = some (some (.string ByteArray.empty), 1, 16) := by kernel_rfl
theorem Try.infoStrings : (Try.prog.info? 32).map (·.size) = some 1 := by kernel_rfl

theorem MayAt.congr {w : World} {G : Nat → Prop} {M : Nat} {m m' : Nat → List (List UInt8)} {vs : Nat → Value} (h : MayAt w G M m vs) (he : ∀ j, j < 6 → m j = m' j) : MayAt w G M m' vs :=
  ⟨h.blk, fun i hi => by rw [← he i hi]; exact h.own i hi, h.apart, h.notM, h.gM, h.gv, h.low⟩

/-- Where the law's first loop stands. -/
def SomeAt (W : World) (i : Nat) (a : Nat) (wr : World) : Prop :=
  ∃ F d, IsDisk wr F a d ∧ (∀ k, F k → W.heap.size ≤ k) ∧ Calm 6 d ∧ d.loose.length ≤ i ∧ Below W.heap.size W wr

theorem SomeAt.next {W w1 w2 : World} {i a : Nat} {F : Nat → Prop} {d : DSt} {v : Value} {e : Ending} (hF : ∀ k, F k → W.heap.size ≤ k) (hb : Below W.heap.size W w1) (h : DiskEnd w1 F a d v e w2) (hi : Calm 6 d) (hl : d.loose.length ≤ i) : SomeAt W i a w2 := by
  obtain ⟨_, hm, F', hd, hF'⟩ := h
  exact ⟨F', d, hd, fun k hk => (hF' k hk).elim (hF k) (fun h => Nat.le_trans hb.size h), hi, hl, hb.trans (hm.below hb.size hF)⟩

/-- The disk and the table, apart. -/
def SomeMay (W : World) (a M : Nat) (d : DSt) (m : Nat → List (List UInt8)) (wr : World) : Prop :=
  ∃ F G, IsDisk wr F a d ∧ IsMay wr G M m ∧ (∀ q, F q → ¬ G q) ∧ (∀ q, F q → W.heap.size ≤ q) ∧ (∀ q, G q → W.heap.size ≤ q) ∧ Below W.heap.size W wr

/-- The table grown: behind an append and a store. -/
theorem SomeMay.more {W wr w' : World} {a M : Nat} {d : DSt} {F G : Nat → Prop} {m : Nat → List (List UInt8)} {vs : Nat → Value} (hd : IsDisk wr F a d) (hap : ∀ q, F q → ¬ G q) (hF : ∀ q, F q → W.heap.size ≤ q) (hG : ∀ q, G q → W.heap.size ≤ q) (hB : Below W.heap.size W wr) (o : Obj)
    (h : MayAt wr G M m vs) {i : Nat} (hi : i < 6) (x : List UInt8) {g cap : Nat}
    (hg : (wr.alloc o).drew.grownBy w' (vs i).ownBlock) (hat : (vs i).ownBlock = some g ∨ g = wr.heap.size + 1) (hlt : g < w'.heap.size) {n : Nat} (hn : (m i).length = n) {ys : List Value} (hy : (m i).map strV = ys)
    (hown : w'.ownsRow 0 9 1 (.slice (some ⟨g, 0, none⟩) (n + 1) cap) (n + 1) (ys ++ [strV x])) {m' : Nat → List (List UInt8)} (hm : ∀ j, j < 6 → (if j = i then m i ++ [x] else m j) = m' j) :
    SomeMay W a M d m' (w'.setCell ⟨M, i, none⟩ (.slice (some ⟨g, 0, none⟩) (n + 1) cap)) := by
  subst hn hy
  have hz : (wr.alloc o).drew.heap.size = wr.heap.size + 1 := by rw [drew_size]; simp
  have hm0 : Moves (fun _ => False) wr (wr.alloc o).drew := ((Moves.refl _ wr).alloc o).drew
  have h1 := (h.kept hm0 (fun _ h => h.elim)).more hi x hg (hat.imp id (fun e => by rw [hz]; omega)) hlt hown
  have hmv : Moves G wr (w'.setCell ⟨M, i, none⟩ (.slice (some ⟨g, 0, none⟩) ((m i).length + 1) cap)) :=
    Moves.setCell ((hm0.mono (fun _ h => h.elim)).trans (G := G) (Moves.of_grown hg (fun q hq => h.gv i hi q hq)) (fun _ h => Or.inl h)) h.gM _
  have hgl : g ≠ M := by
    rcases hat with e | e
    · exact fun hh => h.notM i hi (by rw [e, hh])
    · have := h.low M h.gM; omega
  refine ⟨F, fun q => G q ∨ q = g, hd.kept hmv (fun q hg hf => hap q hf hg), ⟨_, h1.congr hm⟩, ?_, hF, ?_, hB.trans (hmv.below hB.size hG)⟩
  · rintro q hf (hq | rfl)
    · exact hap q hf hq
    · rcases hat with e | e
      · exact hap _ hf (h.gv i hi _ e)
      · have := hd.low _ hf; omega
  · rintro q (hq | rfl)
    · exact hG q hq
    · rcases hat with e | e
      · exact hG _ (h.gv i hi _ e)
      · have := hB.size; omega

theorem below_draws (w : World) (n : Nat) : Below w.heap.size w (w.drewN n) := ⟨rfl, rfl, rfl, Nat.le_refl _, fun _ _ => rfl⟩

theorem may_new (w : World) : IsMay (w.alloc (.cells #[.slice none 0 0, .slice none 0 0, .slice none 0 0, .slice none 0 0, .slice none 0 0, .slice none 0 0] 48)) (fun q => q = w.heap.size) w.heap.size (fun _ => []) :=
  ⟨fun _ => .slice none 0 0, ⟨heap_alloc_new _ _, fun _ _ => World.ownsRow_nil _ _ _ _, fun _ _ _ _ _ _ h => by simp [Value.ownBlock] at h, fun _ _ => by simp [Value.ownBlock], rfl, fun _ _ _ h => by simp [Value.ownBlock] at h, fun q hq => by subst hq; simp⟩⟩

set_option maxHeartbeats 8000000 in
set_option maxRecDepth 100000 in
theorem DiskSome_walk (A1 : Option Addr) (len1 cap1 : Nat) (l1 : List ActV) (A2 : Option Addr) (len2 cap2 : Nat) (l2 : List ActV) (A3 : Option Addr) (len3 cap3 : Nat) (bs : List Bool) (W : World)
    (hl1 : IsActs W A1 len1 l1) (hl2 : IsActs W A2 len2 l2) (h3 : len3 ≤ 9223372036854775807) (h4 : bs.length = len3) (h5 : KeepB W A3 bs) :
    Calls Try.prog 5 #[.slice A1 len1 cap1, .slice A2 len2 cap2, .slice A3 len3 cap3] W fun e w' => e = .returned (.bool true) ∧ Below W.heap.size W w' := by
  have hlen1 := hl1.2.1
  have hlen2 := hl2.2.1
  have HL1 := Lib.hid hl1
  have HL2 := Lib.hid hl2
  have HLen1 := Lib.hid hl1.1
  have HLen2 := Lib.hid hl2.1
  have H4 := Lib.hid h4
  have H5 := Lib.hid h5
  clear hl1 hl2 h4 h5
  obtain ⟨i0, hi0, hz0, hz1, hz2⟩ := info_parts Try.infoString
  have HI0 := Lib.hid (And.intro hi0 (And.intro hz0 (And.intro hz1 hz2)))
  clear hi0 hz0 hz1 hz2
  go_enter Try.func5, Try.ntmps5
  go_wp2_with fail
  refine (New_ok 6 _ (by omega) (by omega)).mono ?_
  rintro e w1 ⟨a, F, rfl, hd, hF, hb⟩
  have HA : Hid (SomeAt W 0 a w1) := Lib.hid ⟨F, _, hd, hF, calm_new, Nat.zero_le _, hb⟩
  have HB := Lib.hid hb
  clear hd hF hb
  by_cases h100 : 100 < len3
  · go_wp2_with fail
    refine (DiskAwake_any _).mono ?_
    rintro e w9 ⟨rfl, hb9⟩
    have HB9 : Hid (Below W.heap.size W w9) := Lib.hid (HB.out.trans (hb9.mono HB.out.size))
    clear hb9
    go_wp2_with fail
    go_ret
    exact ⟨rfl, HB9.out⟩
  have h100' : decide (100 < len3) = false := by simpa using h100
  clear HB
  go_wp2_with fail
  go_loopw [8] (fun i wr => ∃ k : Nat, k ≤ 30 ∧ i = .int .i64 k ∧ Hid (SomeAt W k a wr)) (fun i _ => 30 - (intOf i).toNat)
  case atStart => exact ⟨0, by omega, rfl, HA⟩
  case round =>
    clear HA
    obtain ⟨k, hk, rfl, HA⟩ := hrel
    by_cases hgo : k < len1 ∧ k < 30
    · obtain ⟨hg1, hg2⟩ := hgo
      have hkl : k < l1.length := by rw [HLen1.out]; exact hg1
      obtain ⟨F, d, hd, hF, hI, hlo, hbel⟩ := HA.out
      obtain ⟨b, off, rfl, hbW, hc, hok⟩ := HL1.out.at_ hbel hkl
      obtain ⟨p, hp⟩ : ∃ p, l1[k] = p := ⟨_, rfl⟩
      rw [hp] at hc hok
      clear hp hkl HA
      obtain ⟨c0, c1, c2, c3, c4⟩ := hc
      have HD := Lib.hid (show IsDisk wr.drew F a d ∧ Below W.heap.size W wr.drew from ⟨hd.below (Below.refl _ _).drew, hbel.drew⟩)
      have HF := Lib.hid hF
      have HI := Lib.hid hI
      have HLo := Lib.hid hlo
      have hsz : p.s.size ≤ 9223372036854775807 := hok.s1
      have hloose : d.loose.length ≤ 1000000 := by omega
      clear hok hd hF hI hlo hbel c0 c2 c4
      go_wp2_with fail
      go_still_tail 11, (by kernel_rfl)
      change wpList _ _ _ _ _ wr.drew
      clear c1 c3
      generalize wr.drew = w4 at *
      go_wp2_with fail
      refine (Write_any HD.out.1 p.at_ p.s hsz hloose).mono ?_
      rintro e w5 h5
      have HA5 : Hid (SomeAt W (k + 1) a w5) := by
        have hl5 := writeD_loose d p.at_ p.s.data.toList
        have := HLo.out
        rcases calm_write HI.out p.at_ p.s.data.toList with ⟨_, _, _, _, _, hc⟩ | ⟨_, he⟩
        · exact Lib.hid (SomeAt.next HF.out HD.out.2 h5 hc (by omega))
        · exact Lib.hid (SomeAt.next HF.out HD.out.2 h5 (by rw [he]; exact HI.out) (by omega))
      obtain ⟨rfl, _⟩ := h5
      go_wp2_with fail
      go_roundw
      case rel => exact ⟨k + 1, by omega, by go_num, HA5⟩
      case measure => simp [intOf]; omega
    · go_upto_region 7 with fail
      go_cut [37] from 30 to 51 (fun v wc => v = .bool false ∧ wc = wr)
      case first =>
        by_cases hkl : k < len1
        · have hk40 : decide ((k : Int) < 30) = false := by rw [decide_eq_false_iff_not]; omega
          clear hgo
          go_wp2
          go_meet
          case rel => exact ⟨rfl, rfl⟩
        · have hkl2 : decide (k < len1) = false := by simpa using hkl
          clear hgo
          go_wp2
          go_meet
          case rel => exact ⟨rfl, rfl⟩
      case rest =>
        obtain ⟨rfl, rfl⟩ := hcut
        obtain ⟨F, d, hd, hF, hI, hlo, hbel⟩ := HA.out
        have HD := Lib.hid hd
        have HF := Lib.hid hF
        have HB := Lib.hid hbel
        have hloose : d.loose.length ≤ 1000001 := by omega
        obtain ⟨fe, fd, fc⟩ := calm_flush hI
        have HI := Lib.hid fc
        have HE := Lib.hid fe
        have HFD := Lib.hid fd
        clear hd hF hbel hI hlo HA fe fd fc hgo hk
        go_wp2_with fail
        refine (Flush_any HD.out hloose).mono ?_
        rw [HE.out]
        rintro e w3 ⟨rfl, hm3, F3, hd3, hF3⟩
        have HD3 := Lib.hid hd3
        have HB3 : Hid (Below W.heap.size W w3) := Lib.hid (HB.out.trans (hm3.below HB.out.size HF.out))
        have HF3 : Hid (∀ q, F3 q → W.heap.size ≤ q) := Lib.hid (fun q hq => (hF3 q hq).elim (HF.out q) (fun h => Nat.le_trans HB.out.size h))
        have HN3 : Hid (d.flushD.loose = []) := Lib.hid (by rw [HFD.out])
        have HSF : Hid (d.flushD.seen = d.flushD.firm) := Lib.hid (by rw [HFD.out])
        clear hd3 hm3 hF3 HD HB HF hloose HE HFD
        generalize d.flushD = e3 at *
        go_wp2_with fail
        refine (Loose_any HD3.out).mono ?_
        rw [HN3.out]
        rintro e w' ⟨rfl, rfl⟩
        have HM : Hid (SomeMay W a w3.heap.size e3 (fun j => if j < 0 then mayOf e3.firm [] j else []) (w3.alloc (.cells #[.slice none 0 0, .slice none 0 0, .slice none 0 0, .slice none 0 0, .slice none 0 0, .slice none 0 0] 48))) := by
          obtain ⟨vs, hv⟩ := may_new w3
          have hz := HB3.out.size
          refine Lib.hid ⟨F3, _, HD3.out.below ((Below.refl _ _).alloc (Nat.le_refl _) _), ⟨vs, hv.congr (fun j _ => by simp)⟩, fun q hf hg => ?_, HF3.out, fun q hq => by have e : q = w3.heap.size := hq; omega, HB3.out.alloc hz _⟩
          have e : q = w3.heap.size := hg
          have := HD3.out.low q hf
          omega
        clear HD3 HB3 HF3
        go_wp2_with fail
        generalize w3.heap.size = M at *
        go_loopw [60] (fun i wr => ∃ k : Nat, k ≤ 6 ∧ i = .int .i64 k ∧ Hid (SomeMay W a M e3 (fun j => if j < k then mayOf e3.firm [] j else []) wr)) (fun i _ => 6 - (intOf i).toNat)
        case atStart => exact ⟨0, by omega, rfl, HM⟩
        case round =>
          clear HM
          obtain ⟨k, hk, rfl, HM⟩ := hrel
          by_cases hlt : k < 6
          · obtain ⟨F, G, hd, ⟨vs, hv⟩, hap, hlF, hlG, hbel⟩ := HM.out
            have HD := Lib.hid hd
            obtain ⟨r1, r2⟩ := calm_read HI.out hlt
            have R1 := Lib.hid r1
            have R2 := Lib.hid r2
            have cM := hv.cell hlt
            have fM : wr.frozen? ⟨M, k, none⟩ = false := Lib.frozen_of_heap hv.blk k
            have hown := hv.own k hlt
            have hmk : (fun j => if j < k then mayOf e3.firm [] j else []) k = [] := by simp
            simp only [hmk, List.length_nil, List.map_nil] at hown
            have HV := Lib.hid hv
            have HP := Lib.hid (show (∀ q, F q → ¬ G q) ∧ (∀ q, F q → W.heap.size ≤ q) ∧ (∀ q, G q → W.heap.size ≤ q) ∧ Below W.heap.size W wr from ⟨hap, hlF, hlG, hbel⟩)
            have hMw : M < wr.heap.size := hv.low M hv.gM
            have hnM := hv.notM k hlt
            clear hd hv hap hlF hlG hbel r1 r2 hmk
            go_wp2_with fail
            refine (Read_any HD.out (k : Int)).mono ?_
            rw [R1.out, R2.out]
            rintro e w' ⟨rfl, rfl⟩
            obtain ⟨hi0, hz0, hz1, hz2⟩ := HI0.out
            generalize hx : e3.seen.getD k [] = x
            have HX := Lib.hid hx
            clear hx
            go_wp2_with (at_builtin; refine wpList_append_lies _ rfl (.tmp 74) (.tmp 76) 32 rfl 0 9 i0 (.string ByteArray.empty) 1 16 Try.underlying32 hi0 hz0 hz1 hz2 rfl (by decide) (vs k) 0 [] rfl (hown.alloc _) ⟨wr.heap.size, 0, none⟩ 1 1 [strV x] rfl rfl ?c1 ?c2 (by omega) ?c3 (by omega) (Nat.zero_le _) _ rfl ?_)
            case c1 => exact cell_one_new _ _ _
            case c2 => intro u hu; simp at hu; subst hu; rfl
            case c3 => unfold maxLen; omega
            intro g cap w4 hown4 hg4 hat4 hlt4
            have cM4 : w4.cell? ⟨M, k, none⟩ = some (vs k) := by
              rw [hg4.cell_far ⟨M, k, none⟩ (by show M < (wr.alloc _).heap.size; simp; omega) (fun e => hnM e.symm), World.cell?_of_block (w := wr) (Below.heap_alloc wr _ M hMw)]
              exact cM
            have fM4 : w4.frozen? ⟨M, k, none⟩ = false := by
              rw [hg4.frozen_far ⟨M, k, none⟩ (by show M < (wr.alloc _).heap.size; simp; omega) (fun e => hnM e.symm), World.frozen?_of_block (w := wr) (Below.heap_alloc wr _ M hMw)]
              exact fM
            have HM5 : Hid (SomeMay W a M e3 (fun j => if j < k + 1 then mayOf e3.firm [] j else []) (w4.setCell ⟨M, k, none⟩ (.slice (some ⟨g, 0, none⟩) 1 cap))) := by
              refine Lib.hid (SomeMay.more HD.out HP.out.1 HP.out.2.1 HP.out.2.2.1 HP.out.2.2.2 _ HV.out hlt x (cap := cap) (g := g) (n := 0) (ys := []) ⟨hg4.os, hg4.tape, hg4.output, hg4.size, hg4.block⟩ hat4 hlt4 (by simp) (by simp) hown4 (fun j hj => ?_))
              by_cases e : j = k
              · subst e
                simp only [if_true, Nat.lt_irrefl, if_false, List.nil_append, Nat.lt_succ_self]
                rw [mayOf_nil, ← HX.out, HSF.out]
              · simp only [if_neg e]
                by_cases e2 : j < k
                · rw [if_pos e2, if_pos (by omega)]
                · rw [if_neg e2, if_neg (by omega)]
            clear hown4 hg4 hat4 hlt4 hown HV HP cM fM
            go_wp2
            go_roundw
            case rel => exact ⟨k + 1, by omega, by go_num, HM5⟩
            case measure => simp [intOf]; omega
          · have HM6 : Hid (SomeMay W a M e3 (mayOf e3.firm e3.loose) wr) := by
              obtain ⟨F, G, hd, ⟨vs, hv⟩, hr⟩ := HM.out
              exact Lib.hid ⟨F, G, hd, ⟨vs, hv.congr (fun j hj => by rw [HN3.out, if_pos (by omega)])⟩, hr⟩
            have HS6 : Hid (∃ d6, Calm 6 d6 ∧ d6.firm = e3.firm ∧ d6.loose.length ≤ 0 ∧ SomeMay W a M d6 (mayOf e3.firm d6.loose) wr) := Lib.hid ⟨e3, HI.out, rfl, by rw [HN3.out]; simp, HM6.out⟩
            have HFl : Hid (e3.firm.length = 6) := Lib.hid (by rw [← HSF.out]; exact HI.out.size)
            generalize e3.firm = f at *
            clear HM HM6 HI HN3 HSF
            go_wp2
            go_loopw [13] (fun i wr => ∃ k : Nat, k ≤ 30 ∧ i = .int .i64 k ∧ Hid (∃ d6, Calm 6 d6 ∧ d6.firm = f ∧ d6.loose.length ≤ k ∧ SomeMay W a M d6 (mayOf f d6.loose) wr)) (fun i _ => 30 - (intOf i).toNat)
            case atStart => exact ⟨0, by omega, rfl, HS6⟩
            case round =>
              clear HS6
              obtain ⟨k, hk, rfl, HS⟩ := hrel
              by_cases hgo : k < len2 ∧ k < 30
              · obtain ⟨hg1, hg2⟩ := hgo
                have hkl : k < l2.length := by rw [HLen2.out]; exact hg1
                obtain ⟨d, hI, hfd, hlo, F, G, hd, ⟨vs, hv⟩, hap, hlF, hlG, hbel⟩ := HS.out
                obtain ⟨b, off, rfl, hbW, hc, hok⟩ := HL2.out.at_ hbel hkl
                obtain ⟨p, hp⟩ : ∃ p, l2[k] = p := ⟨_, rfl⟩
                rw [hp] at hc hok
                clear hp hkl HS
                obtain ⟨c0, c1, c2, c3, c4⟩ := hc
                have hsz : p.s.size ≤ 9223372036854775807 := hok.s1
                have hloose : d.loose.length ≤ 1000000 := by omega
                have HOB : Hid (IsDisk (wr.alloc (.cells #[.int .i64 p.k, .int .i64 p.at_, .int .i64 p.n, .string p.s, .slice p.A p.len p.cap] 39)) F a d ∧ MayAt (wr.alloc (.cells #[.int .i64 p.k, .int .i64 p.at_, .int .i64 p.n, .string p.s, .slice p.A p.len p.cap] 39)) G M (mayOf f d.loose) vs ∧
                    ActCells (wr.alloc (.cells #[.int .i64 p.k, .int .i64 p.at_, .int .i64 p.n, .string p.s, .slice p.A p.len p.cap] 39)) wr.heap.size 0 p ∧ Below W.heap.size W (wr.alloc (.cells #[.int .i64 p.k, .int .i64 p.at_, .int .i64 p.n, .string p.s, .slice p.A p.len p.cap] 39)) ∧ ¬ F wr.heap.size ∧ wr.heap.size < (wr.alloc (.cells #[.int .i64 p.k, .int .i64 p.at_, .int .i64 p.n, .string p.s, .slice p.A p.len p.cap] 39)).heap.size) := by
                  have hbx : Below wr.heap.size wr (wr.alloc (.cells #[.int .i64 p.k, .int .i64 p.at_, .int .i64 p.n, .string p.s, .slice p.A p.len p.cap] 39)) := (Below.refl _ _).alloc (Nat.le_refl _) _
                  have hblk := heap_alloc_new wr (.cells #[.int .i64 p.k, .int .i64 p.at_, .int .i64 p.n, .string p.s, .slice p.A p.len p.cap] 39)
                  refine Lib.hid ⟨hd.below hbx, hv.kept (Moves.of_below (F := fun _ => False) hbx) (fun _ h => h.elim), ?_, hbel.trans (hbx.mono hbel.size), (fun hf => by have := hd.low _ hf; omega), by simp⟩
                  refine ⟨?_, ?_, ?_, ?_, ?_⟩ <;> rw [Lib.cell_of_heap hblk] <;> rfl
                have HGX : Hid (¬ G wr.heap.size) := Lib.hid (fun h => Nat.lt_irrefl _ (hv.low _ h))
                have HP := Lib.hid (show (∀ q, F q → ¬ G q) ∧ (∀ q, F q → W.heap.size ≤ q) ∧ (∀ q, G q → W.heap.size ≤ q) from ⟨hap, hlF, hlG⟩)
                have HI := Lib.hid hI
                have HFd := Lib.hid hfd
                have HLo := Lib.hid hlo
                clear hd hv hap hlF hlG hbel hI hfd hlo hok
                go_wp2_with fail
                clear c0 c1 c2 c3 c4
                generalize wr.alloc (.cells #[.int .i64 p.k, .int .i64 p.at_, .int .i64 p.n, .string p.s, .slice p.A p.len p.cap] 39) = w2 at *
                generalize wr.heap.size = X at *
                refine (Write_any HOB.out.1 p.at_ p.s hsz hloose).mono ?_
                rintro e w5 h5
                have hl5 := writeD_loose d p.at_ p.s.data.toList
                have HC5 : Hid (ActCells w5 X 0 p ∧ X < w5.heap.size) := by
                  obtain ⟨_, hm, _⟩ := h5
                  exact Lib.hid ⟨ActCells.over HOB.out.2.2.1 hm HOB.out.2.2.2.2.2 HOB.out.2.2.2.2.1, Nat.lt_of_lt_of_le HOB.out.2.2.2.2.2 hm.size⟩
                have HS5 : Hid (∃ F5, IsDisk w5 F5 a (d.writeD p.at_ p.s.data.toList) ∧ MayAt w5 G M (mayOf f d.loose) vs ∧ (∀ q, F5 q → ¬ G q) ∧ (∀ q, F5 q → W.heap.size ≤ q) ∧ (∀ q, G q → W.heap.size ≤ q) ∧ Below W.heap.size W w5) := by
                  obtain ⟨_, hm, F5, hd5, hF5⟩ := h5
                  have hB := HOB.out.2.2.2.1
                  refine Lib.hid ⟨F5, hd5, HOB.out.2.1.kept hm HP.out.1, fun q hq hg => ?_, fun q hq => (hF5 q hq).elim (HP.out.2.1 q) (fun h => Nat.le_trans hB.size h), HP.out.2.2, hB.trans (hm.below hB.size HP.out.2.1)⟩
                  rcases hF5 q hq with h | h
                  · exact HP.out.1 q h hg
                  · have := HOB.out.2.1.low q hg; omega
                obtain ⟨rfl, _⟩ := h5
                rcases calm_write HI.out p.at_ p.s.data.toList with ⟨ew, e1, e2, e3', ed, ec⟩ | ⟨ew, ed⟩
                · obtain ⟨i, hi⟩ := Int.eq_ofNat_of_zero_le e1
                  rw [hi] at e2
                  have hi6 : i < 6 := by omega
                  obtain ⟨r1, r2⟩ := calm_read ec hi6
                  have hs32 : p.s.size ≤ 32 := by rw [list_length] at e3'; exact e3'
                  have hput : (d.writeD p.at_ p.s.data.toList).seen.getD i [] = padB p.s.data.toList := by
                    rw [ed, hi, Int.toNat_natCast]
                    show (d.seen.set i _).getD i [] = _
                    rw [List.getD_eq_getElem?_getD, List.getElem?_set_self (by rw [HI.out.size]; exact hi6)]
                    rfl
                  have hloo : (d.writeD p.at_ p.s.data.toList).loose = d.loose ++ [(i, padB p.s.data.toList)] := by
                    rw [ed, hi, Int.toNat_natCast]
                    rfl
                  have hfir : (d.writeD p.at_ p.s.data.toList).firm = f := by rw [ed]; exact HFd.out
                  have hx32 : (padB p.s.data.toList).length = 32 := padB_length e3'
                  have htk : (padB p.s.data.toList).take p.s.data.toList.length = p.s.data.toList := padB_take
                  rw [hput] at r2
                  rw [hi] at HS5 hloo hfir r1 r2 ec ew hl5 ⊢
                  generalize d.writeD (i : Int) p.s.data.toList = d7 at *
                  generalize padB p.s.data.toList = x at *
                  obtain ⟨F5, hd5, hv5, hap5, hlF5, hlG5, hb5⟩ := HS5.out
                  have HD5 := Lib.hid hd5
                  have HV5 := Lib.hid hv5
                  have HP5 := Lib.hid (show (∀ q, F5 q → ¬ G q) ∧ (∀ q, F5 q → W.heap.size ≤ q) ∧ (∀ q, G q → W.heap.size ≤ q) ∧ Below W.heap.size W w5 from ⟨hap5, hlF5, hlG5, hb5⟩)
                  have c1 : w5.cell? ⟨X, 1, none⟩ = some (.int .i64 i) := by rw [← hi]; exact HC5.out.1.2.1
                  have c3 : w5.cell? ⟨X, 3, none⟩ = some (.string p.s) := HC5.out.1.2.2.2.1
                  have cM := hv5.cell hi6
                  have fM : w5.frozen? ⟨M, i, none⟩ = false := Lib.frozen_of_heap hv5.blk i
                  have hown := hv5.own i hi6
                  have hnM := hv5.notM i hi6
                  have hMw : M < w5.heap.size := hv5.low M hv5.gM
                  have hXw := HC5.out.2
                  have hml := mayOf_length f d.loose i
                  obtain ⟨S, hS⟩ : ∃ S, str x = S := ⟨_, rfl⟩
                  have hS1 : S.size = 32 := by rw [← hS, str_size, hx32]
                  have hS2 : ((S.extract 0 p.s.size).toList == p.s.toList) = true := by
                    rw [← hS, bytes_toList, bytes_toList, extract_take, str_list, ← list_length, htk]
                    simp
                  have HR1 := Lib.hid r1
                  have HR2 := Lib.hid r2
                  have HEW := Lib.hid ew
                  have HEC := Lib.hid ec
                  have HLO := Lib.hid hloo
                  have HFI := Lib.hid hfir
                  have HSS := Lib.hid hS
                  have HL5 := Lib.hid hl5
                  have hpS : (p.s.size : Int) ≤ (S.size : Int) := by omega
                  have hpS0 : (0 : Int) ≤ (p.s.size : Int) := by omega
                  have hi0' : decide ((i : Int) < 0) = false := by rw [decide_eq_false_iff_not]; omega
                  have hi5' : decide (5 < (i : Int)) = false := by rw [decide_eq_false_iff_not]; omega
                  rw [ew]
                  clear hS hS1 hd5 hv5 hap5 hlF5 hlG5 hb5 r1 r2 ew ec hloo hfir hput htk hx32 ed e3' e1 e2 HOB HS5 HC5 hi hl5
                  go_wp2_with fail
                  refine (Read_any HD5.out (i : Int)).mono ?_
                  rw [HR1.out, HR2.out, HSS.out]
                  rintro e w' ⟨rfl, rfl⟩
                  go_wp2_with fail
                  go_quiet (fail)
                  go_wp2_with fail
                  have HDv : Hid (IsDisk (w5.drewN nq) F5 a d7) := Lib.hid (HD5.out.below (below_draws w5 nq))
                  have HVv : Hid (MayAt (w5.drewN nq) G M (mayOf f d.loose) vs) := Lib.hid (HV5.out.kept (Moves.of_below (F := fun _ => False) (below_draws w5 nq)) (fun _ h => h.elim))
                  have HPv : Hid (Below W.heap.size W (w5.drewN nq)) := Lib.hid (HP5.out.2.2.2.trans ((below_draws w5 nq).mono HP5.out.2.2.2.size))
                  have c1v : (w5.drewN nq).cell? ⟨X, 1, none⟩ = some (.int .i64 i) := c1
                  have cMv : (w5.drewN nq).cell? ⟨M, i, none⟩ = some (vs i) := cM
                  have fMv : (w5.drewN nq).frozen? ⟨M, i, none⟩ = false := fM
                  have hownv : (w5.drewN nq).ownsRow 0 9 1 (vs i) (mayOf f d.loose i).length ((mayOf f d.loose i).map strV) := hown
                  have hMv : M < (w5.drewN nq).heap.size := hMw
                  have hXv : X < (w5.drewN nq).heap.size := hXw
                  clear c1 c3 cM fM hown hMw hXw HD5 HV5 hS2
                  generalize w5.drewN nq = V at *
                  have hlo1 : (mayOf f d.loose i).length + 1 ≤ maxLen := by unfold maxLen; omega
                  have hlo2 : ((mayOf f d.loose i).length + 1) * 16 ≤ 140737488355328 := by omega
                  obtain ⟨hi0, hz0, hz1, hz2⟩ := HI0.out
                  have ne1 := World.new_ne V ⟨X, 1, none⟩ c1v
                  have neM := World.new_ne V ⟨M, i, none⟩ cMv
                  have hii0 : (0 : Int) ≤ (i : Int) := Int.natCast_nonneg _
                  have hii6 : (i : Int) < 6 := by omega
                  have hownd : (V.alloc (.cells #[.string S] 9)).drew.ownsRow 0 9 1 (vs i) (mayOf f d.loose i).length ((mayOf f d.loose i).map strV) := (hownv.alloc _).drew
                  have hnewd : ∀ j u, ([.string S] : List Value)[j]? = some u → (V.alloc (.cells #[.string S] 9)).drew.cell? ((⟨V.heap.size, 0, none⟩ : Addr).add j) = some u := World.news_of_block (cs := #[.string S]) (t := 9) (fr := (0, 0)) (heap_alloc_new V _)
                  have hszd : (V.alloc (.cells #[.string S] 9)).drew.heap.size = V.heap.size + 1 := by rw [drew_size]; simp
                  have HFin : Hid (∀ gg cap w6, World.ownsRow w6 0 9 1 (.slice (some ⟨gg, 0, none⟩) ((mayOf f d.loose i).length + 1) cap) ((mayOf f d.loose i).length + 1) ((mayOf f d.loose i).map strV ++ [.string S]) → (V.alloc (.cells #[.string S] 9)).drew.grownBy w6 (vs i).ownBlock → ((vs i).ownBlock = some gg ∨ gg = V.heap.size + 1) → gg < w6.heap.size →
                      ∃ d6, Calm 6 d6 ∧ d6.firm = f ∧ d6.loose.length ≤ k + 1 ∧ SomeMay W a M d6 (mayOf f d6.loose) (w6.setCell ⟨M, i, none⟩ (.slice (some ⟨gg, 0, none⟩) ((mayOf f d.loose i).length + 1) cap))) := by
                    refine Lib.hid (fun gg cap w6 h1 h2 h3 h4 => ⟨d7, HEC.out, HFI.out, by have := HLo.out; have := HL5.out; omega, ?_⟩)
                    refine SomeMay.more HDv.out HP5.out.1 HP5.out.2.1 HP5.out.2.2.1 HPv.out _ HVv.out hi6 x h2 h3 h4 rfl rfl (by rw [← HSS.out] at h1; exact h1) (fun j hj => ?_)
                    by_cases e : j = i
                    · subst e
                      rw [if_pos rfl, HLO.out, mayOf_snoc]
                    · rw [if_neg e, HLO.out, mayOf_other f d.loose (Ne.symm e)]
                  have hnX : (vs i).ownBlock ≠ some X := fun e => HGX.out (HVv.out.gv i hi6 X e)
                  go_region_law ((refine step_append_lies _ (by rfl) _ _ _ (by rfl) 0 9 i0 (.string ByteArray.empty) 1 16 Try.underlying32 hi0 hz0 hz1 hz2 rfl (by omega) (vs i) (mayOf f d.loose i).length _ (by rfl) hownd ⟨V.heap.size, 0, none⟩ 1 1 [.string S] (by rfl) (by rfl) hnewd (by simp [Value.oneCell']) (by omega) hlo1 hlo2 (Nat.zero_le _) (V.heap.size + 1) hszd ?_; intro gg cap w6 hown6 hgrow hat hlt6; have cM6 : w6.cell? ⟨M, i, none⟩ = some (vs i) := (by rw [hgrow.cell_far ⟨M, i, none⟩ (by rw [hszd]; show M < _; omega) (fun e => hnM e.symm), drew_cell, World.cell?_of_block (w := V) (Below.heap_alloc V _ M hMv)]; exact cMv); have fM6 : w6.frozen? ⟨M, i, none⟩ = false := (by rw [hgrow.frozen_far ⟨M, i, none⟩ (by rw [hszd]; show M < _; omega) (fun e => hnM e.symm), drew_frozen, World.frozen?_of_block (w := V) (Below.heap_alloc V _ M hMv)]; exact fMv); have c16 : w6.cell? ⟨X, 1, none⟩ = some (.int .i64 i) := (by rw [hgrow.cell_far ⟨X, 1, none⟩ (by rw [hszd]; show X < _; omega) (fun e => hnX e.symm), drew_cell, World.cell?_of_block (w := V) (Below.heap_alloc V _ X hXv)]; exact c1v)))
                  all_goals
                    have HS9 := Lib.hid (HFin.out gg cap w6 hown6 hgrow hat hlt6)
                    clear hown6 hgrow hat hlt6 cM6 fM6 c16 ne1 neM hownd hnewd hszd hownv c1v cMv fMv
                    go_wp2
                    go_roundw
                    case rel => exact ⟨k + 1, by omega, by go_num, HS9⟩
                    case measure => simp [intOf]; omega
                · have HS9 : Hid (∃ d6, Calm 6 d6 ∧ d6.firm = f ∧ d6.loose.length ≤ k + 1 ∧ SomeMay W a M d6 (mayOf f d6.loose) w5) := by
                    obtain ⟨F5, h1, h2, h3, h4, h5, h6⟩ := HS5.out
                    rw [ed] at h1
                    exact Lib.hid ⟨d, HI.out, HFd.out, Nat.le_succ_of_le HLo.out, F5, G, h1, ⟨vs, h2⟩, h3, h4, h5, h6⟩
                  have hew : (d.writeE p.at_ p.s.data.toList != 0) = true := by simpa using ew
                  clear ew ed hl5 HS5 HC5 HOB
                  generalize d.writeE p.at_ p.s.data.toList = E at *
                  go_wp2_with fail
                  go_roundw
                  case rel => exact ⟨k + 1, by omega, by go_num, HS9⟩
                  case measure => simp [intOf]; omega
              · go_upto_region 22 with fail
                go_cut [87] from 80 to 139 (fun v wc => v = .bool false ∧ wc = wr)
                case first =>
                  by_cases hkl : k < len2
                  · have hk40 : decide ((k : Int) < 30) = false := by rw [decide_eq_false_iff_not]; omega
                    clear hgo
                    go_wp2
                    go_meet
                    case rel => exact ⟨rfl, rfl⟩
                  · have hkl2 : decide (k < len2) = false := by simpa using hkl
                    clear hgo
                    go_wp2
                    go_meet
                    case rel => exact ⟨rfl, rfl⟩
                case rest =>
                  obtain ⟨rfl, rfl⟩ := hcut
                  obtain ⟨d, hI, hfd, hlo, F, G, hd, ⟨vs, hv⟩, hap, hlF, hlG, hbel⟩ := HS.out
                  have HD := Lib.hid hd
                  have HV := Lib.hid hv
                  have HP := Lib.hid (show (∀ q, F q → ¬ G q) ∧ (∀ q, F q → W.heap.size ≤ q) ∧ Below W.heap.size W wc from ⟨hap, hlF, hbel⟩)
                  have HI := Lib.hid hI
                  have HFd := Lib.hid hfd
                  have hloose : d.loose.length ≤ 1000001 := by omega
                  have HLo := Lib.hid hlo
                  clear hd hv hap hlF hlG hbel hI hfd hlo HS
                  go_wp2_with fail
                  refine (Crash_any HD.out hloose (H5.out.is HP.out.2.2 HP.out.2.1) H4.out h3).mono ?_
                  rintro e w7 ⟨rfl, hm7, F7, hd7, hF7⟩
                  have HD7 := Lib.hid hd7
                  have HV7 : Hid (MayAt w7 G M (mayOf f d.loose) vs) := Lib.hid (HV.out.kept hm7 HP.out.1)
                  have HB7 : Hid (Below W.heap.size W w7) := Lib.hid (HP.out.2.2.trans (hm7.below HP.out.2.2.size HP.out.2.1))
                  have HC7 : Hid (Calm 6 (d.crashD bs)) := Lib.hid (calm_crash HI.out HD.out.1 bs)
                  have HX7 : Hid (∀ i, i < 6 → (d.crashD bs).seen.getD i [] ∈ mayOf f d.loose i) := Lib.hid (fun i hi => by
                    have := crash_may (d := d) bs (i := i) (by rw [HFd.out, HFl.out]; exact hi)
                    rw [HFd.out] at this
                    exact this)
                  have HML : Hid (∀ i, (mayOf f d.loose i).length ≤ 32) := Lib.hid (fun i => by have := mayOf_length f d.loose i; have := HLo.out; omega)
                  have HL0 : Hid ((d.crashD bs).loose = []) := Lib.hid rfl
                  clear hd7 hm7 hF7 HD HV HP
                  generalize d.crashD bs = d8 at *
                  generalize mayOf f d.loose = m at *
                  go_wp2_with fail
                  go_loopw [143] (fun i wr => ∃ k : Nat, k ≤ 6 ∧ i = .int .i64 k ∧ wr = w7) (fun i _ => 6 - (intOf i).toNat)
                  case atStart => exact ⟨0, by omega, rfl, rfl⟩
                  case round =>
                    obtain ⟨i, hi, rfl, hw7⟩ := hrel
                    obtain rfl : w7 = wr := hw7.symm
                    by_cases hlt : i < 6
                    · obtain ⟨r1, r2⟩ := calm_read HC7.out hlt
                      have R1 := Lib.hid r1
                      have R2 := Lib.hid r2
                      have HIn := Lib.hid (HX7.out i hlt)
                      have cM := HV7.out.cell hlt
                      have hown := HV7.out.own i hlt
                      obtain ⟨A, c, hva, _, _⟩ := own_form hown
                      have hmi := HML.out i
                      have HOw := Lib.hid hown
                      have HVa := Lib.hid hva
                      rw [hva] at cM
                      clear r1 r2 hown hva
                      go_wp2_with fail
                      refine (Read_any HD7.out (i : Int)).mono ?_
                      rw [R1.out, R2.out]
                      rintro e w' ⟨rfl, rfl⟩
                      generalize d8.seen.getD i [] = x at *
                      obtain ⟨n, hn⟩ : ∃ n, (m i).length = n := ⟨_, rfl⟩
                      rw [hn] at cM hmi
                      have HNn := Lib.hid hn
                      clear hn
                      go_wp2_with fail
                      go_loopw [20, 156] (fun ok j wr => ∃ j' : Nat, j' ≤ n ∧ j = .int .i64 j' ∧ ok = .bool (decide (x ∈ (m i).take j')) ∧ wr = w7) (fun _ j _ => n - (intOf j).toNat)
                      case atStart => exact ⟨0, by omega, rfl, by simp, rfl⟩
                      case round =>
                        obtain ⟨j, hj, rfl, rfl, hw7⟩ := hrel
                        obtain rfl : w7 = wr := hw7.symm
                        by_cases hjn : j < n
                        · have hjl : j < (m i).length := by rw [HNn.out]; exact hjn
                          obtain ⟨g, cap, hg, _⟩ := HOw.out.form (by omega)
                          have hA : A = some ⟨g, 0, none⟩ := by rw [HVa.out] at hg; simp only [Value.slice.injEq] at hg; exact hg.1
                          subst hA
                          have hcj : w7.cell? ⟨g, j, none⟩ = some (strV (m i)[j]) := by
                            have := HOw.out.cells (g := g) (by rw [hg]; rfl) j (strV (m i)[j]) (by simp [List.getElem?_eq_getElem hjl])
                            rwa [WideShapes.add_plain, Nat.zero_add] at this
                          have HTk := Lib.hid (List.take_succ_eq_append_getElem hjl)
                          obtain ⟨y, hy⟩ : ∃ y, (m i)[j] = y := ⟨_, rfl⟩
                          rw [hy] at hcj HTk
                          clear hy hjl hg
                          unfold strV at hcj
                          by_cases hin : x ∈ (m i).take j
                          · have hd1 : decide (x ∈ (m i).take j) = true := by simpa using hin
                            have HRel : Hid (decide (x ∈ (m i).take (j + 1)) = true) := Lib.hid (by rw [HTk.out]; simp [hin])
                            rw [hd1]
                            clear hin hd1
                            go_wp2
                            go_roundw
                            case rel => exact ⟨j + 1, by omega, by go_num, by rw [HRel.out], trivial⟩
                            case measure => simp [intOf]; omega
                          · have hd1 : decide (x ∈ (m i).take j) = false := by simpa using hin
                            by_cases hxy : x = y
                            · have HRel : Hid (decide (x ∈ (m i).take (j + 1)) = true) := Lib.hid (by rw [HTk.out, hxy]; simp)
                              subst hxy
                              rw [hd1]
                              clear hin hd1
                              go_wp2
                              go_roundw
                              case rel => exact ⟨j + 1, by omega, by go_num, by rw [HRel.out], trivial⟩
                              case measure => simp [intOf]; omega
                            · have HRel : Hid (decide (x ∈ (m i).take (j + 1)) = false) := Lib.hid (by rw [HTk.out]; simp [hin, hxy])
                              have hne : ((str x).toList == (str y).toList) = false := by
                                rw [bytes_toList, bytes_toList, str_list, str_list]
                                simpa using hxy
                              rw [hd1]
                              clear hin hd1 hxy
                              go_wp2
                              go_roundw
                              case rel => exact ⟨j + 1, by omega, by go_num, by rw [HRel.out], trivial⟩
                              case measure => simp [intOf]; omega
                        · have hall : decide (x ∈ (m i).take j) = true := by
                            rw [List.take_of_length_le (by rw [HNn.out]; omega)]
                            simpa using HIn.out
                          rw [hall]
                          clear hall
                          go_wp2
                          go_roundw
                          case rel => exact ⟨i + 1, by omega, by go_num, trivial⟩
                          case measure => simp [intOf]; omega
                    · go_wp2_with fail
                      refine (Loose_any HD7.out).mono ?_
                      rw [HL0.out]
                      rintro e w' ⟨rfl, rfl⟩
                      go_wp2_with fail
                      refine (DiskAwake_any _).mono ?_
                      rintro e w9 ⟨rfl, hb9⟩
                      have HB9 : Hid (Below W.heap.size W w9) := Lib.hid (HB7.out.trans (hb9.mono HB7.out.size))
                      clear hb9
                      go_wp2_with fail
                      go_ret
                      exact ⟨rfl, HB9.out⟩
end Go.Proofs.Ytnliaiedgaiohaa
