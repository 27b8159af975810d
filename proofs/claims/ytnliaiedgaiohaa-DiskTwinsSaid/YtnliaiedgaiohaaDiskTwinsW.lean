/- The walk of DiskTwins. -/
import Derived.Test.YtnliaiedgaiohaaDiskArmsP
namespace Go.Proofs.Ytnliaiedgaiohaa
open Go.RowKit

/-- Two disks that lie apart and hold the same. -/
def Twins (W : World) (i : Nat) (a b : Nat) (wr : World) : Prop :=
  ∃ Fa Fb d, IsDisk wr Fa a d ∧ IsDisk wr Fb b d ∧ (∀ q, Fa q → ¬ Fb q) ∧ (∀ q, Fa q → W.heap.size ≤ q) ∧ (∀ q, Fb q → W.heap.size ≤ q) ∧ d.loose.length ≤ i ∧ Below W.heap.size W wr

theorem ActCells.moves {F : Nat → Prop} {w w' : World} {b o : Nat} {x : ActV} (h : ActCells w b o x) (hm : Moves F w w') (hb : b < w.heap.size) (hF : ¬ F b) : ActCells w' b o x := by
  have e : ∀ j, w'.cell? ⟨b, j, none⟩ = w.cell? ⟨b, j, none⟩ := fun j => World.cell?_of_block (hm.block b hb hF)
  obtain ⟨h0, h1, h2, h3, h4⟩ := h
  exact ⟨(e _).trans h0, (e _).trans h1, (e _).trans h2, (e _).trans h3, (e _).trans h4⟩

/-- What is left of a first disk's call: the second is as it was. -/
structure Half (W : World) (a b : Nat) (d d' : DSt) (Fa Fb : Nat → Prop) (w : World) : Prop where
  da : IsDisk w Fa a d'
  db : IsDisk w Fb b d
  apart : ∀ q, Fa q → ¬ Fb q
  lowa : ∀ q, Fa q → W.heap.size ≤ q
  lowb : ∀ q, Fb q → W.heap.size ≤ q
  bel : Below W.heap.size W w

theorem half_of {W w1 w2 : World} {a b : Nat} {d d' : DSt} {Fa Fb : Nat → Prop} {v : Value} {e : Ending} (hb : IsDisk w1 Fb b d) (hap : ∀ q, Fa q → ¬ Fb q) (hla : ∀ q, Fa q → W.heap.size ≤ q) (hlb : ∀ q, Fb q → W.heap.size ≤ q) (hB : Below W.heap.size W w1)
    (h : DiskEnd w1 Fa a d' v e w2) : ∃ Fa', Half W a b d d' Fa' Fb w2 ∧ Moves Fa w1 w2 := by
  obtain ⟨_, hm, F', hd, hF'⟩ := h
  refine ⟨F', ⟨hd, hb.kept hm hap, fun q hq hf => ?_, fun q hq => (hF' q hq).elim (hla q) (fun h => Nat.le_trans hB.size h), hlb, hB.trans (hm.below hB.size hla)⟩, hm⟩
  rcases hF' q hq with h | h
  · exact hap q h hf
  · have := hb.low q hf; omega

theorem Half.twins {W w1 w2 : World} {i a b : Nat} {d d' : DSt} {Fa Fb : Nat → Prop} {v : Value} {e : Ending} (h : Half W a b d d' Fa Fb w1) (h2 : DiskEnd w1 Fb b d' v e w2) (hl : d'.loose.length ≤ i) : Twins W i a b w2 ∧ Moves Fb w1 w2 := by
  obtain ⟨_, hm, F', hd, hF'⟩ := h2
  refine ⟨⟨Fa, F', d', h.da.kept hm (fun q hb ha => h.apart q ha hb), hd, fun q hq hf => ?_, h.lowa, fun q hq => (hF' q hq).elim (h.lowb q) (fun hh => Nat.le_trans h.bel.size hh), hl, h.bel.trans (hm.below h.bel.size h.lowb)⟩, hm⟩
  rcases hF' q hf with h3 | h3
  · exact h.apart q hq h3
  · have := h.da.low q hq; omega

theorem Twins.more {W : World} {i j a b : Nat} {wr w2 : World} (h : Twins W i a b wr) (hb : Below wr.heap.size wr w2) (hij : i ≤ j) : Twins W j a b w2 := by
  obtain ⟨Fa, Fb, d, h1, h2, h3, h4, h5, h6, h7⟩ := h
  exact ⟨Fa, Fb, d, h1.below hb, h2.below hb, h3, h4, h5, Nat.le_trans h6 hij, h7.trans (hb.mono h7.size)⟩

set_option maxHeartbeats 8000000 in
set_option maxRecDepth 100000 in
theorem DiskTwins_walk (A : Option Addr) (len cap : Nat) (l : List ActV) (W : World) (hl : IsActs W A len l) :
    Calls Try.prog 8 #[.slice A len cap] W fun e w' => e = .returned (.bool true) ∧ Below W.heap.size W w' := by
  have hlen := hl.1
  have hlen2 := hl.2.1
  have HL := Lib.hid hl
  have HLen := Lib.hid hlen
  clear hl hlen
  go_enter Try.func8, Try.ntmps8
  go_wp2_with fail
  refine (New_ok 5 _ (by omega) (by omega)).mono ?_
  rintro e w1 ⟨a, Fa, rfl, hda, hFa, hba⟩
  have HDa := Lib.hid hda
  have HFa := Lib.hid hFa
  have HBa := Lib.hid hba
  clear hda hFa hba
  go_wp2_with fail
  refine (New_ok 5 _ (by omega) (by omega)).mono ?_
  rintro e w2 ⟨b, Fb, rfl, hdb, hFb, hbb⟩
  have HT : Hid (Twins W 0 a b w2) := Lib.hid ⟨Fa, Fb, DSt.new 5, HDa.out.below hbb, hdb, (fun q hq hf => by have := HDa.out.low q hq; have := hFb q hf; omega), HFa.out, (fun q hq => Nat.le_trans HBa.out.size (hFb q hq)), Nat.zero_le _, HBa.out.trans (hbb.mono HBa.out.size)⟩
  clear hdb hFb hbb HDa HFa HBa
  go_wp2_with fail
  go_loopw [5] (fun i wr => ∃ k : Nat, k ≤ 40 ∧ i = .int .i64 k ∧ Hid (Twins W k a b wr)) (fun i _ => 40 - (intOf i).toNat)
  case atStart => exact ⟨0, by omega, rfl, HT⟩
  case round =>
    clear HT
    obtain ⟨k, hk, rfl, HT⟩ := hrel
    by_cases hgo : k < len ∧ k < 40
    · obtain ⟨hg1, hg2⟩ := hgo
      have hkl : k < l.length := by rw [HLen.out]; exact hg1
      obtain ⟨Fa, Fb, d, hda, hdb, hap, hla, hlb, hlo, hbel⟩ := HT.out
      obtain ⟨bb, off, rfl, hbW, hc, hok⟩ := HL.out.at_ hbel hkl
      obtain ⟨p, hp⟩ : ∃ p, l[k] = p := ⟨_, rfl⟩
      rw [hp] at hc hok
      clear hp hkl
      obtain ⟨c0, c1, c2, c3, c4⟩ := hc
      have HOK := Lib.hid hok
      have HP := Lib.hid (show IsDisk wr Fa a d ∧ IsDisk wr Fb b d ∧ (∀ q, Fa q → ¬ Fb q) ∧ (∀ q, Fa q → W.heap.size ≤ q) ∧ (∀ q, Fb q → W.heap.size ≤ q) ∧ Below W.heap.size W wr from ⟨hda, hdb, hap, hla, hlb, hbel⟩)
      have hloose : d.loose.length ≤ 1000000 := by omega
      have HLo := Lib.hid hlo
      have hsz : p.s.size ≤ 9223372036854775807 := hok.s1
      have hpl : p.len ≤ 9223372036854775807 := hok.len2
      clear hok hda hdb hap hla hlb hbel hlo
      by_cases h100 : 100 < p.len
      · have HT3 : Hid (Below W.heap.size W (wr.alloc (.cells #[.int .i64 p.k, .int .i64 p.at_, .int .i64 p.n, .string p.s, .slice p.A p.len p.cap] 39))) := Lib.hid (HP.out.2.2.2.2.2.alloc HP.out.2.2.2.2.2.size _)
        go_wp2_with fail
        refine (DiskAwake_any _).mono ?_
        rintro e w9 ⟨rfl, hb9⟩
        have HB9 : Hid (Below W.heap.size W w9) := Lib.hid (HT3.out.trans (hb9.mono HT3.out.size))
        clear hb9
        go_wp2_with fail
        go_ret
        exact ⟨rfl, HB9.out⟩
      have hp100 : decide (100 < p.len) = false := by simpa using h100
      go_wp2_with fail
      refine (kind_any _ _ _ _ _ _).mono ?_
      rintro e w3 ⟨rfl, hb3⟩
      have HQ : Hid (IsDisk w3 Fa a d ∧ IsDisk w3 Fb b d ∧ (∀ q, Fa q → ¬ Fb q) ∧ (∀ q, Fa q → W.heap.size ≤ q) ∧ (∀ q, Fb q → W.heap.size ≤ q) ∧ Below W.heap.size W w3 ∧ ActCells w3 wr.heap.size 0 p ∧ wr.heap.size < w3.heap.size ∧ ¬ Fa wr.heap.size ∧ ¬ Fb wr.heap.size) := by
        obtain ⟨h1, h2, h3, h4, h5, h6⟩ := HP.out
        have hbx : Below wr.heap.size wr w3 := ((Below.refl _ _).alloc (Nat.le_refl _) _).trans (hb3.mono (by simp))
        have hnew := heap_alloc_new wr (.cells #[.int .i64 p.k, .int .i64 p.at_, .int .i64 p.n, .string p.s, .slice p.A p.len p.cap] 39)
        have hblk : w3.heap[wr.heap.size]? = _ := (hb3.block wr.heap.size (by simp)).trans hnew
        have hs3 := hb3.size
        refine Lib.hid ⟨h1.below hbx, h2.below hbx, h3, h4, h5, h6.trans (hbx.mono h6.size), ?_, by simp at hs3; omega, fun hf => by have := h1.low _ hf; omega, fun hf => by have := h2.low _ hf; omega⟩
        refine ⟨?_, ?_, ?_, ?_, ?_⟩ <;> rw [Lib.cell_of_heap hblk] <;> rfl
      have hq7 := kindN_lt p.k
      generalize kindN p.k = q at *
      clear c0 c1 c2 c3 c4 hb3 HP HT
      generalize wr.heap.size = H at *
      have HQd : Hid (IsDisk w3.drew Fa a d ∧ IsDisk w3.drew Fb b d ∧ Below W.heap.size W w3.drew) := Lib.hid ⟨HQ.out.1.below (Below.refl _ _).drew, HQ.out.2.1.below (Below.refl _ _).drew, HQ.out.2.2.2.2.2.1.drew⟩
      rcases (show q = 3 ∨ q = 5 ∨ q = 6 ∨ q = 0 ∨ q = 1 ∨ q = 2 ∨ q = 4 by omega) with rfl | rfl | rfl | rfl | rfl | rfl | rfl
      · have c1 : w3.cell? ⟨H, 1, none⟩ = some (.int .i64 p.at_) := HQ.out.2.2.2.2.2.2.1.2.1
        have c2 : w3.cell? ⟨H, 2, none⟩ = some (.int .i64 p.n) := HQ.out.2.2.2.2.2.2.1.2.2.1
        have c3 : w3.cell? ⟨H, 3, none⟩ = some (.string p.s) := HQ.out.2.2.2.2.2.2.1.2.2.2.1
        have c4 : w3.cell? ⟨H, 4, none⟩ = some (.slice p.A p.len p.cap) := HQ.out.2.2.2.2.2.2.1.2.2.2.2
        go_wp2_with fail
        refine (Flush_any HQ.out.1 (by omega)).mono ?_
        rintro e w4 h4
        obtain ⟨Fa4, hh, hm4⟩ := half_of HQ.out.2.1 HQ.out.2.2.1 HQ.out.2.2.2.1 HQ.out.2.2.2.2.1 HQ.out.2.2.2.2.2.1 h4
        have hc4 : ActCells w4 H 0 p := HQ.out.2.2.2.2.2.2.1.moves hm4 HQ.out.2.2.2.2.2.2.2.1 HQ.out.2.2.2.2.2.2.2.2.1
        obtain ⟨rfl, _⟩ := h4
        have HC4 := Lib.hid hc4
        have HS4 : Hid (H < w4.heap.size) := Lib.hid (Nat.lt_of_lt_of_le HQ.out.2.2.2.2.2.2.2.1 hm4.size)
        have HH := Lib.hid hh
        clear hc4 hh hm4 c1 c2 c3 c4
        have c1 : w4.cell? ⟨H, 1, none⟩ = some (.int .i64 p.at_) := HC4.out.2.1
        have c2 : w4.cell? ⟨H, 2, none⟩ = some (.int .i64 p.n) := HC4.out.2.2.1
        have c3 : w4.cell? ⟨H, 3, none⟩ = some (.string p.s) := HC4.out.2.2.2.1
        have c4 : w4.cell? ⟨H, 4, none⟩ = some (.slice p.A p.len p.cap) := HC4.out.2.2.2.2
        go_wp2_with fail
        refine (Flush_any HH.out.db (by omega)).mono ?_
        rintro e w5 h5
        obtain ⟨ht, hm5⟩ := HH.out.twins (i := k + 1) h5 (by have := flushD_loose d; have := HLo.out; omega)
        have HC5 : Hid (ActCells w5 H 0 p) := Lib.hid (HC4.out.moves hm5 HS4.out HQ.out.2.2.2.2.2.2.2.2.2)
        obtain ⟨rfl, _⟩ := h5
        have HT5 := Lib.hid ht
        clear ht hm5 c1 c2 c3 c4
        obtain ⟨Fa5, Fb5, d5, hda5, hdb5, _⟩ := HT5.out
        have HDa5 := Lib.hid hda5
        have HDb5 := Lib.hid hdb5
        clear hda5 hdb5
        have c1 : w5.cell? ⟨H, 1, none⟩ = some (.int .i64 p.at_) := HC5.out.2.1
        go_wp2_with fail
        refine (Read_any HDa5.out p.at_).mono ?_
        rintro e w' ⟨rfl, rfl⟩
        go_wp2_with fail
        refine (Read_any HDb5.out p.at_).mono ?_
        rintro e w' ⟨rfl, rfl⟩
        go_wp2_with fail
        refine (Loose_any HDa5.out).mono ?_
        rintro e w' ⟨rfl, rfl⟩
        go_wp2_with fail
        refine (Loose_any HDb5.out).mono ?_
        rintro e w' ⟨rfl, rfl⟩
        go_wp2_with fail
        refine (Down_any HDa5.out).mono ?_
        rintro e w' ⟨rfl, rfl⟩
        go_wp2_with fail
        refine (Down_any HDb5.out).mono ?_
        rintro e w' ⟨rfl, rfl⟩
        go_wp2_with fail
        go_roundw
        case rel => exact ⟨k + 1, by omega, by go_num, HT5⟩
        case measure => simp [intOf]; omega
      · have c1 : w3.cell? ⟨H, 1, none⟩ = some (.int .i64 p.at_) := HQ.out.2.2.2.2.2.2.1.2.1
        have c2 : w3.cell? ⟨H, 2, none⟩ = some (.int .i64 p.n) := HQ.out.2.2.2.2.2.2.1.2.2.1
        have c3 : w3.cell? ⟨H, 3, none⟩ = some (.string p.s) := HQ.out.2.2.2.2.2.2.1.2.2.2.1
        have c4 : w3.cell? ⟨H, 4, none⟩ = some (.slice p.A p.len p.cap) := HQ.out.2.2.2.2.2.2.1.2.2.2.2
        go_wp2_with fail
        refine (Arm_any HQ.out.1 p.n HOK.out.n1 HOK.out.n2).mono ?_
        rintro e w4 h4
        obtain ⟨Fa4, hh, hm4⟩ := half_of HQ.out.2.1 HQ.out.2.2.1 HQ.out.2.2.2.1 HQ.out.2.2.2.2.1 HQ.out.2.2.2.2.2.1 h4
        have hc4 : ActCells w4 H 0 p := HQ.out.2.2.2.2.2.2.1.moves hm4 HQ.out.2.2.2.2.2.2.2.1 HQ.out.2.2.2.2.2.2.2.2.1
        obtain ⟨rfl, _⟩ := h4
        have HC4 := Lib.hid hc4
        have HS4 : Hid (H < w4.heap.size) := Lib.hid (Nat.lt_of_lt_of_le HQ.out.2.2.2.2.2.2.2.1 hm4.size)
        have HH := Lib.hid hh
        clear hc4 hh hm4 c1 c2 c3 c4
        have c1 : w4.cell? ⟨H, 1, none⟩ = some (.int .i64 p.at_) := HC4.out.2.1
        have c2 : w4.cell? ⟨H, 2, none⟩ = some (.int .i64 p.n) := HC4.out.2.2.1
        have c3 : w4.cell? ⟨H, 3, none⟩ = some (.string p.s) := HC4.out.2.2.2.1
        have c4 : w4.cell? ⟨H, 4, none⟩ = some (.slice p.A p.len p.cap) := HC4.out.2.2.2.2
        go_wp2_with fail
        refine (Arm_any HH.out.db p.n HOK.out.n1 HOK.out.n2).mono ?_
        rintro e w5 h5
        obtain ⟨ht, hm5⟩ := HH.out.twins (i := k + 1) h5 (Nat.le_succ_of_le HLo.out)
        have HC5 : Hid (ActCells w5 H 0 p) := Lib.hid (HC4.out.moves hm5 HS4.out HQ.out.2.2.2.2.2.2.2.2.2)
        obtain ⟨rfl, _⟩ := h5
        have HT5 := Lib.hid ht
        clear ht hm5 c1 c2 c3 c4
        obtain ⟨Fa5, Fb5, d5, hda5, hdb5, _⟩ := HT5.out
        have HDa5 := Lib.hid hda5
        have HDb5 := Lib.hid hdb5
        clear hda5 hdb5
        have c1 : w5.cell? ⟨H, 1, none⟩ = some (.int .i64 p.at_) := HC5.out.2.1
        go_wp2_with fail
        refine (Read_any HDa5.out p.at_).mono ?_
        rintro e w' ⟨rfl, rfl⟩
        go_wp2_with fail
        refine (Read_any HDb5.out p.at_).mono ?_
        rintro e w' ⟨rfl, rfl⟩
        go_wp2_with fail
        refine (Loose_any HDa5.out).mono ?_
        rintro e w' ⟨rfl, rfl⟩
        go_wp2_with fail
        refine (Loose_any HDb5.out).mono ?_
        rintro e w' ⟨rfl, rfl⟩
        go_wp2_with fail
        refine (Down_any HDa5.out).mono ?_
        rintro e w' ⟨rfl, rfl⟩
        go_wp2_with fail
        refine (Down_any HDb5.out).mono ?_
        rintro e w' ⟨rfl, rfl⟩
        go_wp2_with fail
        go_roundw
        case rel => exact ⟨k + 1, by omega, by go_num, HT5⟩
        case measure => simp [intOf]; omega
      · have c1 : w3.cell? ⟨H, 1, none⟩ = some (.int .i64 p.at_) := HQ.out.2.2.2.2.2.2.1.2.1
        have c2 : w3.cell? ⟨H, 2, none⟩ = some (.int .i64 p.n) := HQ.out.2.2.2.2.2.2.1.2.2.1
        have c3 : w3.cell? ⟨H, 3, none⟩ = some (.string p.s) := HQ.out.2.2.2.2.2.2.1.2.2.2.1
        have c4 : w3.cell? ⟨H, 4, none⟩ = some (.slice p.A p.len p.cap) := HQ.out.2.2.2.2.2.2.1.2.2.2.2
        go_wp2_with fail
        refine (Crash_any HQ.out.1 (by omega) (HOK.out.keep.is HQ.out.2.2.2.2.2.1 HQ.out.2.2.2.1) HOK.out.len hpl).mono ?_
        rintro e w4 h4
        obtain ⟨Fa4, hh, hm4⟩ := half_of HQ.out.2.1 HQ.out.2.2.1 HQ.out.2.2.2.1 HQ.out.2.2.2.2.1 HQ.out.2.2.2.2.2.1 h4
        have hc4 : ActCells w4 H 0 p := HQ.out.2.2.2.2.2.2.1.moves hm4 HQ.out.2.2.2.2.2.2.2.1 HQ.out.2.2.2.2.2.2.2.2.1
        obtain ⟨rfl, _⟩ := h4
        have HC4 := Lib.hid hc4
        have HS4 : Hid (H < w4.heap.size) := Lib.hid (Nat.lt_of_lt_of_le HQ.out.2.2.2.2.2.2.2.1 hm4.size)
        have HH := Lib.hid hh
        clear hc4 hh hm4 c1 c2 c3 c4
        have c1 : w4.cell? ⟨H, 1, none⟩ = some (.int .i64 p.at_) := HC4.out.2.1
        have c2 : w4.cell? ⟨H, 2, none⟩ = some (.int .i64 p.n) := HC4.out.2.2.1
        have c3 : w4.cell? ⟨H, 3, none⟩ = some (.string p.s) := HC4.out.2.2.2.1
        have c4 : w4.cell? ⟨H, 4, none⟩ = some (.slice p.A p.len p.cap) := HC4.out.2.2.2.2
        go_wp2_with fail
        refine (Crash_any HH.out.db (by omega) (HOK.out.keep.is HH.out.bel HH.out.lowb) HOK.out.len hpl).mono ?_
        rintro e w5 h5
        obtain ⟨ht, hm5⟩ := HH.out.twins (i := k + 1) h5 (Nat.zero_le _)
        have HC5 : Hid (ActCells w5 H 0 p) := Lib.hid (HC4.out.moves hm5 HS4.out HQ.out.2.2.2.2.2.2.2.2.2)
        obtain ⟨rfl, _⟩ := h5
        have HT5 := Lib.hid ht
        clear ht hm5 c1 c2 c3 c4
        obtain ⟨Fa5, Fb5, d5, hda5, hdb5, _⟩ := HT5.out
        have HDa5 := Lib.hid hda5
        have HDb5 := Lib.hid hdb5
        clear hda5 hdb5
        have c1 : w5.cell? ⟨H, 1, none⟩ = some (.int .i64 p.at_) := HC5.out.2.1
        go_wp2_with fail
        refine (Read_any HDa5.out p.at_).mono ?_
        rintro e w' ⟨rfl, rfl⟩
        go_wp2_with fail
        refine (Read_any HDb5.out p.at_).mono ?_
        rintro e w' ⟨rfl, rfl⟩
        go_wp2_with fail
        refine (Loose_any HDa5.out).mono ?_
        rintro e w' ⟨rfl, rfl⟩
        go_wp2_with fail
        refine (Loose_any HDb5.out).mono ?_
        rintro e w' ⟨rfl, rfl⟩
        go_wp2_with fail
        refine (Down_any HDa5.out).mono ?_
        rintro e w' ⟨rfl, rfl⟩
        go_wp2_with fail
        refine (Down_any HDb5.out).mono ?_
        rintro e w' ⟨rfl, rfl⟩
        go_wp2_with fail
        go_roundw
        case rel => exact ⟨k + 1, by omega, by go_num, HT5⟩
        case measure => simp [intOf]; omega
      · have c1 : w3.cell? ⟨H, 1, none⟩ = some (.int .i64 p.at_) := HQ.out.2.2.2.2.2.2.1.2.1
        have c2 : w3.cell? ⟨H, 2, none⟩ = some (.int .i64 p.n) := HQ.out.2.2.2.2.2.2.1.2.2.1
        have c3 : w3.cell? ⟨H, 3, none⟩ = some (.string p.s) := HQ.out.2.2.2.2.2.2.1.2.2.2.1
        have c4 : w3.cell? ⟨H, 4, none⟩ = some (.slice p.A p.len p.cap) := HQ.out.2.2.2.2.2.2.1.2.2.2.2
        go_wp2_with fail
        go_region_held3 (fun w' => w'.cell? ⟨H, 1, none⟩ = some (.int .i64 p.at_) ∧ w'.cell? ⟨H, 3, none⟩ = some (.string p.s)) (first | exact ⟨c1, c3⟩ | exact ⟨HC4.out.2.1, HC4.out.2.2.2.1⟩ | exact ⟨HC5.out.2.1, HC5.out.2.2.2.1⟩)
          (first
            | (((with_reducible refine (Write_any HQd.out.1 p.at_ p.s hsz hloose).mono ?_); rintro e w4 h4
                obtain ⟨Fa4, hh, hm4⟩ := half_of HQd.out.2.1 HQ.out.2.2.1 HQ.out.2.2.2.1 HQ.out.2.2.2.2.1 HQd.out.2.2 h4
                have HC4 : Hid (ActCells w4 H 0 p) := Lib.hid (ActCells.moves (w := w3.drew) HQ.out.2.2.2.2.2.2.1 hm4 HQ.out.2.2.2.2.2.2.2.1 HQ.out.2.2.2.2.2.2.2.2.1)
                obtain ⟨rfl, _⟩ := h4
                have HS4 : Hid (H < w4.heap.size) := Lib.hid (Nat.lt_of_lt_of_le HQ.out.2.2.2.2.2.2.2.1 hm4.size)
                have HH := Lib.hid hh
                clear hh hm4))
            | (((with_reducible refine (Write_any HH.out.db p.at_ p.s hsz hloose).mono ?_); rintro e w5 h5
                obtain ⟨ht, hm5⟩ := HH.out.twins (i := k + 1) h5 (by have := writeD_loose d p.at_ p.s.data.toList; have := HLo.out; omega)
                have HC5 : Hid (ActCells w5 H 0 p) := Lib.hid (HC4.out.moves hm5 HS4.out HQ.out.2.2.2.2.2.2.2.2.2)
                obtain ⟨rfl, _⟩ := h5
                have HT5 := Lib.hid ht
                clear ht hm5)))
        clear c1 c2 c3 c4
        obtain ⟨Fa5, Fb5, d5, hda5, hdb5, _⟩ := HT5.out
        have HDa5 := Lib.hid hda5
        have HDb5 := Lib.hid hdb5
        clear hda5 hdb5
        have c1 : w5.cell? ⟨H, 1, none⟩ = some (.int .i64 p.at_) := HC5.out.2.1
        go_wp2_with fail
        refine (Read_any HDa5.out p.at_).mono ?_
        rintro e w' ⟨rfl, rfl⟩
        go_wp2_with fail
        refine (Read_any HDb5.out p.at_).mono ?_
        rintro e w' ⟨rfl, rfl⟩
        go_wp2_with fail
        refine (Loose_any HDa5.out).mono ?_
        rintro e w' ⟨rfl, rfl⟩
        go_wp2_with fail
        refine (Loose_any HDb5.out).mono ?_
        rintro e w' ⟨rfl, rfl⟩
        go_wp2_with fail
        refine (Down_any HDa5.out).mono ?_
        rintro e w' ⟨rfl, rfl⟩
        go_wp2_with fail
        refine (Down_any HDb5.out).mono ?_
        rintro e w' ⟨rfl, rfl⟩
        go_wp2_with fail
        go_roundw
        case rel => exact ⟨k + 1, by omega, by go_num, HT5⟩
        case measure => simp [intOf]; omega
      · have c1 : w3.cell? ⟨H, 1, none⟩ = some (.int .i64 p.at_) := HQ.out.2.2.2.2.2.2.1.2.1
        have c2 : w3.cell? ⟨H, 2, none⟩ = some (.int .i64 p.n) := HQ.out.2.2.2.2.2.2.1.2.2.1
        have c3 : w3.cell? ⟨H, 3, none⟩ = some (.string p.s) := HQ.out.2.2.2.2.2.2.1.2.2.2.1
        have c4 : w3.cell? ⟨H, 4, none⟩ = some (.slice p.A p.len p.cap) := HQ.out.2.2.2.2.2.2.1.2.2.2.2
        go_wp2_with fail
        go_region_held3 (fun w' => w'.cell? ⟨H, 1, none⟩ = some (.int .i64 p.at_) ∧ w'.cell? ⟨H, 3, none⟩ = some (.string p.s)) (first | exact ⟨c1, c3⟩ | exact ⟨HC4.out.2.1, HC4.out.2.2.2.1⟩ | exact ⟨HC5.out.2.1, HC5.out.2.2.2.1⟩)
          (first
            | (((with_reducible refine (Write_any HQd.out.1 p.at_ p.s hsz hloose).mono ?_); rintro e w4 h4
                obtain ⟨Fa4, hh, hm4⟩ := half_of HQd.out.2.1 HQ.out.2.2.1 HQ.out.2.2.2.1 HQ.out.2.2.2.2.1 HQd.out.2.2 h4
                have HC4 : Hid (ActCells w4 H 0 p) := Lib.hid (ActCells.moves (w := w3.drew) HQ.out.2.2.2.2.2.2.1 hm4 HQ.out.2.2.2.2.2.2.2.1 HQ.out.2.2.2.2.2.2.2.2.1)
                obtain ⟨rfl, _⟩ := h4
                have HS4 : Hid (H < w4.heap.size) := Lib.hid (Nat.lt_of_lt_of_le HQ.out.2.2.2.2.2.2.2.1 hm4.size)
                have HH := Lib.hid hh
                clear hh hm4))
            | (((with_reducible refine (Write_any HH.out.db p.at_ p.s hsz hloose).mono ?_); rintro e w5 h5
                obtain ⟨ht, hm5⟩ := HH.out.twins (i := k + 1) h5 (by have := writeD_loose d p.at_ p.s.data.toList; have := HLo.out; omega)
                have HC5 : Hid (ActCells w5 H 0 p) := Lib.hid (HC4.out.moves hm5 HS4.out HQ.out.2.2.2.2.2.2.2.2.2)
                obtain ⟨rfl, _⟩ := h5
                have HT5 := Lib.hid ht
                clear ht hm5)))
        clear c1 c2 c3 c4
        obtain ⟨Fa5, Fb5, d5, hda5, hdb5, _⟩ := HT5.out
        have HDa5 := Lib.hid hda5
        have HDb5 := Lib.hid hdb5
        clear hda5 hdb5
        have c1 : w5.cell? ⟨H, 1, none⟩ = some (.int .i64 p.at_) := HC5.out.2.1
        go_wp2_with fail
        refine (Read_any HDa5.out p.at_).mono ?_
        rintro e w' ⟨rfl, rfl⟩
        go_wp2_with fail
        refine (Read_any HDb5.out p.at_).mono ?_
        rintro e w' ⟨rfl, rfl⟩
        go_wp2_with fail
        refine (Loose_any HDa5.out).mono ?_
        rintro e w' ⟨rfl, rfl⟩
        go_wp2_with fail
        refine (Loose_any HDb5.out).mono ?_
        rintro e w' ⟨rfl, rfl⟩
        go_wp2_with fail
        refine (Down_any HDa5.out).mono ?_
        rintro e w' ⟨rfl, rfl⟩
        go_wp2_with fail
        refine (Down_any HDb5.out).mono ?_
        rintro e w' ⟨rfl, rfl⟩
        go_wp2_with fail
        go_roundw
        case rel => exact ⟨k + 1, by omega, by go_num, HT5⟩
        case measure => simp [intOf]; omega
      · have c1 : w3.cell? ⟨H, 1, none⟩ = some (.int .i64 p.at_) := HQ.out.2.2.2.2.2.2.1.2.1
        have c2 : w3.cell? ⟨H, 2, none⟩ = some (.int .i64 p.n) := HQ.out.2.2.2.2.2.2.1.2.2.1
        have c3 : w3.cell? ⟨H, 3, none⟩ = some (.string p.s) := HQ.out.2.2.2.2.2.2.1.2.2.2.1
        have c4 : w3.cell? ⟨H, 4, none⟩ = some (.slice p.A p.len p.cap) := HQ.out.2.2.2.2.2.2.1.2.2.2.2
        go_wp2_with fail
        go_region_held3 (fun w' => w'.cell? ⟨H, 1, none⟩ = some (.int .i64 p.at_) ∧ w'.cell? ⟨H, 3, none⟩ = some (.string p.s)) (first | exact ⟨c1, c3⟩ | exact ⟨HC4.out.2.1, HC4.out.2.2.2.1⟩ | exact ⟨HC5.out.2.1, HC5.out.2.2.2.1⟩)
          (first
            | (((with_reducible refine (Write_any HQd.out.1 p.at_ p.s hsz hloose).mono ?_); rintro e w4 h4
                obtain ⟨Fa4, hh, hm4⟩ := half_of HQd.out.2.1 HQ.out.2.2.1 HQ.out.2.2.2.1 HQ.out.2.2.2.2.1 HQd.out.2.2 h4
                have HC4 : Hid (ActCells w4 H 0 p) := Lib.hid (ActCells.moves (w := w3.drew) HQ.out.2.2.2.2.2.2.1 hm4 HQ.out.2.2.2.2.2.2.2.1 HQ.out.2.2.2.2.2.2.2.2.1)
                obtain ⟨rfl, _⟩ := h4
                have HS4 : Hid (H < w4.heap.size) := Lib.hid (Nat.lt_of_lt_of_le HQ.out.2.2.2.2.2.2.2.1 hm4.size)
                have HH := Lib.hid hh
                clear hh hm4))
            | (((with_reducible refine (Write_any HH.out.db p.at_ p.s hsz hloose).mono ?_); rintro e w5 h5
                obtain ⟨ht, hm5⟩ := HH.out.twins (i := k + 1) h5 (by have := writeD_loose d p.at_ p.s.data.toList; have := HLo.out; omega)
                have HC5 : Hid (ActCells w5 H 0 p) := Lib.hid (HC4.out.moves hm5 HS4.out HQ.out.2.2.2.2.2.2.2.2.2)
                obtain ⟨rfl, _⟩ := h5
                have HT5 := Lib.hid ht
                clear ht hm5)))
        clear c1 c2 c3 c4
        obtain ⟨Fa5, Fb5, d5, hda5, hdb5, _⟩ := HT5.out
        have HDa5 := Lib.hid hda5
        have HDb5 := Lib.hid hdb5
        clear hda5 hdb5
        have c1 : w5.cell? ⟨H, 1, none⟩ = some (.int .i64 p.at_) := HC5.out.2.1
        go_wp2_with fail
        refine (Read_any HDa5.out p.at_).mono ?_
        rintro e w' ⟨rfl, rfl⟩
        go_wp2_with fail
        refine (Read_any HDb5.out p.at_).mono ?_
        rintro e w' ⟨rfl, rfl⟩
        go_wp2_with fail
        refine (Loose_any HDa5.out).mono ?_
        rintro e w' ⟨rfl, rfl⟩
        go_wp2_with fail
        refine (Loose_any HDb5.out).mono ?_
        rintro e w' ⟨rfl, rfl⟩
        go_wp2_with fail
        refine (Down_any HDa5.out).mono ?_
        rintro e w' ⟨rfl, rfl⟩
        go_wp2_with fail
        refine (Down_any HDb5.out).mono ?_
        rintro e w' ⟨rfl, rfl⟩
        go_wp2_with fail
        go_roundw
        case rel => exact ⟨k + 1, by omega, by go_num, HT5⟩
        case measure => simp [intOf]; omega
      · have c1 : w3.cell? ⟨H, 1, none⟩ = some (.int .i64 p.at_) := HQ.out.2.2.2.2.2.2.1.2.1
        have c2 : w3.cell? ⟨H, 2, none⟩ = some (.int .i64 p.n) := HQ.out.2.2.2.2.2.2.1.2.2.1
        have c3 : w3.cell? ⟨H, 3, none⟩ = some (.string p.s) := HQ.out.2.2.2.2.2.2.1.2.2.2.1
        have c4 : w3.cell? ⟨H, 4, none⟩ = some (.slice p.A p.len p.cap) := HQ.out.2.2.2.2.2.2.1.2.2.2.2
        go_wp2_with fail
        go_region_held3 (fun w' => w'.cell? ⟨H, 1, none⟩ = some (.int .i64 p.at_) ∧ w'.cell? ⟨H, 3, none⟩ = some (.string p.s)) (first | exact ⟨c1, c3⟩ | exact ⟨HC4.out.2.1, HC4.out.2.2.2.1⟩ | exact ⟨HC5.out.2.1, HC5.out.2.2.2.1⟩)
          (first
            | (((with_reducible refine (Write_any HQd.out.1 p.at_ p.s hsz hloose).mono ?_); rintro e w4 h4
                obtain ⟨Fa4, hh, hm4⟩ := half_of HQd.out.2.1 HQ.out.2.2.1 HQ.out.2.2.2.1 HQ.out.2.2.2.2.1 HQd.out.2.2 h4
                have HC4 : Hid (ActCells w4 H 0 p) := Lib.hid (ActCells.moves (w := w3.drew) HQ.out.2.2.2.2.2.2.1 hm4 HQ.out.2.2.2.2.2.2.2.1 HQ.out.2.2.2.2.2.2.2.2.1)
                obtain ⟨rfl, _⟩ := h4
                have HS4 : Hid (H < w4.heap.size) := Lib.hid (Nat.lt_of_lt_of_le HQ.out.2.2.2.2.2.2.2.1 hm4.size)
                have HH := Lib.hid hh
                clear hh hm4))
            | (((with_reducible refine (Write_any HH.out.db p.at_ p.s hsz hloose).mono ?_); rintro e w5 h5
                obtain ⟨ht, hm5⟩ := HH.out.twins (i := k + 1) h5 (by have := writeD_loose d p.at_ p.s.data.toList; have := HLo.out; omega)
                have HC5 : Hid (ActCells w5 H 0 p) := Lib.hid (HC4.out.moves hm5 HS4.out HQ.out.2.2.2.2.2.2.2.2.2)
                obtain ⟨rfl, _⟩ := h5
                have HT5 := Lib.hid ht
                clear ht hm5)))
        clear c1 c2 c3 c4
        obtain ⟨Fa5, Fb5, d5, hda5, hdb5, _⟩ := HT5.out
        have HDa5 := Lib.hid hda5
        have HDb5 := Lib.hid hdb5
        clear hda5 hdb5
        have c1 : w5.cell? ⟨H, 1, none⟩ = some (.int .i64 p.at_) := HC5.out.2.1
        go_wp2_with fail
        refine (Read_any HDa5.out p.at_).mono ?_
        rintro e w' ⟨rfl, rfl⟩
        go_wp2_with fail
        refine (Read_any HDb5.out p.at_).mono ?_
        rintro e w' ⟨rfl, rfl⟩
        go_wp2_with fail
        refine (Loose_any HDa5.out).mono ?_
        rintro e w' ⟨rfl, rfl⟩
        go_wp2_with fail
        refine (Loose_any HDb5.out).mono ?_
        rintro e w' ⟨rfl, rfl⟩
        go_wp2_with fail
        refine (Down_any HDa5.out).mono ?_
        rintro e w' ⟨rfl, rfl⟩
        go_wp2_with fail
        refine (Down_any HDb5.out).mono ?_
        rintro e w' ⟨rfl, rfl⟩
        go_wp2_with fail
        go_roundw
        case rel => exact ⟨k + 1, by omega, by go_num, HT5⟩
        case measure => simp [intOf]; omega
    · obtain ⟨_, _, _, _, _, _, _, _, _, hbel⟩ := HT.out
      have HB := Lib.hid hbel
      clear hbel HT
      have hgo2 : k < len → decide ((k : Int) < 40) = false := fun h => by rw [decide_eq_false_iff_not]; omega
      by_cases hkl : k < len
      · have hk40 := hgo2 hkl
        clear hgo2 hgo
        go_wp2_with fail
        refine (DiskAwake_any _).mono ?_
        rintro e w9 ⟨rfl, hb9⟩
        have HB9 : Hid (Below W.heap.size W w9) := Lib.hid (HB.out.trans (hb9.mono HB.out.size))
        clear hb9
        go_wp2_with fail
        go_ret
        exact ⟨rfl, HB9.out⟩
      · have hkl2 : decide (k < len) = false := by simpa using hkl
        clear hgo2 hgo
        go_wp2_with fail
        refine (DiskAwake_any _).mono ?_
        rintro e w9 ⟨rfl, hb9⟩
        have HB9 : Hid (Below W.heap.size W w9) := Lib.hid (HB.out.trans (hb9.mono HB.out.size))
        clear hb9
        go_wp2_with fail
        go_ret
        exact ⟨rfl, HB9.out⟩
end Go.Proofs.Ytnliaiedgaiohaa
