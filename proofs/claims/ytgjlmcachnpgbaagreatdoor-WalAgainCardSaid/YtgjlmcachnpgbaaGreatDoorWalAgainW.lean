/- Two logs over two disks, and the walk of WalAgain. -/
import Derived.Test.YtgjlmcachnpgbaaGreatDoorWalFullW
import Derived.Test.YtgjlmcachnpgbaaGreatDoorWalNum
namespace Go.Proofs.YtgjlmcachnpgbaaGreatDoor
open Go.RowKit

/-- A log like v, on another disk. -/
def WalV.on (v : WalV) (a : Nat) : WalV := { v with disk := a }
theorem on_addE (v : WalV) (a : Nat) (d : DSt) (l : List UInt8) : addE (v.on a) d l = addE v d l := rfl
theorem on_addD (v : WalV) (a : Nat) (d : DSt) (l : List UInt8) : addD (v.on a) d l = addD v d l := rfl
theorem on_addV (v : WalV) (a : Nat) (d : DSt) (l : List UInt8) : addV (v.on a) d l = (addV v d l).on a := by
  unfold addV; rw [on_addE]; split <;> rfl
theorem on_ckE (v : WalV) (a : Nat) (d : DSt) (l : List UInt8) : ckE (v.on a) d l = ckE v d l := rfl
theorem on_ckD (v : WalV) (a : Nat) (d : DSt) (l : List UInt8) : ckD (v.on a) d l = ckD v d l := rfl
theorem on_ckV (v : WalV) (a : Nat) (d : DSt) (l : List UInt8) : ckV (v.on a) d l = (ckV v d l).on a := by
  unfold ckV; rw [on_ckE]; split <;> rfl

/-- A disk on which the log v lies. -/
def Lying (d : DSt) (slot a : Nat) (v : WalV) : Prop := ∃ st rs, LogSt d slot a v st rs
theorem Lying.down {d : DSt} {slot a : Nat} {v : WalV} (h : Lying d slot a v) : v.down = false := by obtain ⟨_, _, h⟩ := h; exact h.found.down
theorem Lying.disk {d : DSt} {slot a : Nat} {v : WalV} (h : Lying d slot a v) : v.disk = a := by obtain ⟨_, _, h⟩ := h; exact h.found.disk
theorem Lying.slot {d : DSt} {slot a : Nat} {v : WalV} (h : Lying d slot a v) : v.slot = slot := by obtain ⟨_, _, h⟩ := h; exact h.found.slot
theorem Lying.loose {d : DSt} {slot a : Nat} {v : WalV} (h : Lying d slot a v) : d.loose = [] := by obtain ⟨_, _, h⟩ := h; exact h.loose

theorem step_add {d : DSt} {slot a : Nat} {v : WalV} (h : Lying d slot a v) {l : List UInt8} (hl : l.length ≤ 100000) :
    addE v d l ≠ 7 ∧ Lying (addD v d l) slot a (addV v d l) ∧ (addD v d l).seen.length = d.seen.length ∧ (addV v d l).num ≤ v.num + 1 := by
  have hdn := h.down
  by_cases h0 : addBad v d.seen.length l = 0
  · obtain ⟨st, rs, h⟩ := h
    obtain ⟨e1, e2, e3, e4⟩ := append_st h h0 hl
    refine ⟨by rw [e1]; decide, ⟨st, _, by rw [e2]; exact e3⟩, e4, ?_⟩
    rw [e2]; unfold WalV.pass; simp
  · obtain ⟨e1, e2, e3⟩ := add_bad (v := v) (d := d) (l := l) rfl h0
    refine ⟨?_, by rw [e2, e3]; exact h, by rw [e2], by rw [e3]; omega⟩
    rw [e1]
    rcases addBad_is (n := d.seen.length) (l := l) hdn h0 with e | e <;> rw [e] <;> decide
theorem ckBad_is {v : WalV} {l : List UInt8} (hd : v.down = false) (h : ckBad v l ≠ 0) : ckBad v l = 5 ∨ ckBad v l = 6 := by
  unfold ckBad at h ⊢
  rw [if_neg (by rw [hd]; simp)] at h ⊢
  split
  · exact Or.inl rfl
  · rename_i h1
    rw [if_neg h1] at h
    split
    · exact Or.inr rfl
    · rename_i h2
      rw [if_neg h2] at h
      exact absurd rfl h
theorem step_ck {d : DSt} {slot a : Nat} {v : WalV} (h : Lying d slot a v) {l : List UInt8} :
    ckE v d l ≠ 7 ∧ Lying (ckD v d l) slot a (ckV v d l) ∧ (ckD v d l).seen.length = d.seen.length ∧ (ckV v d l).num ≤ v.num + 1 := by
  have hdn := h.down
  by_cases h0 : ckBad v l = 0
  · obtain ⟨st, rs, h⟩ := h
    obtain ⟨e1, e2, e3, e4⟩ := ck_st h h0
    refine ⟨by rw [e1]; decide, ⟨l, _, by rw [e2]; exact e3⟩, e4, ?_⟩
    rw [e2]; show v.num ≤ _; omega
  · obtain ⟨e1, e2, e3⟩ := ck_bad (v := v) (d := d) (l := l) rfl h0
    refine ⟨?_, by rw [e2, e3]; exact h, by rw [e2], by rw [e3]; omega⟩
    rw [e1]
    rcases ckBad_is (l := l) hdn h0 with e | e <;> rw [e] <;> decide

/-- Two logs, apart. -/
structure TwoAt (W w : World) (F1 F2 : Nat → Prop) (b1 b2 : Nat) (v1 v2 : WalV) (d1 d2 : DSt) : Prop where
  l1 : LogAt w F1 b1 v1 d1
  l2 : LogAt w F2 b2 v2 d2
  n1 : ¬ F1 b1
  n2 : ¬ F2 b2
  x1 : ¬ F1 b2
  x2 : ¬ F2 b1
  ne : b1 ≠ b2
  far : ∀ j, F1 j → ¬ F2 j
  low1 : ∀ j, F1 j → W.heap.size ≤ j
  low2 : ∀ j, F2 j → W.heap.size ≤ j
  lb1 : W.heap.size ≤ b1
  lb2 : W.heap.size ≤ b2
  bel : Below W.heap.size W w
theorem TwoAt.swap {W w : World} {F1 F2 : Nat → Prop} {b1 b2 : Nat} {v1 v2 : WalV} {d1 d2 : DSt} (h : TwoAt W w F1 F2 b1 b2 v1 v2 d1 d2) : TwoAt W w F2 F1 b2 b1 v2 v1 d2 d1 :=
  ⟨h.l2, h.l1, h.n2, h.n1, h.x2, h.x1, h.ne.symm, fun j h2 h1 => h.far j h1 h2, h.low2, h.low1, h.lb2, h.lb1, h.bel⟩
theorem TwoAt.later {W w w' : World} {F1 F2 : Nat → Prop} {b1 b2 : Nat} {v1 v2 : WalV} {d1 d2 : DSt} (h : TwoAt W w F1 F2 b1 b2 v1 v2 d1 d2) (hb : Below w.heap.size w w') : TwoAt W w' F1 F2 b1 b2 v1 v2 d1 d2 :=
  { h with l1 := h.l1.later hb, l2 := h.l2.later hb, bel := h.bel.trans (hb.mono h.bel.size) }
/-- Behind a call on the first. -/
theorem TwoAt.call {W w w' : World} {F1 F2 F' : Nat → Prop} {b1 b2 : Nat} {v1 v2 v' : WalV} {d1 d2 d' : DSt} (h : TwoAt W w F1 F2 b1 b2 v1 v2 d1 d2)
    (hL : LogAt w' F' b1 v' d') (hn : ¬ F' b1) (hm : Moves (fun q => F1 q ∨ q = b1) w w') (hF : ∀ j, F' j → F1 j ∨ w.heap.size ≤ j) : TwoAt W w' F' F2 b1 b2 v' v2 d' d2 := by
  have hl2 := heap_lt h.l2.wal
  refine ⟨hL, ⟨?_, h.l2.disk.kept hm (fun k hk hf => ?_), h.l2.ok⟩, hn, h.n2, fun hf => ?_, h.x2, h.ne, fun j hj h2 => ?_, fun j hj => ?_, h.low2, h.lb1, h.lb2, ?_⟩
  · exact (hm.block b2 hl2 (fun e => by
      rcases e with e | e
      · exact h.x1 e
      · exact h.ne e.symm)).trans h.l2.wal
  · rcases hk with e | e
    · exact h.far k e hf
    · exact h.x2 (e ▸ hf)
  · rcases hF b2 hf with e | e
    · exact h.x1 e
    · omega
  · rcases hF j hj with e | e
    · exact h.far j e h2
    · have := h.l2.disk.low j h2
      omega
  · rcases hF j hj with e | e
    · exact h.low1 j e
    · exact Nat.le_trans h.bel.size e
  · exact h.bel.trans (hm.below (B := W.heap.size) h.bel.size (fun j hj => by
      rcases hj with e | e
      · exact h.low1 j e
      · rw [e]; exact h.lb1))
/-- The first log is opened anew, in a later world. -/
theorem TwoAt.opened {W w w' : World} {F1 F2 : Nat → Prop} {b1 b2 b' : Nat} {v1 v2 : WalV} {d1 d2 : DSt} (h : TwoAt W w F1 F2 b1 b2 v1 v2 d1 d2)
    (hL : LogAt w' F1 b' v1 d1) (hb : Below w.heap.size w w') (hl : w.heap.size ≤ b') : TwoAt W w' F1 F2 b' b2 v1 v2 d1 d2 := by
  have h2 := heap_lt h.l2.wal
  refine { h.later hb with l1 := hL, n1 := fun hf => ?_, x2 := fun hf => ?_, ne := by omega, lb1 := Nat.le_trans h.bel.size hl }
  · have := h.l1.disk.low _ hf; omega
  · have := h.l2.disk.low _ hf; omega

/-- An answer is an error of this number. -/
def NumIs (w : World) (q : Value) (k : Int) : Prop := Calls Tryz.prog 17 #[q] w (NumEnd w k)
theorem numIs_of {w : World} {k : Int} {e : Ending} {call : ByteArray} (hg : ErrCell w) (h : if k = 0 then e = .returned .nilIface else ∃ b, e = .returned (.iface 74 (.pointer (some ⟨b, 0, none⟩))) ∧ w.heap[b]? = some (.cells (faultV call k) 76 (0, 0))) :
    ∃ q, e = .returned q ∧ NumIs w q k := by
  by_cases hk : k = 0
  · rw [if_pos hk] at h
    exact ⟨_, h, by rw [hk]; exact num_nil w⟩
  · rw [if_neg hk] at h
    obtain ⟨b, he, hf⟩ := h
    exact ⟨_, he, num_fault b call k hg hf⟩

/-- Append on the first of two logs. -/
theorem append_two {W w : World} {F1 F2 : Nat → Prop} {b1 b2 slot a : Nat} {v1 v2 : WalV} {d1 d2 : DSt} (h : TwoAt W w F1 F2 b1 b2 v1 v2 d1 d2) (hg : ErrCell W) (hs : Lying d1 slot a v1) {l : List UInt8} (hl : l.length ≤ 100000) :
    Calls Tryz.prog 24 #[.pointer (some ⟨b1, 0, none⟩), .string (str l)] w fun e w' => ∃ q F', e = .returned q ∧ NumIs w' q (addE v1 d1 l) ∧ TwoAt W w' F' F2 b1 b2 (addV v1 d1 l) v2 (addD v1 d1 l) d2 := by
  refine (Append_any h.l1 h.n1 l hl (by rw [hs.loose]; simp)).mono ?_
  rintro e w' ⟨he, F', hL, hn, hm, hF⟩
  rw [if_neg (step_add hs hl).1] at hL
  have h' := h.call hL hn hm hF
  obtain ⟨q, e1, e2⟩ := numIs_of (hg.below h'.bel hg.pos) he
  exact ⟨q, F', e1, e2, h'⟩
theorem ck_two {W w : World} {F1 F2 : Nat → Prop} {b1 b2 slot a : Nat} {v1 v2 : WalV} {d1 d2 : DSt} (h : TwoAt W w F1 F2 b1 b2 v1 v2 d1 d2) (hg : ErrCell W) (hs : Lying d1 slot a v1) {l : List UInt8} (hl : l.length ≤ 100000) :
    Calls Tryz.prog 18 #[.pointer (some ⟨b1, 0, none⟩), .string (str l)] w fun e w' => ∃ q F', e = .returned q ∧ NumIs w' q (ckE v1 d1 l) ∧ TwoAt W w' F' F2 b1 b2 (ckV v1 d1 l) v2 (ckD v1 d1 l) d2 := by
  refine (Checkpoint_any h.l1 h.n1 l hl (by rw [hs.loose]; simp)).mono ?_
  rintro e w' ⟨he, F', hL, hn, hm, hF⟩
  rw [if_neg (step_ck hs).1] at hL
  have h' := h.call hL hn hm hF
  obtain ⟨q, e1, e2⟩ := numIs_of (hg.below h'.bel hg.pos) he
  exact ⟨q, F', e1, e2, h'⟩
end Go.Proofs.YtgjlmcachnpgbaaGreatDoor
namespace Go.Proofs.YtgjlmcachnpgbaaGreatDoor
open Go.RowKit
theorem below_drewT (w : World) : Below w.heap.size w w.drew := (Below.refl _ _).drew
set_option maxHeartbeats 8000000 in
set_option maxRecDepth 100000 in
theorem WalAgain_walk {w : World} {A : Option Addr} {c : Nat} {l : List Act6} (x y : Int) (h : ActsAt w w.heap.size A l) (hg : ErrCell w) :
    Calls Tryz.prog 7 #[.int .i64 x, .int .i64 y, .slice A l.length c] w fun e w' => e = .returned (.bool true) ∧ Below w.heap.size w w' := by
  have HV := Lib.hid h
  have HG := Lib.hid hg
  obtain ⟨hs1, hs2⟩ := szS_lt x
  obtain ⟨hm1, hm2⟩ := szM_lt y
  have HSz : Hid (Calls Tryz.prog 9 #[.int .i64 x, .int .i64 y] w fun e w' => e = .returned (.tuple #[.int .i64 (szS x), .int .i64 (szM y)]) ∧ w = w') := Lib.hid (sizes_any x y w)
  generalize szS x = s at *
  generalize szM y = m at *
  obtain ⟨n, hn⟩ : ∃ n, 2 * s + m = n := ⟨_, rfl⟩
  have hn4 : n ≤ 4096 := by omega
  have hnI : 2 * (s : Int) + (m : Int) = (n : Int) := by omega
  have HNew : Hid (∀ w, Calls Tryz.prog 10 #[.int .i64 (2 * (s : Int) + (m : Int))] w (NewEnd n w)) := Lib.hid (fun w => by rw [hnI]; exact New_ok n w (by omega) hn4)
  have HNs : Hid (∀ a, LogSt (DSt.new n) s a ⟨a, s, 0, 1, 0, 0, false⟩ [] [] ∧ (DSt.new n).seen.length = n) := Lib.hid (fun a => by
    have := new_st s m a hs1 hm1 (by omega)
    rw [hn] at this
    exact this)
  have HNI := Lib.hid hnI
  obtain ⟨ln, hln⟩ : ∃ ln, l.length = ln := ⟨_, rfl⟩
  have HLn := Lib.hid hln
  have HFew : Hid (∀ w1 c, Below w.heap.size w w1 → Calls Tryz.prog 15 #[.slice A ln c, .int .i64 30] w1 (FewEnd l 30 w1)) := Lib.hid (fun w1 c hb => by
    rw [← hln]
    have hv := HV.out
    have : ActsAt w1 w1.heap.size A l := by
      rcases hv with e | ⟨b, off, hA, hlt, hc⟩
      · exact .inl e
      · refine .inr ⟨b, off, hA, Nat.lt_of_lt_of_le hlt hb.size, fun i hi => ?_⟩
        obtain ⟨h0, h1, h2, h3⟩ := hc i hi
        exact ⟨(hb.cell (p := ⟨b, off + i * 4, none⟩) hlt).trans h0, (hb.cell (p := ⟨b, off + i * 4 + 1, none⟩) hlt).trans h1, (hb.cell (p := ⟨b, off + i * 4 + 2, none⟩) hlt).trans h2, (hb.cell (p := ⟨b, off + i * 4 + 3, none⟩) hlt).trans h3⟩
    exact few_any this 30 (by omega))
  rw [hln]
  clear h hn hnI hln hg
  go_enter Tryz.func7, Tryz.ntmps7
  go_wp2_with fail
  refine HSz.out.mono ?_
  rintro e w' ⟨rfl, rfl⟩
  go_wp2_with fail
  refine (HNew.out _).mono ?_
  rintro e w1 ⟨a1, F1, rfl, hd1, hF1, hb1⟩
  have HD1 := Lib.hid hd1
  have HF1 := Lib.hid hF1
  have HB1 := Lib.hid hb1
  clear hd1 hF1 hb1
  go_wp2_with fail
  refine (HNew.out _).mono ?_
  rintro e w2 ⟨a2, F2, rfl, hd2, hF2, hb2⟩
  have HD2 := Lib.hid hd2
  have HF2 := Lib.hid hF2
  have HB2 := Lib.hid hb2
  have HD12 : Hid (IsDisk w2 F1 a1 (DSt.new n)) := Lib.hid (HD1.out.below hb2)
  clear hd2 hF2 hb2 HNew HSz
  go_wp2_with fail
  refine (Open_st HD12.out (HNs.out a1).1).mono ?_
  rintro e w3 ⟨b1, A3, c3, rfl, _, _, hL3, hb3, hw3⟩
  have HL3 := Lib.hid hL3
  have HB3 := Lib.hid hb3
  have HW3 := Lib.hid hw3
  clear hL3 hb3 hw3
  simp only [List.length_nil]
  have HD23 : Hid (IsDisk w3 F2 a2 (DSt.new n)) := Lib.hid (HD2.out.below HB3.out)
  go_wp2_with fail
  refine (Open_st HD23.out (HNs.out a2).1).mono ?_
  rintro e w4 ⟨b2, A4, c4, rfl, _, _, hL4, hb4, hw4⟩
  have HT0 : Hid (TwoAt w w4 F1 F2 b1 b2 ⟨a1, s, 0, 1, 0, 0, false⟩ ((⟨a1, s, 0, 1, 0, 0, false⟩ : WalV).on a2) (DSt.new n) (DSt.new n)) := Lib.hid (by
    have k1 := HB1.out.size
    have k2 := HB2.out.size
    have k3 := HB3.out.size
    have k4 := hb4.size
    have k5 := HW3.out
    have k6 := heap_lt HL3.out.wal
    exact ⟨HL3.out.later hb4, hL4, fun hf => by have := HD1.out.low _ hf; omega, fun hf => by have := HD2.out.low _ hf; omega, fun hf => by have := HD1.out.low _ hf; omega, fun hf => by have := HD2.out.low _ hf; omega, by omega,
      fun j h1 h2 => by have := HD1.out.low _ h1; have := HF2.out j h2; omega, fun j hj => HF1.out j hj, fun j hj => by have := HF2.out j hj; omega, by omega, by omega,
      HB1.out.trans ((HB2.out.mono k1).trans ((HB3.out.mono (by omega)).trans (hb4.mono (by omega))))⟩)
  clear hL4 hb4 hw4 HL3 HB3 HW3 HD1 HD2 HF1 HF2 HB1 HB2 HD12 HD23
  simp only [List.length_nil]
  go_wp2_with fail
  refine (HFew.out _ _ HT0.out.bel).mono ?_
  rintro e w' ⟨nn, rfl, hnl, hn30, hfw, rfl⟩
  have HFw := Lib.hid hfw
  rw [show l.length = ln from HLn.out] at hnl
  clear hfw HFew
  go_wp2_with fail
  generalize w4 = w40 at *
  go_loopg [14, 15, 20] nn (fun kx s14 s15 s20 wr => ∃ (k b2 : Nat) (d : DSt) (v : WalV) (F1 F2 : Nat → Prop), s14 = .nilIface ∧ s15 = .pointer (some ⟨b2, 0, none⟩) ∧ s20 = .int .i64 k ∧ k ≤ nn ∧ nn - k ≤ kx ∧ Hid (Lying d s a1 v) ∧ Hid (Lying d s a2 (v.on a2)) ∧ Hid (d.seen.length = n) ∧ Hid (TwoAt w wr F1 F2 b1 b2 v (v.on a2) d d))
  case atStart => exact ⟨0, b2, DSt.new n, ⟨a1, s, 0, 1, 0, 0, false⟩, F1, F2, rfl, rfl, rfl, Nat.zero_le _, by omega, Lib.hid ⟨_, _, (HNs.out a1).1⟩, Lib.hid ⟨_, _, (HNs.out a2).1⟩, Lib.hid (HNs.out a1).2, HT0⟩
  case round =>
    clear HT0
    obtain ⟨k, b2, d, v, F1, F2, rfl, rfl, rfl, hk, hkx, HLy1, HLy2, HDn, HT⟩ := hrel
    by_cases hlt : k < nn
    · have hltz : (k : Int) < (nn : Int) := by omega
      have hkl : k < l.length := by rw [HLn.out]; omega
      obtain ⟨bb, off, hA, hbl, x0, x1, x2, x3⟩ := HV.out.at_ HT.out.bel hkl
      have hX6 := (HFw.out k hkl hlt).1
      subst hA
      have HC2 : Hid (∀ w', Below w.heap.size w w' → w'.cell? ⟨bb, off + k * 4 + 2, none⟩ = some (.string l[k].s)) := Lib.hid (fun w' hb => by
        obtain ⟨bb', off', hA', _, _, _, y2, _⟩ := HV.out.at_ hb hkl
        cases hA'
        exact y2)
      generalize l[k] = X at x0 x1 x2 x3 hX6 HC2
      obtain ⟨xk, xn, xs, xA, xc, xb⟩ := X
      simp only at x0 x1 x2 x3 hX6 HC2
      obtain ⟨L, rfl⟩ : ∃ L, xs = str L := ⟨xs.data.toList, (str_of xs).symm⟩
      rw [str_size] at hX6
      have hL5 : L.length ≤ 100000 := by omega
      obtain ⟨S, hS⟩ : ∃ S, str L = S := ⟨_, rfl⟩
      have HS := Lib.hid hS
      rw [hS] at x2 HC2
      have HKd : Hid (∀ w', Calls Tryz.prog 16 #[.agg #[.int .i64 xk, .int .i64 xn, .string S, .slice xA xb.length xc]] w' fun e w'' => e = .returned (.int .i64 (kind6 xk : Nat)) ∧ Below w'.heap.size w' w'') := Lib.hid (fun w' => kind6_any ⟨xk, xn, S, xA, xc, xb⟩ w')
      generalize kind6 xk = kq at *
      have hk0 : (0 : Int) ≤ (k : Int) := Int.natCast_nonneg _
      have hkn : (k : Int) < (ln : Int) := by have := HLn.out; omega
      clear hS
      go_wp2_with fail
      refine (HKd.out _).mono ?_
      rintro e wA ⟨rfl, hbA⟩
      have HTA := Lib.hid (HT.out.later hbA)
      clear hbA x0 x1 x2 x3 HT HKd
      by_cases hq : kq = 3
      · have hqz : (kq : Int) = 3 := by omega
        obtain ⟨κ, hκ⟩ : ∃ κ, ckE v d L = κ := ⟨_, rfl⟩
        obtain ⟨v', hv'⟩ : ∃ v', ckV v d L = v' := ⟨_, rfl⟩
        obtain ⟨d', hd'⟩ : ∃ d', ckD v d L = d' := ⟨_, rfl⟩
        have HH1 : Hid (∀ w1, TwoAt w w1 F1 F2 b1 b2 v (v.on a2) d d → Calls Tryz.prog 18 #[.pointer (some ⟨b1, 0, none⟩), .string S] w1 fun e w'' => ∃ q F', e = .returned q ∧ NumIs w'' q κ ∧ TwoAt w w'' F' F2 b1 b2 v' (v.on a2) d' d) := Lib.hid (fun w1 ht => by
          rw [← HS.out, ← hκ, ← hv', ← hd']
          exact ck_two ht HG.out HLy1.out hL5)
        have HH2 : Hid (∀ w1 F', TwoAt w w1 F' F2 b1 b2 v' (v.on a2) d' d → Calls Tryz.prog 18 #[.pointer (some ⟨b2, 0, none⟩), .string S] w1 fun e w'' => ∃ q F'', e = .returned q ∧ NumIs w'' q κ ∧ TwoAt w w'' F' F'' b1 b2 v' (v'.on a2) d' d') := Lib.hid (fun w1 F' ht => by
          have := ck_two ht.swap HG.out HLy2.out hL5
          rw [on_ckE, on_ckD, on_ckV, hκ, hv', hd', HS.out] at this
          refine this.mono ?_
          rintro e w'' ⟨q, F'', e1, e2, e3⟩
          exact ⟨q, F'', e1, e2, e3.swap⟩)
        have HLy1' : Hid (Lying d' s a1 v') := Lib.hid (by have := (step_ck HLy1.out (l := L)).2.1; rwa [hv', hd'] at this)
        have HLy2' : Hid (Lying d' s a2 (v'.on a2)) := Lib.hid (by have := (step_ck HLy2.out (l := L)).2.1; rwa [on_ckD, on_ckV, hv', hd'] at this)
        have HDn' : Hid (d'.seen.length = n) := Lib.hid (by have := (step_ck HLy1.out (l := L)).2.2.1; rw [hd'] at this; exact this.trans HDn.out)
        have HTd : Hid (TwoAt w wA.drew F1 F2 b1 b2 v (v.on a2) d d) := Lib.hid (HTA.out.later (below_drewT wA))
        have cA : wA.cell? ⟨bb, off + k * 4 + 2, none⟩ = some (.string S) := HC2.out _ HTA.out.bel
        clear hκ hv' hd'
        go_wp2_with fail
        go_region_held3 (fun w' => w'.cell? ⟨bb, off + k * 4 + 2, none⟩ = some (.string S)) (first | exact cA | exact HCd1.out | exact HCd2.out | exact HCd3.out | exact HCd4.out)
          (first
            | (((with_reducible refine (HH1.out _ HTd.out).mono ?_); rintro e wB ⟨q1, G1, rfl, hq1, hT1⟩
                have HQ1 : Hid (Calls Tryz.prog 17 #[q1] wB (NumEnd wB κ)) := Lib.hid hq1
                have HT1 := Lib.hid hT1
                have HCd1 : Hid (wB.cell? ⟨bb, off + k * 4 + 2, none⟩ = some (.string S)) := Lib.hid (HC2.out _ hT1.bel)
                clear hq1 hT1))
            | (((with_reducible refine Calls.mono HQ1.out ?_); rintro e wC ⟨rfl, hbC⟩
                have HT2 := Lib.hid (HT1.out.later hbC)
                have HCd2 : Hid (wC.cell? ⟨bb, off + k * 4 + 2, none⟩ = some (.string S)) := Lib.hid (HC2.out _ HT2.out.bel)
                clear hbC))
            | (((with_reducible refine (HH2.out _ _ HT2.out).mono ?_); rintro e wD ⟨q2, G2, rfl, hq2, hT3⟩
                have HQ2 : Hid (Calls Tryz.prog 17 #[q2] wD (NumEnd wD κ)) := Lib.hid hq2
                have HT3 := Lib.hid hT3
                have HCd3 : Hid (wD.cell? ⟨bb, off + k * 4 + 2, none⟩ = some (.string S)) := Lib.hid (HC2.out _ hT3.bel)
                clear hq2 hT3))
            | (((with_reducible refine Calls.mono HQ2.out ?_); rintro e wE ⟨rfl, hbE⟩
                have HT4 := Lib.hid (HT3.out.later hbE)
                have HCd4 : Hid (wE.cell? ⟨bb, off + k * 4 + 2, none⟩ = some (.string S)) := Lib.hid (HC2.out _ HT4.out.bel)
                clear hbE)))
        have HOp : Hid (Calls Tryz.prog 12 #[.pointer (some ⟨a2, 0, none⟩), .int .i64 s] wE fun e w' => ∃ b3 Z r cz A9, e = .returned (.tuple #[.pointer (some ⟨b3, 0, none⟩), .string Z, .slice A9 r cz, .nilIface]) ∧ TwoAt w w' G1 G2 b1 b3 v' (v'.on a2) d' d') := Lib.hid (by
          obtain ⟨st, rs, hst⟩ := HLy2'.out
          have hD : IsDisk wE G2 a2 d' := HT4.out.l2.disk
          refine (Open_st hD hst).mono ?_
          rintro e w' ⟨b9, A9, c9, he, _, _, hL, hb, hle⟩
          exact ⟨b9, _, _, _, A9, he, (HT4.out.swap.opened hL hb hle).swap⟩)
        go_wp2_with fail
        refine HOp.out.mono ?_
        rintro e w5 ⟨b3, Z3, r3, z3, A9, rfl, hT5⟩
        have HT5 := Lib.hid hT5
        clear hT5 HOp
        obtain ⟨ρ, hρ⟩ : ∃ ρ, roomE d'.seen.length v'.slot v'.used = ρ := ⟨_, rfl⟩
        obtain ⟨ν, hν⟩ : ∃ ν, v'.num = ν := ⟨_, rfl⟩
        obtain ⟨γ, hγ⟩ : ∃ γ, v'.gen = γ := ⟨_, rfl⟩
        have HRo1 : Hid (∀ w', TwoAt w w' G1 G2 b1 b3 v' (v'.on a2) d' d' → Calls Tryz.prog 28 #[.pointer (some ⟨b1, 0, none⟩)] w' fun e w'' => e = .returned (.int .i64 ρ) ∧ Below w'.heap.size w' w'') := Lib.hid (fun w' ht => by rw [← hρ]; exact Room_later ht.l1)
        have HRo2 : Hid (∀ w', TwoAt w w' G1 G2 b1 b3 v' (v'.on a2) d' d' → Calls Tryz.prog 28 #[.pointer (some ⟨b3, 0, none⟩)] w' fun e w'' => e = .returned (.int .i64 ρ) ∧ Below w'.heap.size w' w'') := Lib.hid (fun w' ht => by rw [← hρ]; have := Room_later ht.l2; exact this)
        have HNu1 : Hid (∀ w', TwoAt w w' G1 G2 b1 b3 v' (v'.on a2) d' d' → Calls Tryz.prog 26 #[.pointer (some ⟨b1, 0, none⟩)] w' fun e w'' => e = .returned (.int .i64 ν) ∧ w' = w'') := Lib.hid (fun w' ht => by rw [← hν]; exact Number_anyW ht.l1.wal)
        have HNu2 : Hid (∀ w', TwoAt w w' G1 G2 b1 b3 v' (v'.on a2) d' d' → Calls Tryz.prog 26 #[.pointer (some ⟨b3, 0, none⟩)] w' fun e w'' => e = .returned (.int .i64 ν) ∧ w' = w'') := Lib.hid (fun w' ht => by rw [← hν]; have := Number_anyW ht.l2.wal; exact this)
        have HGe1 : Hid (∀ w', TwoAt w w' G1 G2 b1 b3 v' (v'.on a2) d' d' → Calls Tryz.prog 27 #[.pointer (some ⟨b1, 0, none⟩)] w' fun e w'' => e = .returned (.int .i64 γ) ∧ w' = w'') := Lib.hid (fun w' ht => by rw [← hγ]; exact Generation_any ht.l1.wal)
        have HGe2 : Hid (∀ w', TwoAt w w' G1 G2 b1 b3 v' (v'.on a2) d' d' → Calls Tryz.prog 27 #[.pointer (some ⟨b3, 0, none⟩)] w' fun e w'' => e = .returned (.int .i64 γ) ∧ w' = w'') := Lib.hid (fun w' ht => by rw [← hγ]; have := Generation_any ht.l2.wal; exact this)
        have hρρ : (ρ != ρ) = false := by simp
        have hνν : (ν != ν) = false := by simp
        have hγγ : (γ != γ) = false := by simp
        clear hρ hν hγ
        go_wp2_with fail
        refine (HRo1.out _ HT5.out).mono ?_
        rintro e w6 ⟨rfl, hb6⟩
        have HT6 := Lib.hid (HT5.out.later hb6)
        clear hb6
        go_wp2_with fail
        refine (HRo2.out _ HT6.out).mono ?_
        rintro e w7 ⟨rfl, hb7⟩
        have HT7 := Lib.hid (HT6.out.later hb7)
        clear hb7
        go_wp2_with fail
        refine (HNu1.out _ HT7.out).mono ?_
        rintro e w' ⟨rfl, rfl⟩
        go_wp2_with fail
        refine (HNu2.out _ HT7.out).mono ?_
        rintro e w' ⟨rfl, rfl⟩
        go_wp2_with fail
        refine (HGe1.out _ HT7.out).mono ?_
        rintro e w' ⟨rfl, rfl⟩
        go_wp2_with fail
        refine (HGe2.out _ HT7.out).mono ?_
        rintro e w' ⟨rfl, rfl⟩
        go_wp2_with fail
        go_roundg (nn - (k + 1))
        case measure => omega
        case rel => exact ⟨k + 1, b3, d', v', G1, G2, rfl, rfl, by go_num, by omega, Nat.le_refl _, HLy1', HLy2', HDn', HT7⟩
      · have hqz : ¬ (kq : Int) = 3 := by omega
        obtain ⟨κ, hκ⟩ : ∃ κ, addE v d L = κ := ⟨_, rfl⟩
        obtain ⟨v', hv'⟩ : ∃ v', addV v d L = v' := ⟨_, rfl⟩
        obtain ⟨d', hd'⟩ : ∃ d', addD v d L = d' := ⟨_, rfl⟩
        have HH1 : Hid (∀ w1, TwoAt w w1 F1 F2 b1 b2 v (v.on a2) d d → Calls Tryz.prog 24 #[.pointer (some ⟨b1, 0, none⟩), .string S] w1 fun e w'' => ∃ q F', e = .returned q ∧ NumIs w'' q κ ∧ TwoAt w w'' F' F2 b1 b2 v' (v.on a2) d' d) := Lib.hid (fun w1 ht => by
          rw [← HS.out, ← hκ, ← hv', ← hd']
          exact append_two ht HG.out HLy1.out hL5)
        have HH2 : Hid (∀ w1 F', TwoAt w w1 F' F2 b1 b2 v' (v.on a2) d' d → Calls Tryz.prog 24 #[.pointer (some ⟨b2, 0, none⟩), .string S] w1 fun e w'' => ∃ q F'', e = .returned q ∧ NumIs w'' q κ ∧ TwoAt w w'' F' F'' b1 b2 v' (v'.on a2) d' d') := Lib.hid (fun w1 F' ht => by
          have := append_two ht.swap HG.out HLy2.out hL5
          rw [on_addE, on_addD, on_addV, hκ, hv', hd', HS.out] at this
          refine this.mono ?_
          rintro e w'' ⟨q, F'', e1, e2, e3⟩
          exact ⟨q, F'', e1, e2, e3.swap⟩)
        have HLy1' : Hid (Lying d' s a1 v') := Lib.hid (by have := (step_add HLy1.out hL5).2.1; rwa [hv', hd'] at this)
        have HLy2' : Hid (Lying d' s a2 (v'.on a2)) := Lib.hid (by have := (step_add HLy2.out hL5).2.1; rwa [on_addD, on_addV, hv', hd'] at this)
        have HDn' : Hid (d'.seen.length = n) := Lib.hid (by have := (step_add HLy1.out hL5).2.2.1; rw [hd'] at this; exact this.trans HDn.out)
        have HTd : Hid (TwoAt w wA.drew F1 F2 b1 b2 v (v.on a2) d d) := Lib.hid (HTA.out.later (below_drewT wA))
        have cA : wA.cell? ⟨bb, off + k * 4 + 2, none⟩ = some (.string S) := HC2.out _ HTA.out.bel
        clear hκ hv' hd'
        go_wp2_with fail
        go_region_held3 (fun w' => w'.cell? ⟨bb, off + k * 4 + 2, none⟩ = some (.string S)) (first | exact cA | exact HCd1.out | exact HCd2.out | exact HCd3.out | exact HCd4.out)
          (first
            | (((with_reducible refine (HH1.out _ HTd.out).mono ?_); rintro e wB ⟨q1, G1, rfl, hq1, hT1⟩
                have HQ1 : Hid (Calls Tryz.prog 17 #[q1] wB (NumEnd wB κ)) := Lib.hid hq1
                have HT1 := Lib.hid hT1
                have HCd1 : Hid (wB.cell? ⟨bb, off + k * 4 + 2, none⟩ = some (.string S)) := Lib.hid (HC2.out _ hT1.bel)
                clear hq1 hT1))
            | (((with_reducible refine Calls.mono HQ1.out ?_); rintro e wC ⟨rfl, hbC⟩
                have HT2 := Lib.hid (HT1.out.later hbC)
                have HCd2 : Hid (wC.cell? ⟨bb, off + k * 4 + 2, none⟩ = some (.string S)) := Lib.hid (HC2.out _ HT2.out.bel)
                clear hbC))
            | (((with_reducible refine (HH2.out _ _ HT2.out).mono ?_); rintro e wD ⟨q2, G2, rfl, hq2, hT3⟩
                have HQ2 : Hid (Calls Tryz.prog 17 #[q2] wD (NumEnd wD κ)) := Lib.hid hq2
                have HT3 := Lib.hid hT3
                have HCd3 : Hid (wD.cell? ⟨bb, off + k * 4 + 2, none⟩ = some (.string S)) := Lib.hid (HC2.out _ hT3.bel)
                clear hq2 hT3))
            | (((with_reducible refine Calls.mono HQ2.out ?_); rintro e wE ⟨rfl, hbE⟩
                have HT4 := Lib.hid (HT3.out.later hbE)
                have HCd4 : Hid (wE.cell? ⟨bb, off + k * 4 + 2, none⟩ = some (.string S)) := Lib.hid (HC2.out _ HT4.out.bel)
                clear hbE)))
        have HOp : Hid (Calls Tryz.prog 12 #[.pointer (some ⟨a2, 0, none⟩), .int .i64 s] wE fun e w' => ∃ b3 Z r cz A9, e = .returned (.tuple #[.pointer (some ⟨b3, 0, none⟩), .string Z, .slice A9 r cz, .nilIface]) ∧ TwoAt w w' G1 G2 b1 b3 v' (v'.on a2) d' d') := Lib.hid (by
          obtain ⟨st, rs, hst⟩ := HLy2'.out
          have hD : IsDisk wE G2 a2 d' := HT4.out.l2.disk
          refine (Open_st hD hst).mono ?_
          rintro e w' ⟨b9, A9, c9, he, _, _, hL, hb, hle⟩
          exact ⟨b9, _, _, _, A9, he, (HT4.out.swap.opened hL hb hle).swap⟩)
        go_wp2_with fail
        refine HOp.out.mono ?_
        rintro e w5 ⟨b3, Z3, r3, z3, A9, rfl, hT5⟩
        have HT5 := Lib.hid hT5
        clear hT5 HOp
        obtain ⟨ρ, hρ⟩ : ∃ ρ, roomE d'.seen.length v'.slot v'.used = ρ := ⟨_, rfl⟩
        obtain ⟨ν, hν⟩ : ∃ ν, v'.num = ν := ⟨_, rfl⟩
        obtain ⟨γ, hγ⟩ : ∃ γ, v'.gen = γ := ⟨_, rfl⟩
        have HRo1 : Hid (∀ w', TwoAt w w' G1 G2 b1 b3 v' (v'.on a2) d' d' → Calls Tryz.prog 28 #[.pointer (some ⟨b1, 0, none⟩)] w' fun e w'' => e = .returned (.int .i64 ρ) ∧ Below w'.heap.size w' w'') := Lib.hid (fun w' ht => by rw [← hρ]; exact Room_later ht.l1)
        have HRo2 : Hid (∀ w', TwoAt w w' G1 G2 b1 b3 v' (v'.on a2) d' d' → Calls Tryz.prog 28 #[.pointer (some ⟨b3, 0, none⟩)] w' fun e w'' => e = .returned (.int .i64 ρ) ∧ Below w'.heap.size w' w'') := Lib.hid (fun w' ht => by rw [← hρ]; have := Room_later ht.l2; exact this)
        have HNu1 : Hid (∀ w', TwoAt w w' G1 G2 b1 b3 v' (v'.on a2) d' d' → Calls Tryz.prog 26 #[.pointer (some ⟨b1, 0, none⟩)] w' fun e w'' => e = .returned (.int .i64 ν) ∧ w' = w'') := Lib.hid (fun w' ht => by rw [← hν]; exact Number_anyW ht.l1.wal)
        have HNu2 : Hid (∀ w', TwoAt w w' G1 G2 b1 b3 v' (v'.on a2) d' d' → Calls Tryz.prog 26 #[.pointer (some ⟨b3, 0, none⟩)] w' fun e w'' => e = .returned (.int .i64 ν) ∧ w' = w'') := Lib.hid (fun w' ht => by rw [← hν]; have := Number_anyW ht.l2.wal; exact this)
        have HGe1 : Hid (∀ w', TwoAt w w' G1 G2 b1 b3 v' (v'.on a2) d' d' → Calls Tryz.prog 27 #[.pointer (some ⟨b1, 0, none⟩)] w' fun e w'' => e = .returned (.int .i64 γ) ∧ w' = w'') := Lib.hid (fun w' ht => by rw [← hγ]; exact Generation_any ht.l1.wal)
        have HGe2 : Hid (∀ w', TwoAt w w' G1 G2 b1 b3 v' (v'.on a2) d' d' → Calls Tryz.prog 27 #[.pointer (some ⟨b3, 0, none⟩)] w' fun e w'' => e = .returned (.int .i64 γ) ∧ w' = w'') := Lib.hid (fun w' ht => by rw [← hγ]; have := Generation_any ht.l2.wal; exact this)
        have hρρ : (ρ != ρ) = false := by simp
        have hνν : (ν != ν) = false := by simp
        have hγγ : (γ != γ) = false := by simp
        clear hρ hν hγ
        go_wp2_with fail
        refine (HRo1.out _ HT5.out).mono ?_
        rintro e w6 ⟨rfl, hb6⟩
        have HT6 := Lib.hid (HT5.out.later hb6)
        clear hb6
        go_wp2_with fail
        refine (HRo2.out _ HT6.out).mono ?_
        rintro e w7 ⟨rfl, hb7⟩
        have HT7 := Lib.hid (HT6.out.later hb7)
        clear hb7
        go_wp2_with fail
        refine (HNu1.out _ HT7.out).mono ?_
        rintro e w' ⟨rfl, rfl⟩
        go_wp2_with fail
        refine (HNu2.out _ HT7.out).mono ?_
        rintro e w' ⟨rfl, rfl⟩
        go_wp2_with fail
        refine (HGe1.out _ HT7.out).mono ?_
        rintro e w' ⟨rfl, rfl⟩
        go_wp2_with fail
        refine (HGe2.out _ HT7.out).mono ?_
        rintro e w' ⟨rfl, rfl⟩
        go_wp2_with fail
        go_roundg (nn - (k + 1))
        case measure => omega
        case rel => exact ⟨k + 1, b3, d', v', G1, G2, rfl, rfl, by go_num, by omega, Nat.le_refl _, HLy1', HLy2', HDn', HT7⟩
    · have hltz : ¬ (k : Int) < (nn : Int) := by omega
      have HDa : Hid (IsDisk wr F1 a1 d) := Lib.hid (by have := HT.out.l1.disk; rwa [HLy1.out.disk] at this)
      have HDb : Hid (IsDisk wr F2 a2 d) := Lib.hid HT.out.l2.disk
      obtain ⟨w0, hw0⟩ : ∃ w0, w0 = wr := ⟨_, rfl⟩
      subst hw0
      go_wp2_with fail
      go_loopg [23] n (fun kx s23 wr => ∃ i : Nat, s23 = .int .i64 i ∧ i ≤ n ∧ n - i ≤ kx ∧ wr = w0)
      case atStart => exact ⟨0, rfl, Nat.zero_le _, by omega, rfl⟩
      case round =>
        obtain ⟨i, rfl, hi, hix, rfl⟩ := hrel
        have hi0 : (0 : Int) ≤ (i : Int) := Int.natCast_nonneg _
        by_cases hin : i < n
        · have hinz : (i : Int) < 2 * (s : Int) + (m : Int) := by have := HNI.out; omega
          obtain ⟨X, hX⟩ : ∃ X, str (d.readB i) = X := ⟨_, rfl⟩
          obtain ⟨Y, hY⟩ : ∃ Y, d.readE i = Y := ⟨_, rfl⟩
          have HR1 : Hid (Calls Tryz.prog 30 #[.pointer (some ⟨a1, 0, none⟩), .int .i64 i] wr fun e w' => e = .returned (.tuple #[.string X, .int .i64 Y]) ∧ wr = w') := Lib.hid (by rw [← hX, ← hY]; exact Read_any HDa.out i)
          have HR2 : Hid (Calls Tryz.prog 30 #[.pointer (some ⟨a2, 0, none⟩), .int .i64 i] wr fun e w' => e = .returned (.tuple #[.string X, .int .i64 Y]) ∧ wr = w') := Lib.hid (by rw [← hX, ← hY]; exact Read_any HDb.out i)
          clear hX hY
          go_wp2_with fail
          refine HR1.out.mono ?_
          rintro e w' ⟨rfl, rfl⟩
          go_wp2_with fail
          refine HR2.out.mono ?_
          rintro e w' ⟨rfl, rfl⟩
          go_wp2_with fail
          go_roundg (n - (i + 1))
          case measure => omega
          case rel => exact ⟨i + 1, by go_num, by omega, Nat.le_refl _, rfl⟩
        · have hinz : ¬ (i : Int) < 2 * (s : Int) + (m : Int) := by have := HNI.out; omega
          go_wp2_with fail
          refine (awake6_any _).mono ?_
          rintro e wz ⟨rfl, hbz⟩
          have HBz : Hid (Below w.heap.size w wz) := Lib.hid (HT.out.bel.trans (hbz.mono HT.out.bel.size))
          clear hbz
          go_wp2_with fail
          go_ret
          exact ⟨rfl, HBz.out⟩
end Go.Proofs.YtgjlmcachnpgbaaGreatDoor
