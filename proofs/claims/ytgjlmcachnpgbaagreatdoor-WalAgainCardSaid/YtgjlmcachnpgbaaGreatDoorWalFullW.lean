/- The walk of WalFull. -/
import Derived.Test.YtgjlmcachnpgbaaGreatDoorWalW
namespace Go.Proofs.YtgjlmcachnpgbaaGreatDoor
open Go.RowKit

theorem room_fits {v : WalV} {n : Nat} {l : List UInt8} (hok : v.Ok n) (hd : v.down = false) (hk : v.num ≤ 1099511627776) : addBad v n l = 0 ↔ (l.length : Int) ≤ roomE n v.slot v.used := by
  have hft := hok.fit
  have hus := hok.used
  unfold addBad roomE secs
  rw [if_neg (by rw [hd]; simp)]
  constructor
  · intro h
    split at h
    · cases h
    · split at h
      · cases h
      · rename_i h1 h2
        split
        · omega
        · omega
  · intro h
    split at h
    · omega
    · rw [if_neg (by omega), if_neg (by omega)]
theorem addBad_is {v : WalV} {n : Nat} {l : List UInt8} (hd : v.down = false) (h : addBad v n l ≠ 0) : addBad v n l = 5 ∨ addBad v n l = 6 := by
  unfold addBad at h ⊢
  rw [if_neg (by rw [hd]; simp)] at h ⊢
  split
  · exact Or.inl rfl
  · rename_i h1
    rw [if_neg h1] at h
    split
    · exact Or.inr rfl
    · rename_i h2
      rw [if_neg h2] at h
      exact absurd rfl h

/-- What the loop of WalFull keeps: the log with its disk, the cells of 'now', the row of its records. -/
structure FullAt (w wr : World) (F : Nat → Prop) (b g : Nat) (v : WalV) (d : DSt) (st : List UInt8) (rs : List (List UInt8)) (A : Option Addr) (c : Nat) : Prop where
  log : LogAt wr F b v d
  nb : ¬ F b
  low : ∀ j, F j → w.heap.size ≤ j
  lb : w.heap.size ≤ b
  lg : w.heap.size ≤ g
  now : wr.heap[g]? = some (.cells #[.string (str st), .slice A rs.length c] 70 (0, 0))
  row : wr.ownsRow w.heap.size 9 1 (.slice A rs.length c) rs.length (rs.map secV)
  ng : ¬ F g
  gb : g ≠ b
  apart : ∀ j, (Value.slice A rs.length c).ownBlock = some j → ¬ F j ∧ j ≠ b ∧ j ≠ g
  bel : Below w.heap.size w wr
theorem FullAt.later {w wr w' : World} {F : Nat → Prop} {b g : Nat} {v : WalV} {d : DSt} {st : List UInt8} {rs : List (List UInt8)} {A : Option Addr} {c : Nat} (h : FullAt w wr F b g v d st rs A c) (hb : Below wr.heap.size wr w') : FullAt w w' F b g v d st rs A c :=
  ⟨h.log.later hb, h.nb, h.low, h.lb, h.lg, (hb.block _ (heap_lt h.now)).trans h.now, own_kept h.row hb, h.ng, h.gb, h.apart, h.bel.trans (hb.mono h.bel.size)⟩
/-- Behind a call on the log. -/
theorem FullAt.call {w wr w' : World} {F F' : Nat → Prop} {b g : Nat} {v v' : WalV} {d d' : DSt} {st : List UInt8} {rs : List (List UInt8)} {A : Option Addr} {c : Nat} (h : FullAt w wr F b g v d st rs A c)
    (hL : LogAt w' F' b v' d') (hn : ¬ F' b) (hm : Moves (fun q => F q ∨ q = b) wr w') (hF : ∀ j, F' j → F j ∨ wr.heap.size ≤ j) : FullAt w w' F' b g v' d' st rs A c := by
  have hgl := heap_lt h.now
  refine ⟨hL, hn, fun j hj => ?_, h.lb, h.lg, ?_, own_block6 h.row (fun j hj => ?_), fun hf => ?_, h.gb, fun j hj => ?_, ?_⟩
  · rcases hF j hj with e | e
    · exact h.low j e
    · exact Nat.le_trans h.bel.size e
  · exact (hm.block g hgl (fun hh => hh.elim h.ng h.gb)).trans h.now
  · obtain ⟨q1, q2, q3⟩ := h.apart j hj
    exact hm.block j (h.row.lt j hj).2 (fun hh => hh.elim q1 q2)
  · rcases hF g hf with e | e
    · exact h.ng e
    · omega
  · obtain ⟨q1, q2, q3⟩ := h.apart j hj
    have := (h.row.lt j hj).2
    refine ⟨fun hf => ?_, q2, q3⟩
    rcases hF j hf with e | e
    · exact q1 e
    · omega
  · exact h.bel.trans (hm.below (B := w.heap.size) h.bel.size (fun j hj => by
      rcases hj with e | e
      · exact h.low j e
      · rw [e]; exact h.lb))
/-- One record more: the row has grown, 'now' holds it. -/
theorem FullAt.more {w wr w6 : World} {F : Nat → Prop} {b g : Nat} {v : WalV} {d : DSt} {st : List UInt8} {rs : List (List UInt8)} {A A' : Option Addr} {c c' : Nat} {r : List UInt8} {O : Obj} (h : FullAt w wr F b g v d st rs A c)
    (ho : w6.ownsRow w.heap.size 9 1 (.slice A' (rs.length + 1) c') (rs.length + 1) (rs.map secV ++ [.string (str r)])) (hg : (wr.alloc O).grownBy w6 (Value.slice A rs.length c).ownBlock)
    (hat : ∀ j, (Value.slice A' (rs.length + 1) c').ownBlock = some j → (Value.slice A rs.length c).ownBlock = some j ∨ wr.heap.size ≤ j) :
    FullAt w (w6.setCell ⟨g, 1, none⟩ (.slice A' (rs.length + 1) c')) F b g v d st (rs ++ [r]) A' c' := by
  have hgl := heap_lt h.now
  have hbl := heap_lt h.log.wal
  have hm6 : Moves (fun q => (Value.slice A rs.length c).ownBlock = some q) wr w6 := (Moves.refl _ _).alloc O |>.trans (Moves.of_grown (F := fun q => (Value.slice A rs.length c).ownBlock = some q) hg (fun k e => e)) (fun j hj => Or.inl hj)
  have hm7 : Moves (fun q => (Value.slice A rs.length c).ownBlock = some q ∨ q = g) wr w6 := hm6.mono (fun j hj => Or.inl hj)
  have hm : Moves (fun q => (Value.slice A rs.length c).ownBlock = some q ∨ q = g) wr (w6.setCell ⟨g, 1, none⟩ (.slice A' (rs.length + 1) c')) := hm7.setCell (p := ⟨g, 1, none⟩) (Or.inr rfl) _
  have hnF : ∀ k, F k → ¬ ((Value.slice A rs.length c).ownBlock = some k ∨ k = g) := fun k hk e => by
    rcases e with e | e
    · exact (h.apart k e).1 hk
    · exact h.ng (e ▸ hk)
  have hw6 : wr.heap.size ≤ w6.heap.size := hm6.size
  have hnow6 : w6.heap[g]? = some (.cells #[.string (str st), .slice A rs.length c] 70 (0, 0)) := (hm6.block g hgl (fun e => (h.apart g e).2.2 rfl)).trans h.now
  refine ⟨⟨?_, h.log.disk.kept hm (fun k hk hf => hnF k hf hk), h.log.ok⟩, h.nb, h.low, h.lb, h.lg, ?_, ?_, h.ng, h.gb, fun j hj => ?_, ?_⟩
  · exact (hm.block b hbl (fun e => by
      rcases e with e | e
      · exact (h.apart b e).2.1 rfl
      · exact h.gb e.symm)).trans h.log.wal
  · have := row_set hnow6 1 (.slice A' (rs.length + 1) c')
    rw [List.length_append]
    exact this
  · rw [List.length_append, List.map_append]
    refine own_block6 ho (fun j hj => Below.heap_setCell _ _ _ _ (fun e => ?_))
    rcases hat j hj with e2 | e2
    · exact (h.apart j e2).2.2 e
    · have e3 : j = g := e
      omega
  · rw [List.length_append] at hj
    rcases hat j hj with e2 | e2
    · exact h.apart j e2
    · refine ⟨fun hf => ?_, fun e => by omega, fun e => by omega⟩
      have := h.log.disk.low j hf
      omega
  · exact h.bel.trans (hm.below (B := w.heap.size) h.bel.size (fun j hj => by
      rcases hj with e | e
      · exact (h.row.lt j e).1
      · rw [e]; exact h.lg))
/-- 'now' is set anew. -/
theorem FullAt.anew {w wr : World} {F : Nat → Prop} {b g : Nat} {v : WalV} {d : DSt} {st : List UInt8} {rs : List (List UInt8)} {A : Option Addr} {c : Nat} (h : FullAt w wr F b g v d st rs A c) (s : List UInt8) :
    FullAt w ((wr.setCell ⟨g, 0, none⟩ (.string (str s))).setCell ⟨g, 1, none⟩ (.slice none 0 0)) F b g v d s [] none 0 := by
  have hbl := heap_lt h.log.wal
  have m0 : Moves (fun q => q = g) wr wr := Moves.refl _ _
  have hm : Moves (fun q => q = g) wr ((wr.setCell ⟨g, 0, none⟩ (.string (str s))).setCell ⟨g, 1, none⟩ (.slice none 0 0)) := (m0.setCell (p := ⟨g, 0, none⟩) rfl _).setCell (p := ⟨g, 1, none⟩) rfl _
  refine ⟨⟨(hm.block b hbl (fun e => h.gb e.symm)).trans h.log.wal, h.log.disk.kept hm (fun k hk hf => h.ng (by rw [← hk]; exact hf)), h.log.ok⟩, h.nb, h.low, h.lb, h.lg, row_set (row_set h.now 0 (.string (str s))) 1 (.slice none 0 0), World.ownsRow_nil _ _ _ _, h.ng, h.gb, (fun j hj => by cases hj), ?_⟩
  exact h.bel.trans (hm.below (B := w.heap.size) h.bel.size (fun j hj => by rw [hj]; exact h.lg))

theorem Room_later {w : World} {F : Nat → Prop} {a : Nat} {v : WalV} {d : DSt} (h : LogAt w F a v d) : Calls Tryz.prog 28 #[.pointer (some ⟨a, 0, none⟩)] w fun e w' => e = .returned (.int .i64 (roomE d.seen.length v.slot v.used)) ∧ Below w.heap.size w w' :=
  (Room_any h).mono (fun _ _ ⟨he, m, hm⟩ => ⟨he, by rw [hm]; exact below_drawsW w m⟩)
theorem act_cell (w w' : World) (x : Act6) (hb : Below (w.alloc (.cells (act6V x) 44)).heap.size (w.alloc (.cells (act6V x) 44)) w') : w'.cell? ⟨w.heap.size, 2, none⟩ = some (.string x.s) := by
  rw [hb.cell (p := ⟨w.heap.size, 2, none⟩) (by simp), Lib.cell_of_heap (heap_alloc_new _ _)]; rfl

set_option maxHeartbeats 8000000 in
set_option maxRecDepth 100000 in
theorem WalFull_walk {w : World} {A : Option Addr} {c : Nat} {l : List Act6} (x y : Int) (h : ActsAt w w.heap.size A l) :
    Calls Tryz.prog 6 #[.int .i64 x, .int .i64 y, .slice A l.length c] w fun e w' => e = .returned (.bool true) ∧ Below w.heap.size w w' := by
  have HV := Lib.hid h
  obtain ⟨hs1, hs2⟩ := szS_lt x
  obtain ⟨hm1, hm2⟩ := szM_lt y
  have HSz : Hid (Calls Tryz.prog 9 #[.int .i64 x, .int .i64 y] w fun e w' => e = .returned (.tuple #[.int .i64 (szS x), .int .i64 (szM y)]) ∧ w = w') := Lib.hid (sizes_any x y w)
  generalize szS x = s at *
  generalize szM y = m at *
  obtain ⟨n, hn⟩ : ∃ n, 2 * s + m = n := ⟨_, rfl⟩
  have hn4 : n ≤ 4096 := by omega
  have hnI : 2 * (s : Int) + (m : Int) = (n : Int) := by omega
  have HNew : Hid (Calls Tryz.prog 10 #[.int .i64 (2 * (s : Int) + (m : Int))] w (NewEnd n w)) := Lib.hid (by rw [hnI]; exact New_ok n w (by omega) hn4)
  have HNs : Hid (∀ a, LogSt (DSt.new n) s a ⟨a, s, 0, 1, 0, 0, false⟩ [] [] ∧ (DSt.new n).seen.length = n) := Lib.hid (fun a => by
    have := new_st s m a hs1 hm1 (by omega)
    rw [hn] at this
    exact this)
  have HNI := Lib.hid hnI
  obtain ⟨i0, hi0, hz0, hz1, hz2⟩ := info_parts Tryz.infoStr5
  obtain ⟨ln, hln⟩ : ∃ ln, l.length = ln := ⟨_, rfl⟩
  have HLn := Lib.hid hln
  have HFew : Hid (∀ w1 c, Below w.heap.size w w1 → Calls Tryz.prog 15 #[.slice A ln c, .int .i64 30] w1 (FewEnd l 30 w1)) := Lib.hid (fun w1 c hb => by
    rw [← hln]
    have hv := HV.out
    have : ActsAt w1 w1.heap.size A l := by
      rcases hv with e | ⟨b, off, hA, hlt, hc⟩
      · exact .inl e
      · refine .inr ⟨b, off, hA, Nat.lt_of_lt_of_le hlt hb.size, fun i hi => ?_⟩
        obtain ⟨h0, h1, h2, h3⟩ := hc i hi
        exact ⟨(hb.cell (p := ⟨b, off + i * 4, none⟩) hlt).trans h0, (hb.cell (p := ⟨b, off + i * 4 + 1, none⟩) hlt).trans h1, (hb.cell (p := ⟨b, off + i * 4 + 2, none⟩) hlt).trans h2, (hb.cell (p := ⟨b, off + i * 4 + 3, none⟩) hlt).trans h3⟩
    exact few_any this 30 (by omega))
  rw [hln]
  clear h hn hnI hln
  go_enter Tryz.func6, Tryz.ntmps6
  go_wp2_with fail
  refine HSz.out.mono ?_
  rintro e w' ⟨rfl, rfl⟩
  go_wp2_with fail
  refine HNew.out.mono ?_
  rintro e w1 ⟨a, F, rfl, hd, hF, hb⟩
  have HD := Lib.hid hd
  have HF := Lib.hid hF
  have HB := Lib.hid hb
  clear hd hF hb HNew HSz
  go_wp2_with fail
  refine (Open_st HD.out (HNs.out a).1).mono ?_
  rintro e w2 ⟨b, A2, c2, rfl, _, _, hL, hb2, hw2⟩
  have HL := Lib.hid hL
  have HBF : Hid (¬ F b) := Lib.hid (fun hf => by have := HD.out.low b hf; omega)
  have HBl : Hid (w.heap.size ≤ b) := Lib.hid (Nat.le_trans HB.out.size hw2)
  have HB2 : Hid (Below w.heap.size w w2) := Lib.hid (HB.out.trans (hb2.mono HB.out.size))
  clear hL hb2 hw2
  simp only [List.length_nil]
  go_wp2_with fail
  have HFull0 : Hid (FullAt w (w2.alloc (.cells #[.string ⟨#[]⟩, .slice none 0 0] 70)) F b w2.heap.size ⟨a, s, 0, 1, 0, 0, false⟩ (DSt.new n) [] [] none 0) := Lib.hid (by
    have hbb : Below w2.heap.size w2 (w2.alloc (.cells #[.string ⟨#[]⟩, .slice none 0 0] 70)) := (Below.refl _ _).alloc (Nat.le_refl _) _
    have hbl := heap_lt HL.out.wal
    refine ⟨HL.out.later hbb, HBF.out, HF.out, HBl.out, HB2.out.size, heap_alloc_new _ _, World.ownsRow_nil _ _ _ _, fun hf => ?_, fun e => by omega, (fun j hj => by cases hj), HB2.out.trans (hbb.mono HB2.out.size)⟩
    have := HL.out.disk.low _ hf
    omega)
  generalize w2.alloc (.cells #[.string ⟨#[]⟩, .slice none 0 0] 70) = w3 at *
  generalize w2.heap.size = g at *
  clear HL HBF HBl HB2 HD HF HB
  refine (HFew.out _ _ HFull0.out.bel).mono ?_
  rintro e w' ⟨nn, rfl, hnl, hn30, hfw, rfl⟩
  have HFw := Lib.hid hfw
  rw [show l.length = ln from HLn.out] at hnl
  clear hfw HFew
  go_wp2_with fail
  go_loopg [16] nn (fun kx s16 wr => ∃ (k : Nat) (d : DSt) (v : WalV) (F : Nat → Prop) (st : List UInt8) (rs : List (List UInt8)) (A8 : Option Addr) (c8 : Nat), s16 = .int .i64 k ∧ k ≤ nn ∧ nn - k ≤ kx ∧ rs.length ≤ k ∧ Hid (LogSt d s a v st rs) ∧ Hid (d.seen.length = n) ∧ Hid (v.num ≤ 1 + (k : Int) ∧ v.gen ≤ (k : Int)) ∧ Hid (FullAt w wr F b g v d st rs A8 c8))
  case atStart => exact ⟨0, DSt.new n, ⟨a, s, 0, 1, 0, 0, false⟩, F, [], [], none, 0, rfl, Nat.zero_le _, by omega, by simp, Lib.hid (HNs.out a).1, Lib.hid (HNs.out a).2, Lib.hid ⟨by simp, by simp⟩, HFull0⟩
  case round =>
    clear HFull0
    obtain ⟨k, d, v, F1, st, rs, A8, c8, rfl, hk, hkx, hrs, HSt, HDn, HNum, HFu⟩ := hrel
    by_cases hlt : k < nn
    · have hltz : (k : Int) < (nn : Int) := by omega
      have hkl : k < l.length := by rw [HLn.out]; omega
      obtain ⟨bb, off, hA, hbl, x0, x1, x2, x3⟩ := HV.out.at_ HFu.out.bel hkl
      have hX6 := (HFw.out k hkl hlt).1
      subst hA
      generalize l[k] = X at x0 x1 x2 x3 hX6
      obtain ⟨xk, xn, xs, xA, xc, xb⟩ := X
      simp only at x0 x1 x2 x3 hX6
      obtain ⟨L, rfl⟩ : ∃ L, xs = str L := ⟨xs.data.toList, (str_of xs).symm⟩
      rw [str_size] at hX6
      have hsS := str_size L
      obtain ⟨N, hN⟩ : ∃ N, L.length = N := ⟨_, rfl⟩
      have HNL := Lib.hid hN
      rw [hN] at hX6 hsS
      obtain ⟨S, hS⟩ : ∃ S, str L = S := ⟨_, rfl⟩
      have HS := Lib.hid hS
      rw [hS] at x2 hsS
      have hk0 : (0 : Int) ≤ (k : Int) := Int.natCast_nonneg _
      obtain ⟨ρ, hρ⟩ : ∃ ρ, roomE n s v.used = ρ := ⟨_, rfl⟩
      have hdn : d.seen.length = n := HDn.out
      have hvs : v.slot = s := HSt.out.found.slot
      have hvd : v.disk = a := HSt.out.found.disk
      have hvw : v.down = false := HSt.out.found.down
      have hvok : v.Ok n := by have := HSt.out.found.ok; rwa [hdn] at this
      have hvn : v.num ≤ 1099511627776 := by have := HNum.out.1; omega
      have hiff := room_fits (l := L) hvok hvw hvn
      rw [hvs, hρ, hN] at hiff
      have HRm : Hid (∀ w' F', LogAt w' F' b v d → Calls Tryz.prog 28 #[.pointer (some ⟨b, 0, none⟩)] w' fun e w'' => e = .returned (.int .i64 ρ) ∧ Below w'.heap.size w' w'') := Lib.hid (fun w' F' h => by
        have := Room_later h
        rw [hdn, hvs, hρ] at this
        exact this)
      have HVd := Lib.hid hvd
      have hO : wr.alloc (.cells #[.int .i64 xk, .int .i64 xn, .string S, .slice xA xb.length xc] 44) = wr.alloc (.cells (act6V ⟨xk, xn, S, xA, xc, xb⟩) 44) := rfl
      have HQ : Hid (∀ w', Below (wr.alloc (.cells #[.int .i64 xk, .int .i64 xn, .string S, .slice xA xb.length xc] 44)).heap.size (wr.alloc (.cells #[.int .i64 xk, .int .i64 xn, .string S, .slice xA xb.length xc] 44)) w' → w'.cell? ⟨wr.heap.size, 2, none⟩ = some (.string S)) := Lib.hid (fun w' hb => by
        rw [hO] at hb
        exact act_cell wr w' ⟨xk, xn, S, xA, xc, xb⟩ hb)
      have HFuA : Hid (FullAt w (wr.alloc (.cells #[.int .i64 xk, .int .i64 xn, .string S, .slice xA xb.length xc] 44)) F1 b g v d st rs A8 c8) := Lib.hid (HFu.out.later ((Below.refl _ _).alloc (Nat.le_refl _) _))
      have HqA : Hid (wr.heap.size < (wr.alloc (.cells #[.int .i64 xk, .int .i64 xn, .string S, .slice xA xb.length xc] 44)).heap.size ∧ ¬ F1 wr.heap.size ∧ wr.heap.size ≠ b) := Lib.hid ⟨by simp, fun hf => by have := HFu.out.log.disk.low _ hf; omega, fun e => by have := heap_lt HFu.out.log.wal; omega⟩
      clear hO hS hN hρ hvs hvd hvw hvok hkl
      by_cases hbad : addBad v n L = 0
      · have hle : (N : Int) ≤ ρ := hiff.1 hbad
        have hled : decide ((N : Int) ≤ ρ) = true := decide_eq_true hle
        obtain ⟨e1, e2, e3, e4⟩ := append_st HSt.out (l := L) (by rw [hdn]; exact hbad) (by rw [HNL.out]; omega)
        rw [hdn] at e2 e3
        have HSt2 := Lib.hid e3
        have HDn2 : Hid ((addD v d L).seen.length = n) := Lib.hid (e4.trans hdn)
        have HE1 := Lib.hid e1
        have HE2 := Lib.hid e2
        have HNum2 : Hid ((v.pass n L.length).num ≤ 1 + ((k + 1 : Nat) : Int) ∧ (v.pass n L.length).gen ≤ ((k + 1 : Nat) : Int)) := Lib.hid (by
          obtain ⟨q1, q2⟩ := HNum.out
          exact ⟨by show v.num + 1 ≤ _; omega, by show v.gen ≤ _; omega⟩)
        have HVd2 : Hid ((v.pass n L.length).disk = a) := Lib.hid HVd.out
        generalize v.pass n L.length = v2 at *
        clear e1 e2 e3 e4 hdn hiff hbad hvn
        go_wp2_with fail
        generalize wr.alloc (.cells #[.int .i64 xk, .int .i64 xn, .string S, .slice xA xb.length xc] 44) = wA at *
        generalize wr.heap.size = q at *
        clear x0 x1 x2 x3
        refine (HRm.out _ _ HFuA.out.log).mono ?_
        rintro e w5 ⟨rfl, hb5⟩
        have HFu5 := Lib.hid (HFuA.out.later hb5)
        have xq5 := HQ.out w5 hb5
        have HQ5 : Hid (w5.cell? ⟨q, 2, none⟩ = some (.string S)) := Lib.hid xq5
        have hq5 : q < w5.heap.size := Nat.lt_of_lt_of_le HqA.out.1 hb5.size
        clear hb5
        go_wp2_with fail
        refine (Number_anyW HFu5.out.log.wal).mono ?_
        rintro e w' ⟨rfl, rfl⟩
        have HAp : Hid (Calls Tryz.prog 24 #[.pointer (some ⟨b, 0, none⟩), .string S] w5 fun e w' => e = .returned .nilIface ∧ ∃ F', FullAt w w' F' b g v2 (addD v d L) st rs A8 c8 ∧ w'.cell? ⟨q, 2, none⟩ = some (.string S)) := Lib.hid (by
          have := Append_any HFu5.out.log HFu5.out.nb L (by rw [HNL.out]; omega) (by rw [HSt.out.loose]; simp)
          rw [HS.out, HE1.out, HE2.out] at this
          refine this.mono ?_
          rintro e w' ⟨he, F', hL, hn, hM, hF⟩
          rw [if_pos rfl] at he
          rw [if_neg (by decide)] at hL
          exact ⟨he, F', HFu5.out.call hL hn hM hF, (World.cell?_of_block (a := ⟨q, 2, none⟩) (hM.block q hq5 (fun hh => hh.elim HqA.out.2.1 HqA.out.2.2))).trans HQ5.out⟩)
        go_wp2_with fail
        refine HAp.out.mono ?_
        rintro e w6 ⟨rfl, F6, hFu6, xq6⟩
        have HFu6 := Lib.hid hFu6
        clear hFu6 HAp xq5
        go_wp2_with fail
        go_quiet (fail)
        have HFu7 : Hid (FullAt w (w6.drewN nq) F6 b g v2 (addD v d L) st rs A8 c8) := Lib.hid (HFu6.out.later (below_drawsW w6 nq))
        have xq7 : (w6.drewN nq).cell? ⟨q, 2, none⟩ = some (.string S) := xq6
        generalize w6.drewN nq = w7 at HFu7 xq7 ⊢
        have g0 : w7.cell? ⟨g, 0, none⟩ = some (.string (str st)) := by rw [Lib.cell_of_heap HFu7.out.now]; rfl
        have g1 : w7.cell? ⟨g, 1, none⟩ = some (.slice A8 rs.length c8) := by rw [Lib.cell_of_heap HFu7.out.now]; rfl
        obtain ⟨rn, hrn⟩ : ∃ rn, rs.length = rn := ⟨_, rfl⟩
        have HRn := Lib.hid hrn
        have HRow : Hid (w7.ownsRow w.heap.size 9 1 (.slice A8 rn c8) rn (rs.map secV)) := Lib.hid (by have := HFu7.out.row; rwa [hrn] at this)
        have hw7 : w.heap.size ≤ w7.heap.size := HFu7.out.bel.size
        have hg7 : g < w7.heap.size := heap_lt HFu7.out.now
        rw [hrn] at g1 hrs
        clear hrn xq6
        go_wp2_with (at_builtin; refine wpList_append_lies _ rfl (.tmp 81) (.tmp 84) 27 rfl w.heap.size 9 i0 (.string ByteArray.empty) 1 16 Tryz.underlying27 hi0 hz0 hz1 hz2 rfl (by decide) (.slice A8 rn c8) rn (rs.map secV) rfl (HRow.out.alloc _) ⟨w7.heap.size, 0, none⟩ 1 1 [.string S] rfl rfl ?d1 (by simp [Value.oneCell']) (by omega) ?d3 ?d4 ?d5 (w7.heap.size + 1) ?d6 ?_)
        case d1 =>
          intro j u hj
          rw [WideShapes.add_plain, Nat.zero_add, Lib.cell_of_heap (heap_alloc_new _ _)]
          simpa using hj
        case d3 => unfold maxLen; omega
        case d4 => omega
        case d5 => simp; omega
        case d6 => simp
        intro g9 cap9 w8 hown hg hat _
        have HFu9 : Hid (FullAt w (w8.setCell ⟨g, 1, none⟩ (.slice (some ⟨g9, 0, none⟩) (rn + 1) cap9)) F6 b g v2 (addD v d L) st (rs ++ [L]) (some ⟨g9, 0, none⟩) cap9) := Lib.hid (by
          rw [← HRn.out] at hown hg hat ⊢
          rw [← HS.out] at hown
          exact HFu7.out.more hown hg (fun j hj => by
            have e : j = g9 := (Option.some.inj hj).symm
            rw [e]
            rcases hat with h | h
            · exact Or.inl h
            · exact Or.inr (by omega)))
        have k1 : w8.cell? ⟨g, 1, none⟩ = some (.slice A8 rn c8) := by
          rw [World.cell?_of_block (a := ⟨g, 1, none⟩) (hg.block g (by simp; omega) (fun e => by
            have := (HFu7.out.apart g (by rw [HRn.out]; exact e.symm)).2.2
            exact this rfl)), World.cell?_of_block (a := ⟨g, 1, none⟩) (Below.heap_alloc _ _ _ hg7)]
          exact g1
        have k2 : w8.frozen? ⟨g, 1, none⟩ = false := by
          rw [World.frozen?_of_block (a := ⟨g, 1, none⟩) (hg.block g (by simp; omega) (fun e => by
            have := (HFu7.out.apart g (by rw [HRn.out]; exact e.symm)).2.2
            exact this rfl)), World.frozen?_of_block (a := ⟨g, 1, none⟩) (Below.heap_alloc _ _ _ hg7)]
          exact Lib.frozen_of_heap HFu7.out.now 1
        clear hown hg hat g0 g1 xq7
        go_wp2_with fail
        have HR1 : Hid ((rs ++ [L]).length = rn + 1) := Lib.hid (by rw [List.length_append, HRn.out]; rfl)
        have HOp : Hid (Calls Tryz.prog 12 #[.pointer (some ⟨a, 0, none⟩), .int .i64 s] (w8.setCell ⟨g, 1, none⟩ (.slice (some ⟨g9, 0, none⟩) (rn + 1) cap9)) fun e w' => ∃ b9 A9 c9, e = .returned (.tuple #[.pointer (some ⟨b9, 0, none⟩), .string (str st), .slice A9 (rn + 1) c9, .nilIface]) ∧ Lies w' w'.heap.size A9 ((rs ++ [L]).map secV) ∧ Below (w8.setCell ⟨g, 1, none⟩ (.slice (some ⟨g9, 0, none⟩) (rn + 1) cap9)).heap.size (w8.setCell ⟨g, 1, none⟩ (.slice (some ⟨g9, 0, none⟩) (rn + 1) cap9)) w') := Lib.hid (by
          have hD := HFu9.out.log.disk
          rw [HVd2.out] at hD
          refine (Open_st hD HSt2.out).mono ?_
          rintro e w' ⟨b9, A9, c9, he, hl, _, _, hb, _⟩
          rw [HR1.out] at he
          exact ⟨b9, A9, c9, he, hl, hb⟩)
        have HRow9 : Hid ((rs ++ [L]).length ≤ 9223372036854775807) := Lib.hid (by rw [HR1.out]; omega)
        generalize w8.setCell ⟨g, 1, none⟩ (.slice (some ⟨g9, 0, none⟩) (rn + 1) cap9) = w9 at *
        obtain ⟨T, hT⟩ : ∃ T, str st = T := ⟨_, rfl⟩
        have HT := Lib.hid hT
        rw [hT] at HOp
        clear k1 k2 hT HRow HFu7 hw7 hg7 HRm HNL HS
        refine HOp.out.mono ?_
        rintro e w10 ⟨b9, A9, c9, rfl, hl9, hb9⟩
        have HFu10 := Lib.hid (HFu9.out.later hb9)
        have HL9 := Lib.hid hl9
        have g0 : w10.cell? ⟨g, 0, none⟩ = some (.string T) := by rw [Lib.cell_of_heap HFu10.out.now, HT.out]; rfl
        have g1 : w10.cell? ⟨g, 1, none⟩ = some (.slice (some ⟨g9, 0, none⟩) (rn + 1) cap9) := by rw [Lib.cell_of_heap HFu10.out.now, HR1.out]; rfl
        have HSame : Hid (Calls Tryz.prog 39 #[.agg #[.string T, .slice (some ⟨g9, 0, none⟩) (rn + 1) cap9], .string T, .slice A9 (rn + 1) c9] w10 fun e w' => e = .returned (.bool true) ∧ Below w10.heap.size w10 w') := Lib.hid (by
          obtain ⟨A7, c7, e7, _, l7⟩ := own_lies HFu10.out.row
          cases e7
          have := same_any (c1 := cap9) (c2 := c9) (st := st) (s := st) l7 HL9.out HRow9.out
          rw [HT.out, HR1.out, show sameK st st (rs ++ [L]) (rs ++ [L]) = true from by unfold sameK; rw [if_pos rfl, eqR_self]] at this
          exact this)
        clear hl9 hb9 HOp
        go_wp2_with fail
        refine HSame.out.mono ?_
        rintro e w11 ⟨rfl, hb11⟩
        have HFu11 := Lib.hid (HFu10.out.later hb11)
        have hR1 : (rs ++ [L]).length ≤ k + 1 := by rw [HR1.out]; omega
        clear hb11 g0 g1
        go_wp2_with fail
        go_roundg (nn - (k + 1))
        case measure => omega
        case rel => exact ⟨k + 1, addD v d L, v2, F6, st, rs ++ [L], some ⟨g9, 0, none⟩, cap9, by go_num, by omega, Nat.le_refl _, hR1, HSt2, HDn2, HNum2, HFu11⟩
      · have hle : ¬ (N : Int) ≤ ρ := fun h => hbad (hiff.2 h)
        have hled : decide ((N : Int) ≤ ρ) = false := decide_eq_false hle
        have hvd0 : v.down = false := HSt.out.found.down
        obtain ⟨κ, hκ⟩ : ∃ κ, addBad v n L = κ := ⟨_, rfl⟩
        have hκ56 : κ = 5 ∨ κ = 6 := by rw [← hκ]; exact addBad_is hvd0 hbad
        have hκ0 : κ ≠ 0 := by omega
        obtain ⟨e1, e2, e3⟩ := add_bad (v := v) (d := d) (l := L) (by rw [hdn]; exact hκ) hκ0
        have HE1 := Lib.hid e1
        have HE2 := Lib.hid e2
        have HE3 := Lib.hid e3
        have HK56 := Lib.hid hκ56
        have hck : ckBad v [99] = 0 := by
          unfold ckBad
          have hsl : v.slot = s := HSt.out.found.slot
          obtain ⟨q1, q2⟩ := HNum.out
          rw [if_neg (by rw [hvd0]; simp), if_neg (by rw [hsl]; simp only [List.length_singleton]; omega), if_neg (by omega)]
        obtain ⟨f1, f2, f3, f4⟩ := ck_st HSt.out hck
        have HF1 := Lib.hid f1
        have HF2 := Lib.hid f2
        have HSt2 := Lib.hid f3
        have HDn2 : Hid ((ckD v d [99]).seen.length = n) := Lib.hid (f4.trans hdn)
        have HNum2 : Hid ((ckN v).num ≤ 1 + ((k + 1 : Nat) : Int) ∧ (ckN v).gen ≤ ((k + 1 : Nat) : Int)) := Lib.hid (by
          obtain ⟨q1, q2⟩ := HNum.out
          have hg1 := HSt.out.found.ok.g1
          exact ⟨by show v.num ≤ _; omega, by show ((v.gen.toNat + 1 : Nat) : Int) ≤ _; omega⟩)
        have HRm2 : Hid (∀ w' F', LogAt w' F' b (ckN v) (ckD v d [99]) → Calls Tryz.prog 28 #[.pointer (some ⟨b, 0, none⟩)] w' fun e w'' => e = .returned (.int .i64 (32 * ((m : Int) - 2))) ∧ Below w'.heap.size w' w'') := Lib.hid (fun w' F' h => by
          have := Room_later h
          rw [HDn2.out] at this
          have e : roomE n (ckN v).slot (ckN v).used = 32 * ((m : Int) - 2) := by
            have e1 : (ckN v).slot = s := HSt2.out.found.slot
            have e2 : (ckN v).used = 0 := rfl
            rw [e1, e2]
            unfold roomE
            have := HNI.out
            rw [if_neg (by omega)]
            omega
          rw [e] at this
          exact this)
        have hNn : (v.num != v.num) = false := by simp
        have hρρ : (ρ != ρ) = false := by simp
        clear e1 e2 e3 f1 f2 f3 f4 hck hκ hκ56 hdn hiff hbad hvn
        go_wp2_with fail
        generalize wr.alloc (.cells #[.int .i64 xk, .int .i64 xn, .string S, .slice xA xb.length xc] 44) = wA at *
        generalize wr.heap.size = q at *
        clear x0 x1 x2 x3
        refine (HRm.out _ _ HFuA.out.log).mono ?_
        rintro e w5 ⟨rfl, hb5⟩
        have HFu5 := Lib.hid (HFuA.out.later hb5)
        have xq5 := HQ.out w5 hb5
        have HQ5 : Hid (w5.cell? ⟨q, 2, none⟩ = some (.string S)) := Lib.hid xq5
        have hq5 : q < w5.heap.size := Nat.lt_of_lt_of_le HqA.out.1 hb5.size
        clear hb5
        go_wp2_with fail
        refine (Number_anyW HFu5.out.log.wal).mono ?_
        rintro e w' ⟨rfl, rfl⟩
        have HAp : Hid (Calls Tryz.prog 24 #[.pointer (some ⟨b, 0, none⟩), .string S] w5 fun e w' => (∃ bf, e = .returned (.iface 74 (.pointer (some ⟨bf, 0, none⟩)))) ∧ ∃ F', FullAt w w' F' b g v d st rs A8 c8 ∧ w'.cell? ⟨q, 2, none⟩ = some (.string S)) := Lib.hid (by
          have := Append_any HFu5.out.log HFu5.out.nb L (by rw [HNL.out]; omega) (by rw [HSt.out.loose]; simp)
          rw [HS.out, HE1.out, HE2.out, HE3.out] at this
          refine this.mono ?_
          have h56 := HK56.out
          rintro e w' ⟨he, F', hL, hn, hM, hF⟩
          rw [if_neg (by omega)] at he
          rw [if_neg (by omega)] at hL
          obtain ⟨bf, he, _⟩ := he
          exact ⟨⟨bf, he⟩, F', HFu5.out.call hL hn hM hF, (World.cell?_of_block (a := ⟨q, 2, none⟩) (hM.block q hq5 (fun hh => hh.elim HqA.out.2.1 HqA.out.2.2))).trans HQ5.out⟩)
        go_wp2_with fail
        refine HAp.out.mono ?_
        rintro e w6 ⟨⟨bf, rfl⟩, F6, hFu6, xq6⟩
        have HFu6 := Lib.hid hFu6
        clear hFu6 HAp xq5
        go_wp2_with fail
        go_quiet (fail)
        have HFu7 : Hid (FullAt w (w6.drewN nq) F6 b g v d st rs A8 c8) := Lib.hid (HFu6.out.later (below_drawsW w6 nq))
        generalize w6.drewN nq = w7 at HFu7 ⊢
        clear xq6 HFu6 HFu5 HQ5
        go_wp2_with fail
        refine (HRm.out _ _ HFu7.out.log).mono ?_
        rintro e w8 ⟨rfl, hb8⟩
        have HFu8 := Lib.hid (HFu7.out.later hb8)
        clear hb8
        go_wp2_with fail
        refine (Number_anyW HFu8.out.log.wal).mono ?_
        rintro e w' ⟨rfl, rfl⟩
        obtain ⟨rn, hrn⟩ : ∃ rn, rs.length = rn := ⟨_, rfl⟩
        have HRn := Lib.hid hrn
        have HOp : Hid (Calls Tryz.prog 12 #[.pointer (some ⟨a, 0, none⟩), .int .i64 s] w8 fun e w' => ∃ b9 A9 c9, e = .returned (.tuple #[.pointer (some ⟨b9, 0, none⟩), .string (str st), .slice A9 rn c9, .nilIface]) ∧ Lies w' w'.heap.size A9 (rs.map secV) ∧ Below w8.heap.size w8 w') := Lib.hid (by
          have hD := HFu8.out.log.disk
          rw [HVd.out] at hD
          refine (Open_st hD HSt.out).mono ?_
          rintro e w' ⟨b9, A9, c9, he, hl, _, _, hb, _⟩
          rw [hrn] at he
          exact ⟨b9, A9, c9, he, hl, hb⟩)
        have hrn9 : rn ≤ 9223372036854775807 := by omega
        obtain ⟨T, hT⟩ : ∃ T, str st = T := ⟨_, rfl⟩
        have HT := Lib.hid hT
        rw [hT] at HOp
        clear hT hrn HRm HNL HS HFu7 hle
        go_wp2_with fail
        refine HOp.out.mono ?_
        rintro e w10 ⟨b9, A9, c9, rfl, hl9, hb9⟩
        have HFu10 := Lib.hid (HFu8.out.later hb9)
        have HL9 := Lib.hid hl9
        have g0 : w10.cell? ⟨g, 0, none⟩ = some (.string T) := by rw [Lib.cell_of_heap HFu10.out.now, HT.out]; rfl
        have g1 : w10.cell? ⟨g, 1, none⟩ = some (.slice A8 rn c8) := by rw [Lib.cell_of_heap HFu10.out.now, HRn.out]; rfl
        have HSame : Hid (Calls Tryz.prog 39 #[.agg #[.string T, .slice A8 rn c8], .string T, .slice A9 rn c9] w10 fun e w' => e = .returned (.bool true) ∧ Below w10.heap.size w10 w') := Lib.hid (by
          obtain ⟨A7, c7, e7, _, l7⟩ := own_lies HFu10.out.row
          cases e7
          have := same_any (c1 := c8) (c2 := c9) (st := st) (s := st) l7 HL9.out (by rw [HRn.out]; exact hrn9)
          rw [HT.out, HRn.out, show sameK st st rs rs = true from by unfold sameK; rw [if_pos rfl, eqR_self]] at this
          exact this)
        clear hl9 hb9 HOp
        go_wp2_with fail
        refine HSame.out.mono ?_
        rintro e w11 ⟨rfl, hb11⟩
        have HFu11 := Lib.hid (HFu10.out.later hb11)
        have HCk : Hid (Calls Tryz.prog 18 #[.pointer (some ⟨b, 0, none⟩), .string ⟨#[99]⟩] w11 fun e w' => e = .returned .nilIface ∧ ∃ F', FullAt w w' F' b g (ckN v) (ckD v d [99]) st rs A8 c8) := Lib.hid (by
          have := Checkpoint_any HFu11.out.log HFu11.out.nb [99] (by decide) (by rw [HSt.out.loose]; simp)
          rw [HF1.out, HF2.out] at this
          refine Calls.mono this ?_
          rintro e w' ⟨he, F', hL, hn, hM, hF⟩
          rw [if_pos rfl] at he
          rw [if_neg (by decide)] at hL
          exact ⟨he, F', HFu11.out.call hL hn hM hF⟩)
        clear hb11 g0 g1 HFu10 HFu8
        go_wp2_with fail
        refine HCk.out.mono ?_
        rintro e w12 ⟨rfl, F12, hFu12⟩
        have HFu12 := Lib.hid hFu12
        clear hFu12 HCk
        go_wp2_with fail
        refine (HRm2.out _ _ HFu12.out.log).mono ?_
        rintro e w13 ⟨rfl, hb13⟩
        have HFu13 := Lib.hid (HFu12.out.later hb13)
        have k0 : w13.cell? ⟨g, 0, none⟩ = some (.string (str st)) := by rw [Lib.cell_of_heap HFu13.out.now]; rfl
        have k1 : w13.cell? ⟨g, 1, none⟩ = some (.slice A8 rs.length c8) := by rw [Lib.cell_of_heap HFu13.out.now]; rfl
        have k2 : ∀ j, w13.frozen? ⟨g, j, none⟩ = false := fun j => Lib.frozen_of_heap HFu13.out.now j
        have HFin := Lib.hid (HFu13.out.anew [99])
        clear hb13 HFu12
        go_wp2_with fail
        go_roundg (nn - (k + 1))
        case measure => omega
        case rel => exact ⟨k + 1, ckD v d [99], ckN v, F12, [99], [], none, 0, by go_num, by omega, Nat.le_refl _, Nat.zero_le _, HSt2, HDn2, HNum2, HFin⟩
    · have hltz : ¬ (k : Int) < (nn : Int) := by omega
      go_wp2_with fail
      refine (awake6_any _).mono ?_
      rintro e wz ⟨rfl, hbz⟩
      have HBz : Hid (Below w.heap.size w wz) := Lib.hid (HFu.out.bel.trans (hbz.mono HFu.out.bel.size))
      clear hbz
      go_wp2_with fail
      go_ret
      exact ⟨rfl, HBz.out⟩
end Go.Proofs.YtgjlmcachnpgbaaGreatDoor
