/- A log on a disk whose power stays on: what an append and a checkpoint leave; the laws' fixed answer. -/
import Derived.Test.YtlelfakememckaaGreatDoorWalPlayA
import Derived.Test.YtlelfakememckaaGreatDoorWalI
namespace Go.Proofs.YtlelfakememckaaGreatDoor
open Go.RowKit

/-- The log v with the state st and the records rs stands on the disk d, whose power stays on. -/
structure LogSt (d : DSt) (slot a : Nat) (v : WalV) (st : List UInt8) (rs : List (List UInt8)) : Prop where
  on : d.On
  found : Found d.seen slot a v rs
  state : openS d slot = st
  loose : d.loose = []
theorem LogSt.opens {d : DSt} {slot a : Nat} {v : WalV} {st : List UInt8} {rs : List (List UInt8)} (h : LogSt d slot a v st rs) : openV a d slot = v ∧ openR a d slot = rs ∧ openS d slot = st := ⟨h.found.opens.1, h.found.opens.2, h.state⟩

theorem append_st {d : DSt} {slot a : Nat} {v : WalV} {st : List UInt8} {rs : List (List UInt8)} (h : LogSt d slot a v st rs) {l : List UInt8} (hb : addBad v d.seen.length l = 0) (hl : l.length ≤ 100000) :
    addE v d l = 0 ∧ addV v d l = v.pass d.seen.length l.length ∧ LogSt (addD v d l) slot a (v.pass d.seen.length l.length) st (rs ++ [l]) ∧ (addD v d l).seen.length = d.seen.length := by
  obtain ⟨z1, z2, z3, z4⟩ := addBad_zero hb
  have hok := h.found.ok
  have hsl := h.found.slot
  have hs1 := hok.s1
  have hft := hok.fit
  have hn1 := hok.n1
  have hus := hok.used
  have hk1 := hok.k1
  rw [hsl] at z2 z3 hs1 hft hus
  have hr : 1 + secs l.length < d.seen.length - 2 * slot - v.used := by omega
  obtain ⟨f1, f2, f3⟩ := append_found h.found hr z4 (by omega) (by omega)
  obtain ⟨num, hnum⟩ := Int.eq_ofNat_of_zero_le (show 0 ≤ v.num by omega)
  obtain ⟨s1, s2, s3, s4, s5⟩ := store_on (ps := bodyR v d.seen.length l) (q := headR v d.seen.length l) h.on (fun p hp => by
      unfold bodyR at hp
      obtain ⟨j, _, rfl⟩ := List.mem_map.1 hp
      have e := WalV.place_lt hok (1 + j)
      rw [hsl] at e
      refine ⟨?_, getD_cuts_short l j⟩
      show 2 * v.slot + _ < _
      rw [hsl]; omega) ⟨by
      have e := WalV.place_lt hok 0
      rw [hsl] at e
      show 2 * v.slot + _ < _
      rw [hsl]; omega, by
      show (recHead v.num l.length).length ≤ 32
      rw [hnum]
      have := recHead_len (num := num) (len := l.length) (by omega) (by omega)
      omega⟩
  obtain ⟨g1, g2, _⟩ := add_go (d := d) hb
  obtain ⟨g3, g4⟩ := g2 s1
  rw [← s2] at f1 f2 f3
  have hlen : (d.storeD (bodyR v d.seen.length l) (headR v d.seen.length l)).seen.length = d.seen.length := storeD_length _ _
  refine ⟨g3, g4, ⟨by rw [g1]; exact s5, by rw [g1]; exact f1, ?_, by rw [g1]; exact s3⟩, by rw [g1]; exact hlen⟩
  rw [g1, ← h.state]
  unfold openS
  rw [f2]
  have hc := curS_ok hs1 hft
  have := hc.l0
  have := hc.l1
  exact state_congr hlen (by omega) (by omega) (by omega) f3

theorem ck_st {d : DSt} {slot a : Nat} {v : WalV} {st : List UInt8} {rs : List (List UInt8)} (h : LogSt d slot a v st rs) {l : List UInt8} (hb : ckBad v l = 0) :
    ckE v d l = 0 ∧ ckV v d l = ckN v ∧ LogSt (ckD v d l) slot a (ckN v) l [] ∧ (ckD v d l).seen.length = d.seen.length := by
  obtain ⟨z1, z2, z3, z4⟩ := ckBad_zero hb
  have hok := h.found.ok
  have hsl := h.found.slot
  have hs1 := hok.s1
  have hft := hok.fit
  have hn1 := hok.n1
  have hnx := hok.next
  have hk1 := hok.k1
  have hg1 := hok.g1
  have hg2 := hok.g2
  rw [hsl] at z2 hs1 hft hnx
  obtain ⟨g, hg⟩ := Int.eq_ofNat_of_zero_le hg1
  have hgt : v.gen.toNat = g := by rw [hg, Int.toNat_natCast]
  obtain ⟨f1, f2, f3, _⟩ := checkpoint_found h.found (s := l) (g := g) (by omega) hg (by omega) z4
  obtain ⟨num, hnum⟩ := Int.eq_ofNat_of_zero_le (show 0 ≤ v.num by omega)
  have hes : (g + 1) % 2 * slot ≤ slot := by
    have : (g + 1) % 2 ≤ 1 := by omega
    calc (g + 1) % 2 * slot ≤ 1 * slot := Nat.mul_le_mul_right _ this
      _ = slot := Nat.one_mul _
  have hcs : secs l.length ≤ slot - 1 := secs_le (by omega)
  obtain ⟨s1, s2, s3, s4, s5⟩ := store_on (ps := bodyS slot g l) (q := headS v slot g l) h.on (fun p hp => by
      unfold bodyS at hp
      obtain ⟨j, hj, rfl⟩ := List.mem_map.1 hp
      rw [List.mem_range] at hj
      refine ⟨?_, getD_cuts_short l j⟩
      show (g + 1) % 2 * slot + 1 + j < _
      omega) ⟨by show (g + 1) % 2 * slot < _; omega, by
      show (slotHead ((g + 1 : Nat) : Int) l.length v.next v.num).length ≤ 32
      rw [hnum, slotHead_len (by omega) (by omega) (by omega) (by omega)]; omega⟩
  obtain ⟨g1, g2, _⟩ := ck_go (d := d) hb
  rw [hsl, hgt] at g1 g2
  obtain ⟨g3, g4⟩ := g2 s1
  rw [← s2] at f1 f2 f3
  have hN : ckN v = { v with gen := ((g + 1 : Nat) : Int), used := 0 } := by unfold ckN; rw [hgt]
  have hlen : (d.storeD (bodyS slot g l) (headS v slot g l)).seen.length = d.seen.length := storeD_length _ _
  refine ⟨g3, g4, ⟨by rw [g1]; exact s5, by rw [g1, hN]; exact f1, ?_, by rw [g1]; exact s3⟩, by rw [g1]; exact hlen⟩
  rw [g1]
  unfold openS
  rw [f2]
  simp only [Int.toNat_natCast]
  exact f3

theorem new_st (slot m a : Nat) (hs : 2 ≤ slot) (hm : 3 ≤ m) (hn : 2 * slot + m ≤ 4096) : LogSt (DSt.new (2 * slot + m)) slot a ⟨a, slot, 0, 1, 0, 0, false⟩ [] [] ∧ (DSt.new (2 * slot + m)).seen.length = 2 * slot + m := by
  obtain ⟨f1, f2⟩ := new_found slot m a hs hm hn
  refine ⟨⟨⟨rfl, rfl⟩, f1, ?_, rfl⟩, by simp [DSt.new]⟩
  unfold openS
  rw [f2]
  unfold stateOf
  exact List.take_zero

/-- What Open leaves where the log is known. -/
theorem Open_st {w : World} {F : Nat → Prop} {a : Nat} {d : DSt} {slot : Nat} {v : WalV} {st : List UInt8} {rs : List (List UInt8)} (h : IsDisk w F a d) (hs : LogSt d slot a v st rs) :
    Calls Tryz.prog 7 #[.pointer (some ⟨a, 0, none⟩), .int .i64 slot] w fun e w' => ∃ b A c, e = .returned (.tuple #[.pointer (some ⟨b, 0, none⟩), .string (str st), .slice A rs.length c, .nilIface]) ∧ Lies w' w'.heap.size A (rs.map secV) ∧ ((A = none → c = 0) ∧ ∀ p, A = some p → w.heap.size ≤ p.block ∧ p.block ≠ b) ∧ LogAt w' F b v d ∧ Below w.heap.size w w' ∧ w.heap.size ≤ b := by
  obtain ⟨e1, e2, e3⟩ := hs.opens
  have hok := hs.found.ok
  have hsl := hs.found.slot
  have h1 := hok.s1
  have h2 := hok.fit
  rw [hsl] at h1 h2
  refine (Open_ok h slot hs.on.off h1 h2).mono ?_
  rintro e w' ⟨b, A, c, he, hl, hn, hL, hb, hw⟩
  rw [e1] at hL
  rw [e2] at he hl
  rw [e3] at he
  exact ⟨b, A, c, he, hl, hn, hL, hb, hw⟩

theorem own_block6 {w w' : World} {base : Nat} {e : TypeId} {size n : Nat} {v : Value} {xs : List Value} (h : w.ownsRow base e size v n xs) (hb : ∀ j, v.ownBlock = some j → w'.heap[j]? = w.heap[j]?) : w'.ownsRow base e size v n xs := by
  obtain ⟨h1, h2⟩ := h
  refine ⟨h1, ?_⟩
  rcases h2 with ⟨h0, h00⟩ | ⟨g', cap', cur, h0, hb', hg, hn, hm, hs, ht⟩
  · exact .inl ⟨h0, h00⟩
  · subst h0
    exact .inr ⟨g', cap', cur, rfl, hb', (hb g' rfl).trans hg, hn, hm, hs, ht⟩

def abcL : List UInt8 := [97, 98, 99]
theorem wake6_bad (a : Nat) : addBad ⟨a, 2, 0, 1, 0, 0, false⟩ 12 abcL = 0 := by
  unfold addBad abcL secs
  simp

set_option maxHeartbeats 2000000 in
set_option maxRecDepth 100000 in
theorem awake6_any (w : World) : Calls Tryz.prog 27 #[] w fun e w' => e = .returned (.bool true) ∧ Below w.heap.size w w' := by
  go_enter Tryz.func27, Tryz.ntmps27
  go_wp2_with fail
  refine (New_ok 12 _ (by omega) (by omega)).mono ?_
  rintro e w1 ⟨a, F, rfl, hd, hF, hb⟩
  have HD := Lib.hid hd
  have HF := Lib.hid hF
  have HB := Lib.hid hb
  obtain ⟨hst, hlen⟩ := new_st 2 8 a (by omega) (by omega) (by omega)
  have HSt := Lib.hid hst
  have HLen : Hid ((DSt.new 12).seen.length = 12) := Lib.hid hlen
  have HApp := Lib.hid (append_st hst (l := abcL) (by rw [hlen]; exact wake6_bad a) (by decide))
  clear hd hF hb hst hlen
  go_wp2_with fail
  refine (Open_st HD.out HSt.out).mono ?_
  rintro e w2 ⟨b, A, c, rfl, _, _, hL, hb2, hw2⟩
  have HL := Lib.hid hL
  have hbF : ¬ F b := fun hf => by have := HD.out.low b hf; omega
  have HBF := Lib.hid hbF
  have HBl : Hid (w.heap.size ≤ b) := Lib.hid (Nat.le_trans HB.out.size hw2)
  have HB2 : Hid (Below w.heap.size w w2) := Lib.hid (HB.out.trans (hb2.mono HB.out.size))
  have HR : Hid (Calls Tryz.prog 23 #[.pointer (some ⟨b, 0, none⟩)] w2 fun e w' => e = .returned (.int .i64 192) ∧ ∃ m, w' = w2.drewN m) := Lib.hid (by
    have := Room_any hL
    rw [show (DSt.new 12).seen.length = 12 from HLen.out] at this
    exact this)
  clear hL hb2 hw2 hbF
  simp only [List.length_nil]
  have hemp2 : (str []).toList = [] := by rw [Lib.toList_data, str_list]
  have hemp : ((str []).toList == []) = true := by rw [hemp2]; rfl
  generalize str [] = S0 at hemp hemp2 ⊢
  go_wp2_with fail
  refine HR.out.mono ?_
  rintro e w3 ⟨rfl, m3, rfl⟩
  have HL3 := Lib.hid (HL.out.drewN m3)
  have HB3 : Hid (Below w.heap.size w (w2.drewN m3)) := Lib.hid (HB2.out.trans ((below_drawsW w2 m3).mono HB2.out.size))
  clear HR HL
  generalize w2.drewN m3 = w4 at HL3 HB3 ⊢
  go_wp2_with fail
  have HA : Hid (Calls Tryz.prog 19 #[.pointer (some ⟨b, 0, none⟩), .string ⟨#[97, 98, 99]⟩] w4 fun e w' => e = .returned .nilIface ∧ ∃ F' v' d', LogAt w' F' b v' d' ∧ d'.seen.length = 12 ∧ v'.slot = 2 ∧ v'.used = 2 ∧ v'.num = 2 ∧ v'.gen = 0 ∧ Moves (fun q => F q ∨ q = b) w4 w') := Lib.hid (by
    obtain ⟨e1, e2, e3, e4⟩ := HApp.out
    refine (Append_any HL3.out HBF.out abcL (by decide) (by rw [HSt.out.loose]; simp)).mono ?_
    rw [e1, e2]
    rintro e w' ⟨he, F', hL', _, hM, _⟩
    rw [if_pos rfl] at he
    rw [if_neg (by decide)] at hL'
    exact ⟨he, F', _, _, hL', by rw [e4]; exact HLen.out, rfl, rfl, rfl, rfl, hM⟩)
  refine HA.out.mono ?_
  rintro e w5 ⟨rfl, F', v', d', hL5, hlen5, hs5, hu5, hn5, hg5, hM5⟩
  have HB5 : Hid (Below w.heap.size w w5) := Lib.hid (HB3.out.trans (hM5.below (B := w.heap.size) HB3.out.size (fun j hj => by
    rcases hj with h | h
    · exact HF.out j h
    · rw [h]; exact HBl.out)))
  have HR5 : Hid (Calls Tryz.prog 23 #[.pointer (some ⟨b, 0, none⟩)] w5 fun e w' => e = .returned (.int .i64 128) ∧ ∃ m, w' = w5.drewN m) := Lib.hid (by
    have := Room_any hL5
    rw [hlen5, hs5, hu5] at this
    exact this)
  have HN5 : Hid (∀ m, Calls Tryz.prog 21 #[.pointer (some ⟨b, 0, none⟩)] (w5.drewN m) fun e w' => e = .returned (.int .i64 2) ∧ w5.drewN m = w') := Lib.hid (fun m => by
    have := Number_anyW (hL5.drewN m).wal
    rw [hn5] at this
    exact this)
  have HG5 : Hid (∀ m, Calls Tryz.prog 22 #[.pointer (some ⟨b, 0, none⟩)] (w5.drewN m) fun e w' => e = .returned (.int .i64 0) ∧ w5.drewN m = w') := Lib.hid (fun m => by
    have := Generation_any (hL5.drewN m).wal
    rw [hg5] at this
    exact this)
  clear hL5 hlen5 hs5 hu5 hn5 hg5 hM5 HA HL3
  go_wp2_with fail
  refine HR5.out.mono ?_
  rintro e w6 ⟨rfl, m6, rfl⟩
  go_wp2_with fail
  refine (HN5.out m6).mono ?_
  rintro e w7 ⟨rfl, rfl⟩
  go_wp2_with fail
  refine (HG5.out m6).mono ?_
  rintro e w7 ⟨rfl, rfl⟩
  go_wp2_with fail
  go_ret
  exact ⟨rfl, HB5.out.trans ((below_drawsW w5 m6).mono HB5.out.size)⟩
end Go.Proofs.YtlelfakememckaaGreatDoor
