/- Contract of Open. What is written is read back, and order is kept: facts on the plain functions alone. The log on its disk, plain: what a header that is written tells when it is read; what is found behind an append and behind a checkpoint. -/
import Derived.Test.YtlelfakememckaaGreatDoorWalX
import Derived.Test.YtlelfakememckaaGreatDoorPlain
namespace Go.Proofs.YtlelfakememckaaGreatDoor
open Go.RowKit

def ReadCap (d : DSt) (w : World) (e : Ending) (w' : World) : Prop :=
  (if d.off = true then e = .returned (.tuple #[.slice none 0 0, .int .i64 7]) else ∃ g, e = .returned (.tuple #[.slice (some ⟨g, 0, none⟩) d.seen.length d.seen.length, .int .i64 0]) ∧ Lies w' w'.heap.size (some ⟨g, 0, none⟩) (d.seen.map secV) ∧ w.heap.size ≤ g) ∧ Below w.heap.size w w'


set_option maxHeartbeats 1600000 in
theorem readAll_cap {w : World} {F : Nat → Prop} {a : Nat} {d : DSt} (h : IsDisk w F a d) : Calls Tryz.prog 32 #[.pointer (some ⟨a, 0, none⟩)] w (ReadCap d w) := by
  have HD := Lib.hid h
  have hn := h.1.le
  have hpos := h.1.pos
  have hmk := make_strings d.seen.length hn
  have HR : Hid (∀ q, q < d.seen.length → d.off = false → d.readE (q : Int) = 0 ∧ d.readB (q : Int) = d.seen.getD q []) := Lib.hid (fun q hq ho => by
    have e1 : d.readE (q : Int) = 0 := by unfold DSt.readE; rw [if_neg (by rw [ho]; simp), if_pos ((d.has_iff _).2 (by omega))]
    refine ⟨e1, ?_⟩
    unfold DSt.readB
    rw [if_pos e1, Int.toNat_natCast])
  have HO : Hid (d.off = true → ∀ q : Int, d.readE q = 7) := Lib.hid (fun ho q => by unfold DSt.readE; rw [if_pos ho])
  have HOwn : Hid ((w.alloc (.cells (madeCells #[emptyV] d.seen.length) 9)).ownsRow w.heap.size 9 1 (.slice (some ⟨w.heap.size, 0, none⟩) d.seen.length d.seen.length) d.seen.length (part (d.seen.map secV) emptyV 0)) := Lib.hid (by
    have := World.ownsRow_lit (e := 9) (size := 1) (base := w.heap.size) w (madeCells #[emptyV] d.seen.length) d.seen.length (Nat.le_refl _) (by unfold maxLen; omega) (by simp [madeCells])
    rw [made_list] at this
    rw [part_zero, List.length_map]
    exact this)
  have HB0 : Hid (Below w.heap.size w (w.alloc (.cells (madeCells #[emptyV] d.seen.length) 9))) := Lib.hid ((Below.refl _ _).alloc (Nat.le_refl _) _)
  have HLen : Hid ((d.seen.map secV).length = d.seen.length) := Lib.hid (by simp)
  clear h
  go_enter Tryz.func32, Tryz.ntmps32
  go_wp2_with (go_at_call 30; refine (Size_any HD.out).mono ?_; rintro e w' ⟨rfl, rfl⟩)
  generalize w.alloc (.cells (madeCells #[emptyV] d.seen.length) 9) = V at *
  go_loopw [13] (fun i wr => ∃ q : Nat, q ≤ d.seen.length ∧ i = .int .i64 q ∧ Hid ((d.off = true → q = 0) ∧ wr.ownsRow w.heap.size 9 1 (.slice (some ⟨w.heap.size, 0, none⟩) d.seen.length d.seen.length) d.seen.length (part (d.seen.map secV) emptyV q) ∧ Below w.heap.size w wr)) (fun i _ => d.seen.length - (intOf i).toNat)
  case atStart => exact ⟨0, by omega, rfl, Lib.hid ⟨fun _ => rfl, HOwn.out, HB0.out⟩⟩
  case round =>
    clear HOwn HB0
    obtain ⟨q, hq, rfl, HS⟩ := hrel
    have HD5 : Hid (IsDisk wr F a d) := Lib.hid (HD.out.below HS.out.2.2)
    by_cases hlt : q < d.seen.length
    · by_cases hoff : d.off = true
      · have HE := Lib.hid (HO.out hoff (q : Int))
        have HF : Hid (∀ w', Below w.heap.size w w' → ReadCap d w (.returned (.tuple #[.slice none 0 0, .int .i64 7])) w') := Lib.hid (fun w' hb => ⟨by rw [if_pos hoff], hb⟩)
        clear HR HO hoff hmk
        go_wp2_with fail
        refine (Read_any HD5.out (q : Int)).mono ?_
        rw [HE.out]
        generalize str (d.readB (q : Int)) = S
        rintro e w' ⟨rfl, rfl⟩
        go_wp2_with fail
        go_ret2
        exact HF.out _ HS.out.2.2
      · have hoff' : d.off = false := by simpa using hoff
        obtain ⟨e1, e2⟩ := HR.out q hlt hoff'
        have hql : q < (d.seen.map secV).length := by rw [HLen.out]; exact hlt
        have HP := Lib.hid (part_set (d.seen.map secV) emptyV hql)
        have hval : (d.seen.map secV)[q] = .string (str (d.readB (q : Int))) := by
          rw [List.getElem_map, e2, List.getD_eq_getElem?_getD, List.getElem?_eq_getElem hlt]; rfl
        rw [hval] at HP
        have c1 := HS.out.2.1.cellAt q (by omega)
        have c2 := HS.out.2.1.frozenAt q
        have hpl : q < (part (d.seen.map secV) emptyV q).length := by unfold part; rw [List.length_append, List.length_replicate, List.length_take]; omega
        rw [List.getElem?_eq_getElem hpl] at c1
        obtain ⟨z, hz⟩ : ∃ z, (part (d.seen.map secV) emptyV q)[q] = z := ⟨_, rfl⟩
        rw [hz] at c1
        have HE1 := Lib.hid e1
        have HNo : Hid (d.off = true → q + 1 = 0) := Lib.hid (fun h => absurd h hoff)
        clear HR HO hoff hoff' hmk e1 e2 hval hpl hz hql
        go_wp2_with fail
        refine (Read_any HD5.out (q : Int)).mono ?_
        rw [HE1.out]
        generalize str (d.readB (q : Int)) = S at *
        rintro e w' ⟨rfl, rfl⟩
        have HS9 : Hid ((d.off = true → q + 1 = 0) ∧ (wr.setCell ⟨w.heap.size, q, none⟩ (.string S)).ownsRow w.heap.size 9 1 (.slice (some ⟨w.heap.size, 0, none⟩) d.seen.length d.seen.length) d.seen.length (part (d.seen.map secV) emptyV (q + 1)) ∧ Below w.heap.size w (wr.setCell ⟨w.heap.size, q, none⟩ (.string S))) := Lib.hid ⟨HNo.out, by rw [← HP.out]; exact own_setW HS.out.2.1 q _, HS.out.2.2.setCell (by simp) _⟩
        clear HS HP HNo HD5
        go_wp2_with fail
        go_roundw
        case rel => exact ⟨q + 1, by omega, by go_num, HS9⟩
        case measure => simp [intOf]; omega
    · have HQ : Hid (q = d.seen.length) := Lib.hid (by omega)
      have hge : d.seen.length ≤ q := by omega
      have hlt2 : decide ((q : Int) < (d.seen.length : Int)) = false := by rw [decide_eq_false_iff_not]; omega
      have HNo : Hid (d.off = false) := Lib.hid (by
        cases ho : d.off with
        | false => rfl
        | true => have := HS.out.1 ho; omega)
      clear HR HO hmk
      go_wp2_with fail
      go_ret2
      refine ⟨?_, HS.out.2.2⟩
      rw [if_neg (by rw [HNo.out]; simp)]
      refine ⟨w.heap.size, rfl, ?_, Nat.le_refl _⟩
      have := HS.out.2.1
      rw [HQ.out] at this
      have e2 : part (d.seen.map secV) emptyV d.seen.length = d.seen.map secV := by rw [← HLen.out]; exact part_all _ _
      rw [e2] at this
      exact own_lies_ this

/-- A header that a log may start from. -/
structure HdOk (h : Hd) (n slot : Nat) : Prop where
  g0 : 0 ≤ h.1
  g1 : h.1 ≤ 1099511627776
  l0 : 0 ≤ h.2.1
  l1 : h.2.1 ≤ 32 * ((slot : Int) - 1)
  p0 : 0 ≤ h.2.2.1
  p1 : h.2.2.1 < (n : Int) - 2 * (slot : Int)
  k0 : 1 ≤ h.2.2.2
  k1 : h.2.2.2 ≤ 1099511627776
theorem stepS_ok {xs : List (List UInt8)} {slot at_ : Nat} {cur : Hd} (h : HdOk cur xs.length slot) : HdOk (stepS xs slot at_ cur) xs.length slot := by
  unfold stepS
  split
  · rename_i hd he
    split
    · rename_i hc
      rw [Bool.and_eq_true] at hc
      have hv := hc.1
      unfold validB at hv
      rw [decide_eq_true_iff] at hv
      have hp := decS_pos he
      exact ⟨hp.1, hv.2.1, hp.2.1, hv.2.2.2.1, hp.2.2.1, hv.2.2.2.2.1, hv.2.2.2.2.2.1, hv.2.2.2.2.2.2⟩
    · exact h
  · exact h
theorem curS_ok {xs : List (List UInt8)} {slot : Nat} (hs : 2 ≤ slot) (hf : 2 * slot + 3 ≤ xs.length) : HdOk (curS xs slot) xs.length slot := by
  unfold curS curQ
  refine stepS_ok (stepS_ok ⟨by simp, by simp, by simp, ?_, by simp, ?_, by simp, by simp⟩)
  · simp only; omega
  · simp only; omega

/-- The log that stands on a disk: where its current slot says, then behind its records. -/
def slotV (a : Nat) (d : DSt) (slot : Nat) : WalV := ⟨a, slot, (curS d.seen slot).1, (curS d.seen slot).2.2.2, (curS d.seen slot).2.2.1.toNat, 0, false⟩
def openV (a : Nat) (d : DSt) (slot : Nat) : WalV := (scanR d.seen d.seen.length (slotV a d slot)).1
def openR (a : Nat) (d : DSt) (slot : Nat) : List (List UInt8) := (scanR d.seen d.seen.length (slotV a d slot)).2
def openS (d : DSt) (slot : Nat) : List UInt8 := stateOf d.seen slot (curS d.seen slot).1.toNat (curS d.seen slot).2.1.toNat
theorem slotV_ok {a : Nat} {d : DSt} {slot : Nat} (hn : d.seen.length ≤ 4096) (hs : 2 ≤ slot) (hf : 2 * slot + 3 ≤ d.seen.length) : (slotV a d slot).Ok d.seen.length := by
  have h := curS_ok hs hf
  have := h.p0
  have := h.p1
  have := h.k1
  refine ⟨hn, hs, hf, ?_, ?_, h.g0, h.g1, h.k0, ?_⟩
  · show (curS d.seen slot).2.2.1.toNat < d.seen.length - 2 * slot; omega
  · show 0 < d.seen.length - 2 * slot; omega
  · show (curS d.seen slot).2.2.2 ≤ _; omega

/-- What Open leaves where a log lies on the disk, and the power is on. -/
def OpenEnd (w : World) (F : Nat → Prop) (a : Nat) (d : DSt) (slot : Nat) (e : Ending) (w' : World) : Prop :=
  ∃ b A c, e = .returned (.tuple #[.pointer (some ⟨b, 0, none⟩), .string (str (openS d slot)), .slice A (openR a d slot).length c, .nilIface]) ∧ Lies w' w'.heap.size A ((openR a d slot).map secV) ∧ ((A = none → c = 0) ∧ ∀ p, A = some p → w.heap.size ≤ p.block ∧ p.block ≠ b) ∧ LogAt w' F b (openV a d slot) d ∧ Below w.heap.size w w' ∧ w.heap.size ≤ b

theorem seen_32 {w : World} {F : Nat → Prop} {a : Nat} {d : DSt} (h : IsDisk w F a d) : ∀ x ∈ d.seen, x.length = 32 := by
  obtain ⟨_, s, cs, u, cu, v, h⟩ := h
  intro x hx
  obtain ⟨i, hi, rfl⟩ := List.getElem_of_mem hx
  exact (h.seen.2 i hi).1

set_option maxHeartbeats 4000000 in
set_option maxRecDepth 100000 in
theorem Open_ok {w : World} {F : Nat → Prop} {a : Nat} {d : DSt} (h : IsDisk w F a d) (slot : Nat) (hoff : d.off = false) (hs : 2 ≤ slot) (hf : 2 * slot + 3 ≤ d.seen.length) :
    Calls Tryz.prog 7 #[.pointer (some ⟨a, 0, none⟩), .int .i64 slot] w (OpenEnd w F a d slot) := by
  have hn4 := h.1.le
  have HD := Lib.hid h
  have HX := Lib.hid (seen_32 h)
  have HFit : Hid (fitsE d.seen.length slot = true) := Lib.hid (by unfold fitsE; rw [decide_eq_true_iff]; omega)
  have HCur := Lib.hid (curS_ok hs hf)
  have HOk := Lib.hid (slotV_ok (a := a) hn4 hs hf)
  have HOff := Lib.hid hoff
  have HLow := Lib.hid h.low
  clear h hoff
  go_enter Tryz.func7, Tryz.ntmps7
  go_wp2_with fail
  refine (Size_any HD.out).mono ?_
  rintro e w' ⟨rfl, rfl⟩
  go_wp2_with fail
  refine (fits_any _ _ _ hn4).mono ?_
  rw [HFit.out]
  rintro e w' ⟨rfl, rfl⟩
  go_wp2_with fail
  refine (readAll_cap HD.out).mono ?_
  rintro e w1 ⟨he, hb1⟩
  rw [if_neg (by rw [HOff.out]; simp)] at he
  obtain ⟨g, rfl, hl1, hg1⟩ := he
  have HL1 := Lib.hid hl1
  have HB1 := Lib.hid hb1
  have hgl : g < w1.heap.size := (lies_at hl1 (i := 0) (by omega)).2
  clear hl1 hb1
  have hB2 : Below w.heap.size w (w1.alloc (.cells #[.pointer (some ⟨a, 0, none⟩), .int .i64 slot, .int .i64 0, .int .i64 0, .int .i64 0, .int .i64 0, .bool false] 76)) := HB1.out.alloc HB1.out.size _
  have HW2 : Hid (WalAt (w1.alloc (.cells #[.pointer (some ⟨a, 0, none⟩), .int .i64 slot, .int .i64 0, .int .i64 0, .int .i64 0, .int .i64 0, .bool false] 76)) w1.heap.size ⟨a, slot, 0, 0, 0, 0, false⟩) := Lib.hid (heap_alloc_new w1 _)
  have HB2 := Lib.hid hB2
  have HA2 : Hid (Lies (w1.alloc (.cells #[.pointer (some ⟨a, 0, none⟩), .int .i64 slot, .int .i64 0, .int .i64 0, .int .i64 0, .int .i64 0, .bool false] 76)) (w1.alloc (.cells #[.pointer (some ⟨a, 0, none⟩), .int .i64 slot, .int .i64 0, .int .i64 0, .int .i64 0, .int .i64 0, .bool false] 76)).heap.size (some ⟨g, 0, none⟩) (d.seen.map secV)) := Lib.hid (HL1.out.next ((Below.refl _ _).alloc (Nat.le_refl _) _))
  have hgb : g ≠ w1.heap.size := by omega
  clear HL1 hB2
  obtain ⟨b, hb⟩ : ∃ b, w1.heap.size = b := ⟨_, rfl⟩
  have hwb : w.heap.size ≤ b := by rw [← hb]; exact HB1.out.size
  have hFb : ∀ k, F k → k < b := fun k hk => by have := HLow.out k hk; omega
  have HFb := Lib.hid hFb
  clear hFb
  have HCs : Hid (∃ gen len pos : Nat, (curS d.seen slot).1 = (gen : Int) ∧ (curS d.seen slot).2.1 = (len : Int) ∧ (curS d.seen slot).2.2.1 = (pos : Int)) := Lib.hid (by
    have h := HCur.out
    exact ⟨_, _, _, (Int.toNat_of_nonneg h.g0).symm, (Int.toNat_of_nonneg h.l0).symm, (Int.toNat_of_nonneg h.p0).symm⟩)
  obtain ⟨gen, len, pos, eg, el, ep⟩ := HCs.out
  have EG := Lib.hid eg
  have EL := Lib.hid el
  have EP := Lib.hid ep
  clear HCs eg el ep
  have HLS := Lib.hid (loadState_of (v := ⟨a, slot, 0, 0, 0, 0, false⟩) HW2.out d.seen d.seen.length d.seen.length rfl (Nat.le_refl _) HA2.out hgb hn4 HX.out gen len pos (curS d.seen slot).2.2.2 (by have := HCur.out.g1; rw [EG.out] at this; omega) (by have := HCur.out.l1; rw [EL.out] at this; show len ≤ 32 * (slot - 1); omega) hs hf (by
    have := currentSlot_any d.seen g d.seen.length d.seen.length slot (w1.alloc (.cells #[.pointer (some ⟨a, 0, none⟩), .int .i64 slot, .int .i64 0, .int .i64 0, .int .i64 0, .int .i64 0, .bool false] 76)) rfl HA2.out (by omega) hn4 (fun x hx => by have := HX.out x hx; omega)
    unfold hdV at this
    rw [EG.out, EL.out, EP.out] at this
    exact this))
  rw [hb] at HLS HW2
  go_wp2_with fail
  refine HLS.out.mono ?_
  rintro e w3 ⟨rfl, hW3, hM3⟩
  have HL3 : Hid (LogAt w3 F b (slotV a d slot) d) := Lib.hid (by
    refine ⟨?_, (HD.out.below HB2.out).kept hM3 (fun k hk hf => by have := HFb.out k hf; omega), HOk.out⟩
    have e1 : slotV a d slot = { (⟨a, slot, 0, 0, 0, 0, false⟩ : WalV) with gen := (gen : Int), next := pos, num := (curS d.seen slot).2.2.2 } := by
      unfold slotV; rw [EG.out, EP.out]; rfl
    rw [e1]; exact hW3)
  have HB3 : Hid (Below w.heap.size w w3) := Lib.hid (HB2.out.trans (hM3.below HB2.out.size (fun i hi => by omega)))
  have HA3 : Hid (Lies w3 w3.heap.size (some ⟨g, 0, none⟩) (d.seen.map secV)) := Lib.hid (HA2.out.moves6 hM3 (fun b' off e => by simp only [Option.some.injEq, Addr.mk.injEq, and_true] at e; rw [← e.1]; omega))
  have HLR := Lib.hid (loadRecords_any (cap := d.seen.length) HL3.out (fun hf => by have := HFb.out b hf; omega) (by show (curS d.seen slot).2.2.2 ≤ 1099511627776 + ((0 : Nat) : Int); have := HCur.out.k1; omega) rfl HA3.out (by omega) HX.out)
  have HSt : Hid (stateOf d.seen slot gen len = openS d slot) := Lib.hid (by unfold openS; rw [EG.out, EL.out, Int.toNat_natCast, Int.toNat_natCast])
  clear hW3 hM3 HLS
  go_wp2_with fail
  refine HLR.out.mono ?_
  rintro e w4 ⟨A, c, rfl, hl4, hn5, hL4, hM4⟩
  have HE : Hid (OpenEnd w F a d slot (.returned (.tuple #[.pointer (some ⟨b, 0, none⟩), .string (str (stateOf d.seen slot gen len)), .slice A (openR a d slot).length c, .nilIface])) w4) := Lib.hid ⟨b, A, c, by rw [HSt.out], hl4, ⟨hn5.1, fun p hp => ⟨Nat.le_trans HB3.out.size (hn5.2 p hp), by have h1 := hn5.2 p hp; have h2 := heap_lt HL3.out.wal; omega⟩⟩, hL4, HB3.out.trans (hM4.below HB3.out.size (fun i hi => by omega)), hwb⟩
  clear hl4 hn5 hL4 hM4
  go_wp2_with fail
  (try simp only [Exit.inBlock, Exit.then])
  exact bodyPost_ret (v := .tuple #[.pointer (some ⟨b, 0, none⟩), .string (str (stateOf d.seen slot gen len)), .slice A (openR a d slot).length c, .nilIface]) (by simp [results, Tryz.results7, go_sem, openR]) rfl HE.out
end Go.Proofs.YtlelfakememckaaGreatDoor

namespace Go.Proofs.YtlelfakememckaaGreatDoor
open Go.RowKit

theorem str_toList (l : List UInt8) : (str l).toList = l := by rw [Lib.toList_data, str_list]

theorem putE_zero {n width : Int} (h : putE n width = 0) : ∃ m k : Nat, n = m ∧ width = k ∧ 1 ≤ k ∧ k ≤ 8 ∧ m < 256 ^ k := by
  unfold putE at h
  by_cases h1 : width < 1 ∨ 8 < width
  · rw [if_pos h1] at h; omega
  · rw [if_neg h1] at h
    by_cases h2 : n < 0 ∨ (256 : Int) ^ width.toNat ≤ n
    · rw [if_pos h2] at h; omega
    · obtain ⟨m, rfl⟩ := Int.eq_ofNat_of_zero_le (show 0 ≤ n by omega)
      obtain ⟨k, rfl⟩ := Int.eq_ofNat_of_zero_le (show 0 ≤ width by omega)
      rw [Int.toNat_natCast, pow_256_le] at h2
      exact ⟨m, k, rfl, rfl, by omega, by omega, by omega⟩

theorem getE_enc {m k : Nat} (h1 : 1 ≤ k) (h2 : k ≤ 8) (h : m < 256 ^ k) (hm : m ≤ 9223372036854775807) : getE (enc k m) = 0 :=
  getE_ok (by rw [enc_length]; omega) (by rw [enc_length]; omega) (by rw [dec_enc_of_lt h]; omega)
theorem getN_enc {m k : Nat} (h1 : 1 ≤ k) (h2 : k ≤ 8) (h : m < 256 ^ k) (hm : m ≤ 9223372036854775807) : getN (enc k m) = m := by
  rw [getN_ok (getE_enc h1 h2 h hm), dec_enc_of_lt h]

theorem take_enc (k m : Nat) (l : List UInt8) : (enc k m ++ l).take k = enc k m := by
  rw [List.take_append_of_le_length (by rw [enc_length]; omega), List.take_of_length_le (by rw [enc_length]; omega)]
theorem drop_enc (k m : Nat) (l : List UInt8) : (enc k m ++ l).drop k = l := by
  rw [List.drop_append_of_le_length (by rw [enc_length]; omega), List.drop_of_length_le (by rw [enc_length]; omega), List.nil_append]

theorem numE_enc {m k : Nat} (h1 : 1 ≤ k) (h2 : k ≤ 8) (h : m < 256 ^ k) (hm : m ≤ 9223372036854775807) (l : List UInt8) : numE (enc k m ++ l) (k : Int) = 0 := by
  rw [numE_get h1 h2 (by rw [List.length_append, enc_length]; omega), take_enc, getE_enc h1 h2 h hm]
theorem numN_enc {m k : Nat} (h1 : 1 ≤ k) (h2 : k ≤ 8) (h : m < 256 ^ k) (hm : m ≤ 9223372036854775807) (l : List UInt8) : numN (enc k m ++ l) (k : Int) = m := by
  rw [numN_ok (numE_enc h1 h2 h hm l), take_enc, dec_enc_of_lt h]
theorem numR_enc {m k : Nat} (h1 : 1 ≤ k) (h2 : k ≤ 8) (h : m < 256 ^ k) (hm : m ≤ 9223372036854775807) (l : List UInt8) : numR (enc k m ++ l) (k : Int) = l := by
  rw [numR_ok (numE_enc h1 h2 h hm l), drop_enc]

theorem takeE_text (l more : List UInt8) (h : l.length ≤ 65535) : takeE ((enc 2 l.length ++ l) ++ more) = 0 := by
  have hd : dec (enc 2 l.length) = l.length := dec_enc_of_lt (by omega)
  refine takeE_ok (by simp [enc_length]) ?_
  rw [List.append_assoc, take_enc, hd]
  simp only [List.length_append, enc_length]
  omega
theorem takeA_text (l more : List UInt8) (h : l.length ≤ 65535) : takeA ((enc 2 l.length ++ l) ++ more) = l := by
  have hd : dec (enc 2 l.length) = l.length := dec_enc_of_lt (by omega)
  rw [takeA_ok (takeE_text l more h), List.append_assoc, take_enc, drop_enc, hd, List.take_left]
theorem takeR_text (l more : List UInt8) (h : l.length ≤ 65535) : takeR ((enc 2 l.length ++ l) ++ more) = more := by
  have hd : dec (enc 2 l.length) = l.length := dec_enc_of_lt (by omega)
  rw [takeR_ok (takeE_text l more h), List.append_assoc, take_enc, drop_enc, hd, List.drop_left]

theorem less_enc (k a b : Nat) : Op.bytesLess (enc k a) (enc k b) = decide (a % 256 ^ k < b % 256 ^ k) := by
  induction k generalizing a b with
  | zero => simp [enc, Op.bytesLess, Nat.mod_one]
  | succ k ih =>
    rw [enc_cons, enc_cons, Op.bytesLess, ih, Nat.pow_succ, Nat.mod_mul, Nat.mod_mul]
    have hp : 0 < 256 ^ k := Nat.pow_pos (by omega)
    have ha := Nat.mod_lt a hp
    have hb := Nat.mod_lt b hp
    have ea : (UInt8.ofNat (a / 256 ^ k)).toNat = a / 256 ^ k % 256 := by simp [UInt8.toNat_ofNat']
    have eb : (UInt8.ofNat (b / 256 ^ k)).toNat = b / 256 ^ k % 256 := by simp [UInt8.toNat_ofNat']
    rw [Bool.eq_iff_iff]
    simp only [Bool.or_eq_true, Bool.and_eq_true, decide_eq_true_eq, beq_iff_eq, UInt8.lt_iff_toNat_lt, ← UInt8.toNat_inj, ea, eb]
    generalize a / 256 ^ k % 256 = x at *
    generalize b / 256 ^ k % 256 = y at *
    generalize a % 256 ^ k = u at *
    generalize b % 256 ^ k = v at *
    generalize 256 ^ k = P at *
    rcases Nat.lt_trichotomy x y with h | h | h
    · have : P * (x + 1) ≤ P * y := Nat.mul_le_mul_left _ h
      rw [Nat.mul_add] at this
      exact ⟨fun _ => by omega, fun _ => Or.inl h⟩
    · subst h
      exact ⟨fun h => by omega, fun h => Or.inr ⟨rfl, by omega⟩⟩
    · have : P * (y + 1) ≤ P * x := Nat.mul_le_mul_left _ h
      rw [Nat.mul_add] at this
      exact ⟨fun h => by omega, fun h => by omega⟩

theorem less_enc_of {k a b : Nat} (ha : a < 256 ^ k) (hb : b < 256 ^ k) : Op.bytesLess (enc k a) (enc k b) = decide (a < b) := by
  rw [less_enc, Nat.mod_eq_of_lt ha, Nat.mod_eq_of_lt hb]
theorem same_enc_of {k a b : Nat} (ha : a < 256 ^ k) (hb : b < 256 ^ k) : (enc k a == enc k b) = decide (a = b) := by
  rw [Bool.eq_iff_iff]
  simp only [beq_iff_eq, decide_eq_true_eq]
  exact ⟨enc_inj ha hb, fun h => by rw [h]⟩

end Go.Proofs.YtlelfakememckaaGreatDoor

namespace Go.Proofs.YtlelfakememckaaGreatDoor
open Go.RowKit

/-! ### Headers -/

theorem zeroB_replicate (k : Nat) : zeroB (List.replicate k 0) = true := by unfold zeroB; simp
theorem putB_enc {n k : Nat} (h1 : 1 ≤ k) (h2 : k ≤ 8) (h : n < 256 ^ k) : putB (n : Int) (k : Int) = enc k n := putB_ok (putE_ok h1 h2 h)
theorem recHead_enc {num len : Nat} (h1 : num ≤ 9223372036854775807) (h2 : len < 4294967296) : recHead num len = [82] ++ enc 8 num ++ enc 4 len := by
  have e1 : putB (num : Int) 8 = enc 8 num := putB_enc (k := 8) (by omega) (by omega) (by omega)
  have e2 : putB (len : Int) 4 = enc 4 len := putB_enc (k := 4) (by omega) (by omega) (by omega)
  unfold recHead; rw [e1, e2]
theorem slotHead_enc {gen len pos num : Nat} (h0 : gen ≤ 9223372036854775807) (h1 : len < 4294967296) (h2 : pos < 4294967296) (h3 : num ≤ 9223372036854775807) : slotHead gen len pos num = [83] ++ enc 8 gen ++ enc 4 len ++ enc 4 pos ++ enc 8 num := by
  have e0 : putB (gen : Int) 8 = enc 8 gen := putB_enc (k := 8) (by omega) (by omega) (by omega)
  have e1 : putB (len : Int) 4 = enc 4 len := putB_enc (k := 4) (by omega) (by omega) (by omega)
  have e2 : putB (pos : Int) 4 = enc 4 pos := putB_enc (k := 4) (by omega) (by omega) (by omega)
  have e3 : putB (num : Int) 8 = enc 8 num := putB_enc (k := 8) (by omega) (by omega) (by omega)
  unfold slotHead; rw [e0, e1, e2, e3]
theorem recHead_len {num len : Nat} (h1 : num ≤ 9223372036854775807) (h2 : len < 4294967296) : (recHead num len).length = 13 := by
  rw [recHead_enc h1 h2]; simp [enc_length]
theorem slotHead_len {gen len pos num : Nat} (h0 : gen ≤ 9223372036854775807) (h1 : len < 4294967296) (h2 : pos < 4294967296) (h3 : num ≤ 9223372036854775807) : (slotHead gen len pos num).length = 25 := by
  rw [slotHead_enc h0 h1 h2 h3]; simp [enc_length]

theorem nums_one {k m : Nat} (h1 : 1 ≤ k) (h2 : k ≤ 8) (h : m < 256 ^ k) (hm : m ≤ 9223372036854775807) (l : List UInt8) (ks : List Int) : numsOf (enc k m ++ l) ((k : Int) :: ks) = (numsOf l ks).map (fun xs => (m : Int) :: xs) := by
  rw [numsOf, if_pos (numE_enc h1 h2 h hm l), numN_enc h1 h2 h hm l, numR_enc h1 h2 h hm l]
theorem nums_end (k : Nat) : numsOf (List.replicate k 0) [] = some [] := by rw [numsOf, if_pos (zeroB_replicate k)]
theorem decR_enc {num len : Nat} (h1 : num ≤ 9223372036854775807) (h2 : len < 4294967296) : decR (padB (recHead num len)) = some ((num : Int), (len : Int)) := by
  have e0 : padB (recHead num len) = 82 :: (enc 8 num ++ (enc 4 len ++ List.replicate 19 0)) := by
    unfold padB; rw [recHead_len h1 h2, recHead_enc h1 h2]; simp
  have e1 : numsOf (enc 8 num ++ (enc 4 len ++ List.replicate 19 0)) [8, 4] = some [(num : Int), (len : Int)] := by
    have a1 := nums_one (k := 8) (m := num) (by omega) (by omega) (by omega) h1 (enc 4 len ++ List.replicate 19 0) [4]
    have a2 := nums_one (k := 4) (m := len) (by omega) (by omega) (by omega) (by omega) (List.replicate 19 0) []
    rw [nums_end] at a2
    have a2' : numsOf (enc 4 len ++ List.replicate 19 0) [4] = some [(len : Int)] := a2
    rw [a2'] at a1
    exact a1
  rw [e0]
  unfold decR headOf
  rw [if_pos (by rfl)]
  rw [show cutR (82 :: (enc 8 num ++ (enc 4 len ++ List.replicate 19 0))) 82 = enc 8 num ++ (enc 4 len ++ List.replicate 19 0) from rfl, e1]
theorem decS_enc {gen len pos num : Nat} (h0 : gen ≤ 9223372036854775807) (h1 : len < 4294967296) (h2 : pos < 4294967296) (h3 : num ≤ 9223372036854775807) : decS (padB (slotHead gen len pos num)) = some ((gen : Int), (len : Int), (pos : Int), (num : Int)) := by
  have e0 : padB (slotHead gen len pos num) = 83 :: (enc 8 gen ++ (enc 4 len ++ (enc 4 pos ++ (enc 8 num ++ List.replicate 7 0)))) := by
    unfold padB; rw [slotHead_len h0 h1 h2 h3, slotHead_enc h0 h1 h2 h3]; simp
  have e1 : numsOf (enc 8 gen ++ (enc 4 len ++ (enc 4 pos ++ (enc 8 num ++ List.replicate 7 0)))) [8, 4, 4, 8] = some [(gen : Int), (len : Int), (pos : Int), (num : Int)] := by
    have a1 := nums_one (k := 8) (m := gen) (by omega) (by omega) (by omega) h0 (enc 4 len ++ (enc 4 pos ++ (enc 8 num ++ List.replicate 7 0))) [4, 4, 8]
    have a2 : numsOf (enc 4 len ++ (enc 4 pos ++ (enc 8 num ++ List.replicate 7 0))) [4, 4, 8] = _ := nums_one (k := 4) (m := len) (by omega) (by omega) (by omega) (by omega) (enc 4 pos ++ (enc 8 num ++ List.replicate 7 0)) [4, 8]
    have a3 : numsOf (enc 4 pos ++ (enc 8 num ++ List.replicate 7 0)) [4, 8] = _ := nums_one (k := 4) (m := pos) (by omega) (by omega) (by omega) (by omega) (enc 8 num ++ List.replicate 7 0) [8]
    have a4 : numsOf (enc 8 num ++ List.replicate 7 0) [8] = _ := nums_one (k := 8) (m := num) (by omega) (by omega) (by omega) h3 (List.replicate 7 0) []
    rw [nums_end] at a4
    rw [a4] at a3
    rw [a3] at a2
    rw [a2] at a1
    exact a1
  rw [e0]
  unfold decS headOf
  rw [if_pos (by rfl)]
  rw [show cutR (83 :: (enc 8 gen ++ (enc 4 len ++ (enc 4 pos ++ (enc 8 num ++ List.replicate 7 0))))) 83 = enc 8 gen ++ (enc 4 len ++ (enc 4 pos ++ (enc 8 num ++ List.replicate 7 0))) from rfl, e1]

def zeroS : List UInt8 := List.replicate 32 0
theorem zeroS_pad : padB [] = zeroS := rfl
theorem decR_zero : decR zeroS = none := rfl
theorem decS_zero : decS zeroS = none := rfl

/-! ### Pieces -/

theorem cuts_count (l : List UInt8) : (cutsOf l).length = secs l.length := by
  obtain ⟨n, hn⟩ : ∃ n, l.length = n := ⟨_, rfl⟩
  induction n using Nat.strongRecOn generalizing l with
  | _ n ih =>
    by_cases h : 32 < l.length
    · rw [cuts_long h, List.length_cons, ih (n - 32) (by omega) (l.drop 32) (by rw [List.length_drop]; omega), List.length_drop]
      unfold secs; omega
    · by_cases h2 : l = []
      · subst h2; rfl
      · rw [cuts_last h h2]
        have : 0 < l.length := List.length_pos_iff.2 h2
        unfold secs; simp only [List.length_singleton]; omega
theorem cuts_short (l : List UInt8) : ∀ p ∈ cutsOf l, p.length ≤ 32 := by
  obtain ⟨n, hn⟩ : ∃ n, l.length = n := ⟨_, rfl⟩
  induction n using Nat.strongRecOn generalizing l with
  | _ n ih =>
    by_cases h : 32 < l.length
    · rw [cuts_long h]
      intro p hp
      rcases List.mem_cons.1 hp with e | e
      · subst e; rw [List.length_take]; omega
      · exact ih (n - 32) (by omega) (l.drop 32) (by rw [List.length_drop]; omega) p e
    · by_cases h2 : l = []
      · subst h2; rw [cuts_none]; simp
      · rw [cuts_last h h2]
        intro p hp
        rw [List.mem_singleton] at hp
        subst hp; omega
theorem padB_full {l : List UInt8} (h : l.length = 32) : padB l = l := by unfold padB; rw [h]; simp
theorem cuts_join (l : List UInt8) : (((cutsOf l).map padB).flatten).take l.length = l := by
  obtain ⟨n, hn⟩ : ∃ n, l.length = n := ⟨_, rfl⟩
  induction n using Nat.strongRecOn generalizing l with
  | _ n ih =>
    by_cases h : 32 < l.length
    · have h1 := ih (n - 32) (by omega) (l.drop 32) (by rw [List.length_drop]; omega)
      rw [cuts_long h, List.map_cons, List.flatten_cons, padB_full (by rw [List.length_take]; omega), List.take_append, List.length_take, List.take_take]
      rw [show min 32 l.length = 32 from by omega, show min l.length 32 = 32 from by omega]
      rw [List.length_drop] at h1
      rw [h1, List.take_append_drop]
    · by_cases h2 : l = []
      · subst h2; rfl
      · rw [cuts_last h h2, List.map_singleton, List.flatten_singleton]
        unfold padB
        rw [List.take_left]

/-! ### Writes to sectors -/

theorem applyAll_out : ∀ (ps : List (Nat × List UInt8)) (xs : List (List UInt8)) {j : Nat}, (∀ p ∈ ps, p.1 ≠ j) → (applyAll xs ps).getD j [] = xs.getD j []
  | [], _, _, _ => rfl
  | p :: ps, xs, j, h => by
    show (applyAll (xs.set p.1 p.2) ps).getD j [] = _
    rw [applyAll_out ps _ (fun q hq => h q (List.mem_cons_of_mem _ hq))]
    rw [List.getD_eq_getElem?_getD, List.getD_eq_getElem?_getD, List.getElem?_set_ne (h p List.mem_cons_self)]
theorem applyAll_in : ∀ (ps : List (Nat × List UInt8)) (xs : List (List UInt8)) {p : Nat × List UInt8}, p ∈ ps → ps.Pairwise (fun a b => a.1 ≠ b.1) → p.1 < xs.length → (applyAll xs ps).getD p.1 [] = p.2
  | [], _, _, h, _, _ => by cases h
  | q :: ps, xs, p, h, hp, hl => by
    show (applyAll (xs.set q.1 q.2) ps).getD p.1 [] = _
    rw [List.pairwise_cons] at hp
    rcases List.mem_cons.1 h with e | e
    · subst e
      rw [applyAll_out ps _ (fun z hz => (hp.1 z hz).symm), List.getD_eq_getElem?_getD, List.getElem?_set_self hl]; rfl
    · exact applyAll_in ps _ e hp.2 (by rw [List.length_set]; exact hl)

/-! ### What a disk takes whose power does not go -/

structure DSt.On (d : DSt) : Prop where
  off : d.off = false
  armed : d.armed = false
theorem DSt.On.lasts {d : DSt} (h : d.On) : d.lasts = true := by unfold DSt.lasts; rw [h.armed]; rfl
theorem DSt.On.spent {d : DSt} (h : d.On) : d.spent = d := by unfold DSt.spent; rw [h.armed]; rfl
def padP (p : Nat × List UInt8) : Nat × List UInt8 := (p.1, padB p.2)
theorem write_on {d : DSt} (h : d.On) {i : Nat} {s : List UInt8} (hi : i < d.seen.length) (hs : s.length ≤ 32) : d.writeE (i : Int) s = 0 ∧ d.writeD (i : Int) s = d.put i (padB s) := by
  have hh : d.has (i : Int) = true := (d.has_iff _).2 (by omega)
  constructor
  · unfold DSt.writeE
    rw [if_neg (by rw [h.off]; simp), if_neg (by rw [hh]; simp), if_neg (by omega), if_pos h.lasts]
  · unfold DSt.writeD
    rw [if_neg (by rw [h.off, hh]; simp; omega), if_pos h.lasts, h.spent, Int.toNat_natCast]
theorem puts_on : ∀ (ps : List (Nat × List UInt8)) {d : DSt}, d.On → (∀ p ∈ ps, p.1 < d.seen.length ∧ p.2.length ≤ 32) →
    d.putsE ps = true ∧ (d.putsD ps).seen = applyAll d.seen (ps.map padP) ∧ (d.putsD ps).loose = d.loose ++ ps.map padP ∧ (d.putsD ps).firm = d.firm ∧ (d.putsD ps).On
  | [], d, h, _ => ⟨rfl, rfl, by simp [DSt.putsD], rfl, h⟩
  | p :: ps, d, h, hp => by
    obtain ⟨h1, h2⟩ := hp p List.mem_cons_self
    obtain ⟨e1, e2⟩ := write_on h h1 h2
    have ho : (d.put p.1 (padB p.2)).On := ⟨h.off, h.armed⟩
    obtain ⟨g1, g2, g3, g4, g5⟩ := puts_on ps ho (fun q hq => by
      show q.1 < (d.seen.set p.1 (padB p.2)).length ∧ _
      rw [List.length_set]; exact hp q (List.mem_cons_of_mem _ hq))
    unfold DSt.putsE DSt.putsD
    rw [if_pos e1, if_pos e1, e2]
    refine ⟨g1, g2, ?_, g4, g5⟩
    rw [g3]
    show (d.loose ++ [(p.1, padB p.2)]) ++ _ = _
    rw [List.append_assoc]; rfl
theorem firm_on {ps : List (Nat × List UInt8)} {d : DSt} (h : d.On) (hp : ∀ p ∈ ps, p.1 < d.seen.length ∧ p.2.length ≤ 32) :
    d.firmE ps = true ∧ (d.firmD ps).seen = applyAll d.seen (ps.map padP) ∧ (d.firmD ps).loose = [] ∧ (d.firmD ps).firm = applyAll d.firm (d.loose ++ ps.map padP) ∧ (d.firmD ps).On := by
  obtain ⟨g1, g2, g3, g4, g5⟩ := puts_on ps h hp
  have e1 : (d.putsD ps).flushE = 0 := by unfold DSt.flushE; rw [if_neg (by rw [g5.off]; simp), if_pos g5.lasts]
  have e2 : (d.putsD ps).flushD = (d.putsD ps).firmAll := by unfold DSt.flushD; rw [if_neg (by rw [g5.off]; simp), if_pos g5.lasts, g5.spent]
  unfold DSt.firmE DSt.firmD
  rw [if_pos g1, e2, g1, e1]
  refine ⟨rfl, g2, rfl, ?_, ⟨g5.off, g5.armed⟩⟩
  show applyAll (d.putsD ps).firm (d.putsD ps).loose = _
  rw [g3, g4]
theorem store_on {ps : List (Nat × List UInt8)} {q : Nat × List UInt8} {d : DSt} (h : d.On) (hp : ∀ p ∈ ps, p.1 < d.seen.length ∧ p.2.length ≤ 32) (hq : q.1 < d.seen.length ∧ q.2.length ≤ 32) :
    d.storeE ps q = true ∧ (d.storeD ps q).seen = applyAll d.seen ((ps ++ [q]).map padP) ∧ (d.storeD ps q).loose = [] ∧ (d.storeD ps q).firm = applyAll d.firm (d.loose ++ (ps ++ [q]).map padP) ∧ (d.storeD ps q).On := by
  obtain ⟨g1, g2, g3, g4, g5⟩ := firm_on h hp
  obtain ⟨k1, k2, k3, k4, k5⟩ := firm_on (ps := [q]) g5 (fun p hp => by
    rw [List.mem_singleton] at hp
    subst hp
    rw [g2, applyAll_length]; exact hq)
  unfold DSt.storeE DSt.storeD
  rw [if_pos g1, g1, k1]
  refine ⟨rfl, ?_, k3, ?_, k5⟩
  · rw [k2, g2, List.map_append, applyAll_append]
  · rw [k4, g3, g4, List.nil_append, List.map_append, ← List.append_assoc, ← applyAll_append]

/-! ### Records one behind the other -/

def Runs (xs : List (List UInt8)) : WalV → List (List UInt8) → WalV → Prop
  | v, [], v' => v = v'
  | v, r :: rs, v' => ∃ len, recAt xs v = some len ∧ recB xs v len = r ∧ Runs xs (v.pass xs.length len) rs v'
theorem runs_scan {xs : List (List UInt8)} : ∀ {rs : List (List UInt8)} {v v' : WalV} {f : Nat}, Runs xs v rs v' → recAt xs v' = none → rs.length ≤ f → scanR xs f v = (v', rs)
  | [], v, v', f, h, hn, _ => by
    have e : v = v' := h
    subst e; exact scanR_stop hn f
  | r :: rs, v, v', f, h, hn, hf => by
    obtain ⟨len, h1, h2, h3⟩ := h
    obtain ⟨g, rfl⟩ : ∃ g, f = g + 1 := ⟨f - 1, by simp only [List.length_cons] at hf; omega⟩
    rw [scanR_go h1, runs_scan h3 hn (by simp only [List.length_cons] at hf; omega), h2]
theorem runs_snoc {xs : List (List UInt8)} : ∀ {rs : List (List UInt8)} {v v' : WalV} {len : Nat}, Runs xs v rs v' → recAt xs v' = some len → Runs xs v (rs ++ [recB xs v' len]) (v'.pass xs.length len)
  | [], v, v', len, h, hn => by
    have e : v = v' := h
    subst e; exact ⟨len, hn, rfl, rfl⟩
  | r :: rs, v, v', len, h, hn => by
    obtain ⟨l, h1, h2, h3⟩ := h
    exact ⟨l, h1, h2, runs_snoc h3 hn⟩
/-- What stays along a run. -/
structure RunKeep (v v' : WalV) (rs : List (List UInt8)) : Prop where
  slot : v'.slot = v.slot
  gen : v'.gen = v.gen
  disk : v'.disk = v.disk
  down : v'.down = v.down
  used : v.used + rs.length ≤ v'.used
  num : v'.num = v.num + rs.length
theorem runs_keep {xs : List (List UInt8)} : ∀ {rs : List (List UInt8)} {v v' : WalV}, Runs xs v rs v' → RunKeep v v' rs
  | [], v, v', h => by
    have e : v = v' := h
    subst e; exact ⟨rfl, rfl, rfl, rfl, by simp, by simp⟩
  | r :: rs, v, v', h => by
    obtain ⟨len, _, _, h3⟩ := h
    have k := runs_keep h3
    refine ⟨k.slot, k.gen, k.disk, k.down, ?_, ?_⟩
    · have : v.used + (1 + secs len) + rs.length ≤ v'.used := k.used
      simp only [List.length_cons]; omega
    · have : v'.num = v.num + 1 + rs.length := k.num
      rw [this, List.length_cons]; omega
theorem place_pass (v : WalV) (n len k : Nat) : (v.pass n len).place n k = v.place n (1 + secs len + k) := by
  unfold WalV.place
  show ((v.next + (1 + secs len)) % (n - 2 * v.slot) + k) % (n - 2 * v.slot) = _
  rw [Nat.mod_add_mod]; congr 1; omega
theorem runs_place {xs : List (List UInt8)} : ∀ {rs : List (List UInt8)} {v v' : WalV}, Runs xs v rs v' → ∀ k, v'.place xs.length k = v.place xs.length (v'.used - v.used + k)
  | [], v, v', h, k => by
    have e : v = v' := h
    subst e; rw [Nat.sub_self, Nat.zero_add]
  | r :: rs, v, v', h, k => by
    obtain ⟨len, _, _, h3⟩ := h
    have hk : v.used + (1 + secs len) + rs.length ≤ v'.used := (runs_keep h3).used
    have e := runs_place h3 k
    rw [place_pass] at e
    rw [e]
    have : (v.pass xs.length len).used = v.used + (1 + secs len) := rfl
    rw [this]; congr 1; omega
/-- Two disks that are the same where the records stand. -/
theorem runs_congr {xs ys : List (List UInt8)} (hl : ys.length = xs.length) : ∀ {rs : List (List UInt8)} {v v' : WalV}, Runs xs v rs v' →
    (∀ k, k < v'.used - v.used → ys.getD (2 * v.slot + v.place xs.length k) [] = xs.getD (2 * v.slot + v.place xs.length k) []) → Runs ys v rs v'
  | [], _, _, h, _ => h
  | r :: rs, v, v', h, ha => by
    obtain ⟨len, h1, h2, h3⟩ := h
    have hk : v.used + (1 + secs len) + rs.length ≤ v'.used := (runs_keep h3).used
    refine ⟨len, ?_, ?_, ?_⟩
    · rw [← h1]; unfold recAt; rw [hl, ha 0 (by omega)]
    · rw [← h2]; unfold recB
      have : recSecs ys v (secs len) = recSecs xs v (secs len) := by
        unfold recSecs
        apply List.map_congr_left
        intro i hi
        rw [List.mem_range] at hi
        rw [hl]; exact ha (1 + i) (by omega)
      rw [this]
    · rw [hl]
      refine runs_congr hl h3 (fun k hk2 => ?_)
      have hu : (v.pass xs.length len).used = v.used + (1 + secs len) := rfl
      rw [hu] at hk2
      rw [place_pass]
      exact ha (1 + secs len + k) (by omega)
theorem place_inj {v : WalV} {n i j : Nat} (hi : i < n - 2 * v.slot) (hj : j < n - 2 * v.slot) (h : v.place n i = v.place n j) : i = j := by
  unfold WalV.place at h
  generalize n - 2 * v.slot = m at *
  have h1 := Nat.div_add_mod (v.next + i) m
  have h2 := Nat.div_add_mod (v.next + j) m
  rw [h] at h1
  generalize (v.next + i) / m = p at *
  generalize (v.next + j) / m = q at *
  rcases Nat.lt_trichotomy p q with e | e | e
  · have : m * (p + 1) ≤ m * q := Nat.mul_le_mul_left _ e
    rw [Nat.mul_add] at this; omega
  · subst e; omega
  · have : m * (q + 1) ≤ m * p := Nat.mul_le_mul_left _ e
    rw [Nat.mul_add] at this; omega
end Go.Proofs.YtlelfakememckaaGreatDoor
