/- Contract of Open. -/
import Derived.Test.YtgnijpjdkipaaaaGreatDoorWalX
namespace Go.Proofs.YtgnijpjdkipaaaaGreatDoor
open Go.RowKit

def ReadCap (d : DSt) (w : World) (e : Ending) (w' : World) : Prop :=
  (if d.off = true then e = .returned (.tuple #[.slice none 0 0, .int .i64 7]) else ∃ g, e = .returned (.tuple #[.slice (some ⟨g, 0, none⟩) d.seen.length d.seen.length, .int .i64 0]) ∧ Lies w' w'.heap.size (some ⟨g, 0, none⟩) (d.seen.map secV) ∧ w.heap.size ≤ g) ∧ Below w.heap.size w w'


set_option maxHeartbeats 1600000 in
theorem readAll_cap {w : World} {F : Nat → Prop} {a : Nat} {d : DSt} (h : IsDisk w F a d) : Calls Tryz.prog 47 #[.pointer (some ⟨a, 0, none⟩)] w (ReadCap d w) := by
  have HD := Lib.hid h
  have hn := h.1.le
  have hpos := h.1.pos
  have hmk := make_strings d.seen.length hn
  have HR : Hid (∀ q, q < d.seen.length → d.off = false → d.readE (q : Int) = 0 ∧ d.readB (q : Int) = d.seen.getD q []) := Lib.hid (fun q hq ho => by
    have e1 : d.readE (q : Int) = 0 := by unfold DSt.readE; rw [if_neg (by rw [ho]; simp), if_pos ((d.has_iff _).2 (by omega))]
    refine ⟨e1, ?_⟩
    unfold DSt.readB
    rw [if_pos e1, Int.toNat_natCast])
  have HO : Hid (d.off = true → ∀ q : Int, d.readE q = 7) := Lib.hid (fun ho q => by unfold DSt.readE; rw [if_pos ho])
  have HOwn : Hid ((w.alloc (.cells (madeCells #[emptyV] d.seen.length) 9)).ownsRow w.heap.size 9 1 (.slice (some ⟨w.heap.size, 0, none⟩) d.seen.length d.seen.length) d.seen.length (part (d.seen.map secV) emptyV 0)) := Lib.hid (by
    have := World.ownsRow_lit (e := 9) (size := 1) (base := w.heap.size) w (madeCells #[emptyV] d.seen.length) d.seen.length (Nat.le_refl _) (by unfold maxLen; omega) (by simp [madeCells])
    rw [made_list] at this
    rw [part_zero, List.length_map]
    exact this)
  have HB0 : Hid (Below w.heap.size w (w.alloc (.cells (madeCells #[emptyV] d.seen.length) 9))) := Lib.hid ((Below.refl _ _).alloc (Nat.le_refl _) _)
  have HLen : Hid ((d.seen.map secV).length = d.seen.length) := Lib.hid (by simp)
  clear h
  go_enter Tryz.func47, Tryz.ntmps47
  go_wp2_with (go_at_call 45; refine (Size_any HD.out).mono ?_; rintro e w' ⟨rfl, rfl⟩)
  generalize w.alloc (.cells (madeCells #[emptyV] d.seen.length) 9) = V at *
  go_loopw [13] (fun i wr => ∃ q : Nat, q ≤ d.seen.length ∧ i = .int .i64 q ∧ Hid ((d.off = true → q = 0) ∧ wr.ownsRow w.heap.size 9 1 (.slice (some ⟨w.heap.size, 0, none⟩) d.seen.length d.seen.length) d.seen.length (part (d.seen.map secV) emptyV q) ∧ Below w.heap.size w wr)) (fun i _ => d.seen.length - (intOf i).toNat)
  case atStart => exact ⟨0, by omega, rfl, Lib.hid ⟨fun _ => rfl, HOwn.out, HB0.out⟩⟩
  case round =>
    clear HOwn HB0
    obtain ⟨q, hq, rfl, HS⟩ := hrel
    have HD5 : Hid (IsDisk wr F a d) := Lib.hid (HD.out.below HS.out.2.2)
    by_cases hlt : q < d.seen.length
    · by_cases hoff : d.off = true
      · have HE := Lib.hid (HO.out hoff (q : Int))
        have HF : Hid (∀ w', Below w.heap.size w w' → ReadCap d w (.returned (.tuple #[.slice none 0 0, .int .i64 7])) w') := Lib.hid (fun w' hb => ⟨by rw [if_pos hoff], hb⟩)
        clear HR HO hoff hmk
        go_wp2_with fail
        refine (Read_any HD5.out (q : Int)).mono ?_
        rw [HE.out]
        generalize str (d.readB (q : Int)) = S
        rintro e w' ⟨rfl, rfl⟩
        go_wp2_with fail
        go_ret2
        exact HF.out _ HS.out.2.2
      · have hoff' : d.off = false := by simpa using hoff
        obtain ⟨e1, e2⟩ := HR.out q hlt hoff'
        have hql : q < (d.seen.map secV).length := by rw [HLen.out]; exact hlt
        have HP := Lib.hid (part_set (d.seen.map secV) emptyV hql)
        have hval : (d.seen.map secV)[q] = .string (str (d.readB (q : Int))) := by
          rw [List.getElem_map, e2, List.getD_eq_getElem?_getD, List.getElem?_eq_getElem hlt]; rfl
        rw [hval] at HP
        have c1 := HS.out.2.1.cellAt q (by omega)
        have c2 := HS.out.2.1.frozenAt q
        have hpl : q < (part (d.seen.map secV) emptyV q).length := by unfold part; rw [List.length_append, List.length_replicate, List.length_take]; omega
        rw [List.getElem?_eq_getElem hpl] at c1
        obtain ⟨z, hz⟩ : ∃ z, (part (d.seen.map secV) emptyV q)[q] = z := ⟨_, rfl⟩
        rw [hz] at c1
        have HE1 := Lib.hid e1
        have HNo : Hid (d.off = true → q + 1 = 0) := Lib.hid (fun h => absurd h hoff)
        clear HR HO hoff hoff' hmk e1 e2 hval hpl hz hql
        go_wp2_with fail
        refine (Read_any HD5.out (q : Int)).mono ?_
        rw [HE1.out]
        generalize str (d.readB (q : Int)) = S at *
        rintro e w' ⟨rfl, rfl⟩
        have HS9 : Hid ((d.off = true → q + 1 = 0) ∧ (wr.setCell ⟨w.heap.size, q, none⟩ (.string S)).ownsRow w.heap.size 9 1 (.slice (some ⟨w.heap.size, 0, none⟩) d.seen.length d.seen.length) d.seen.length (part (d.seen.map secV) emptyV (q + 1)) ∧ Below w.heap.size w (wr.setCell ⟨w.heap.size, q, none⟩ (.string S))) := Lib.hid ⟨HNo.out, by rw [← HP.out]; exact own_setW HS.out.2.1 q _, HS.out.2.2.setCell (by simp) _⟩
        clear HS HP HNo HD5
        go_wp2_with fail
        go_roundw
        case rel => exact ⟨q + 1, by omega, by go_num, HS9⟩
        case measure => simp [intOf]; omega
    · have HQ : Hid (q = d.seen.length) := Lib.hid (by omega)
      have hge : d.seen.length ≤ q := by omega
      have hlt2 : decide ((q : Int) < (d.seen.length : Int)) = false := by rw [decide_eq_false_iff_not]; omega
      have HNo : Hid (d.off = false) := Lib.hid (by
        cases ho : d.off with
        | false => rfl
        | true => have := HS.out.1 ho; omega)
      clear HR HO hmk
      go_wp2_with fail
      go_ret2
      refine ⟨?_, HS.out.2.2⟩
      rw [if_neg (by rw [HNo.out]; simp)]
      refine ⟨w.heap.size, rfl, ?_, Nat.le_refl _⟩
      have := HS.out.2.1
      rw [HQ.out] at this
      have e2 : part (d.seen.map secV) emptyV d.seen.length = d.seen.map secV := by rw [← HLen.out]; exact part_all _ _
      rw [e2] at this
      exact own_lies_ this

/-- A header that a log may start from. -/
structure HdOk (h : Hd) (n slot : Nat) : Prop where
  g0 : 0 ≤ h.1
  g1 : h.1 ≤ 1099511627776
  l0 : 0 ≤ h.2.1
  l1 : h.2.1 ≤ 32 * ((slot : Int) - 1)
  p0 : 0 ≤ h.2.2.1
  p1 : h.2.2.1 < (n : Int) - 2 * (slot : Int)
  k0 : 1 ≤ h.2.2.2
  k1 : h.2.2.2 ≤ 1099511627776
theorem stepS_ok {xs : List (List UInt8)} {slot at_ : Nat} {cur : Hd} (h : HdOk cur xs.length slot) : HdOk (stepS xs slot at_ cur) xs.length slot := by
  unfold stepS
  split
  · rename_i hd he
    split
    · rename_i hc
      rw [Bool.and_eq_true] at hc
      have hv := hc.1
      unfold validB at hv
      rw [decide_eq_true_iff] at hv
      have hp := decS_pos he
      exact ⟨hp.1, hv.2.1, hp.2.1, hv.2.2.2.1, hp.2.2.1, hv.2.2.2.2.1, hv.2.2.2.2.2.1, hv.2.2.2.2.2.2⟩
    · exact h
  · exact h
theorem curS_ok {xs : List (List UInt8)} {slot : Nat} (hs : 2 ≤ slot) (hf : 2 * slot + 3 ≤ xs.length) : HdOk (curS xs slot) xs.length slot := by
  unfold curS curQ
  refine stepS_ok (stepS_ok ⟨by simp, by simp, by simp, ?_, by simp, ?_, by simp, by simp⟩)
  · simp only; omega
  · simp only; omega

/-- The log that stands on a disk: where its current slot says, then behind its records. -/
def slotV (a : Nat) (d : DSt) (slot : Nat) : WalV := ⟨a, slot, (curS d.seen slot).1, (curS d.seen slot).2.2.2, (curS d.seen slot).2.2.1.toNat, 0, false⟩
def openV (a : Nat) (d : DSt) (slot : Nat) : WalV := (scanR d.seen d.seen.length (slotV a d slot)).1
def openR (a : Nat) (d : DSt) (slot : Nat) : List (List UInt8) := (scanR d.seen d.seen.length (slotV a d slot)).2
def openS (d : DSt) (slot : Nat) : List UInt8 := stateOf d.seen slot (curS d.seen slot).1.toNat (curS d.seen slot).2.1.toNat
theorem slotV_ok {a : Nat} {d : DSt} {slot : Nat} (hn : d.seen.length ≤ 4096) (hs : 2 ≤ slot) (hf : 2 * slot + 3 ≤ d.seen.length) : (slotV a d slot).Ok d.seen.length := by
  have h := curS_ok hs hf
  have := h.p0
  have := h.p1
  have := h.k1
  refine ⟨hn, hs, hf, ?_, ?_, h.g0, h.g1, h.k0, ?_⟩
  · show (curS d.seen slot).2.2.1.toNat < d.seen.length - 2 * slot; omega
  · show 0 < d.seen.length - 2 * slot; omega
  · show (curS d.seen slot).2.2.2 ≤ _; omega

/-- What Open leaves where a log lies on the disk, and the power is on. -/
def OpenEnd (w : World) (F : Nat → Prop) (a : Nat) (d : DSt) (slot : Nat) (e : Ending) (w' : World) : Prop :=
  ∃ b A c, e = .returned (.tuple #[.pointer (some ⟨b, 0, none⟩), .string (str (openS d slot)), .slice A (openR a d slot).length c, .nilIface]) ∧ Lies w' w'.heap.size A ((openR a d slot).map secV) ∧ ((A = none → c = 0) ∧ ∀ p, A = some p → w.heap.size ≤ p.block ∧ p.block ≠ b) ∧ LogAt w' F b (openV a d slot) d ∧ Below w.heap.size w w' ∧ w.heap.size ≤ b

theorem seen_32 {w : World} {F : Nat → Prop} {a : Nat} {d : DSt} (h : IsDisk w F a d) : ∀ x ∈ d.seen, x.length = 32 := by
  obtain ⟨_, s, cs, u, cu, v, h⟩ := h
  intro x hx
  obtain ⟨i, hi, rfl⟩ := List.getElem_of_mem hx
  exact (h.seen.2 i hi).1

set_option maxHeartbeats 4000000 in
set_option maxRecDepth 100000 in
theorem Open_ok {w : World} {F : Nat → Prop} {a : Nat} {d : DSt} (h : IsDisk w F a d) (slot : Nat) (hoff : d.off = false) (hs : 2 ≤ slot) (hf : 2 * slot + 3 ≤ d.seen.length) :
    Calls Tryz.prog 12 #[.pointer (some ⟨a, 0, none⟩), .int .i64 slot] w (OpenEnd w F a d slot) := by
  have hn4 := h.1.le
  have HD := Lib.hid h
  have HX := Lib.hid (seen_32 h)
  have HFit : Hid (fitsE d.seen.length slot = true) := Lib.hid (by unfold fitsE; rw [decide_eq_true_iff]; omega)
  have HCur := Lib.hid (curS_ok hs hf)
  have HOk := Lib.hid (slotV_ok (a := a) hn4 hs hf)
  have HOff := Lib.hid hoff
  have HLow := Lib.hid h.low
  clear h hoff
  go_enter Tryz.func12, Tryz.ntmps12
  go_wp2_with fail
  refine (Size_any HD.out).mono ?_
  rintro e w' ⟨rfl, rfl⟩
  go_wp2_with fail
  refine (fits_any _ _ _ hn4).mono ?_
  rw [HFit.out]
  rintro e w' ⟨rfl, rfl⟩
  go_wp2_with fail
  refine (readAll_cap HD.out).mono ?_
  rintro e w1 ⟨he, hb1⟩
  rw [if_neg (by rw [HOff.out]; simp)] at he
  obtain ⟨g, rfl, hl1, hg1⟩ := he
  have HL1 := Lib.hid hl1
  have HB1 := Lib.hid hb1
  have hgl : g < w1.heap.size := (lies_at hl1 (i := 0) (by omega)).2
  clear hl1 hb1
  have hB2 : Below w.heap.size w (w1.alloc (.cells #[.pointer (some ⟨a, 0, none⟩), .int .i64 slot, .int .i64 0, .int .i64 0, .int .i64 0, .int .i64 0, .bool false] 91)) := HB1.out.alloc HB1.out.size _
  have HW2 : Hid (WalAt (w1.alloc (.cells #[.pointer (some ⟨a, 0, none⟩), .int .i64 slot, .int .i64 0, .int .i64 0, .int .i64 0, .int .i64 0, .bool false] 91)) w1.heap.size ⟨a, slot, 0, 0, 0, 0, false⟩) := Lib.hid (heap_alloc_new w1 _)
  have HB2 := Lib.hid hB2
  have HA2 : Hid (Lies (w1.alloc (.cells #[.pointer (some ⟨a, 0, none⟩), .int .i64 slot, .int .i64 0, .int .i64 0, .int .i64 0, .int .i64 0, .bool false] 91)) (w1.alloc (.cells #[.pointer (some ⟨a, 0, none⟩), .int .i64 slot, .int .i64 0, .int .i64 0, .int .i64 0, .int .i64 0, .bool false] 91)).heap.size (some ⟨g, 0, none⟩) (d.seen.map secV)) := Lib.hid (HL1.out.next ((Below.refl _ _).alloc (Nat.le_refl _) _))
  have hgb : g ≠ w1.heap.size := by omega
  clear HL1 hB2
  obtain ⟨b, hb⟩ : ∃ b, w1.heap.size = b := ⟨_, rfl⟩
  have hwb : w.heap.size ≤ b := by rw [← hb]; exact HB1.out.size
  have hFb : ∀ k, F k → k < b := fun k hk => by have := HLow.out k hk; omega
  have HFb := Lib.hid hFb
  clear hFb
  have HCs : Hid (∃ gen len pos : Nat, (curS d.seen slot).1 = (gen : Int) ∧ (curS d.seen slot).2.1 = (len : Int) ∧ (curS d.seen slot).2.2.1 = (pos : Int)) := Lib.hid (by
    have h := HCur.out
    exact ⟨_, _, _, (Int.toNat_of_nonneg h.g0).symm, (Int.toNat_of_nonneg h.l0).symm, (Int.toNat_of_nonneg h.p0).symm⟩)
  obtain ⟨gen, len, pos, eg, el, ep⟩ := HCs.out
  have EG := Lib.hid eg
  have EL := Lib.hid el
  have EP := Lib.hid ep
  clear HCs eg el ep
  have HLS := Lib.hid (loadState_of (v := ⟨a, slot, 0, 0, 0, 0, false⟩) HW2.out d.seen d.seen.length d.seen.length rfl (Nat.le_refl _) HA2.out hgb hn4 HX.out gen len pos (curS d.seen slot).2.2.2 (by have := HCur.out.g1; rw [EG.out] at this; omega) (by have := HCur.out.l1; rw [EL.out] at this; show len ≤ 32 * (slot - 1); omega) hs hf (by
    have := currentSlot_any d.seen g d.seen.length d.seen.length slot (w1.alloc (.cells #[.pointer (some ⟨a, 0, none⟩), .int .i64 slot, .int .i64 0, .int .i64 0, .int .i64 0, .int .i64 0, .bool false] 91)) rfl HA2.out (by omega) hn4 (fun x hx => by have := HX.out x hx; omega)
    unfold hdV at this
    rw [EG.out, EL.out, EP.out] at this
    exact this))
  rw [hb] at HLS HW2
  go_wp2_with fail
  refine HLS.out.mono ?_
  rintro e w3 ⟨rfl, hW3, hM3⟩
  have HL3 : Hid (LogAt w3 F b (slotV a d slot) d) := Lib.hid (by
    refine ⟨?_, (HD.out.below HB2.out).kept hM3 (fun k hk hf => by have := HFb.out k hf; omega), HOk.out⟩
    have e1 : slotV a d slot = { (⟨a, slot, 0, 0, 0, 0, false⟩ : WalV) with gen := (gen : Int), next := pos, num := (curS d.seen slot).2.2.2 } := by
      unfold slotV; rw [EG.out, EP.out]; rfl
    rw [e1]; exact hW3)
  have HB3 : Hid (Below w.heap.size w w3) := Lib.hid (HB2.out.trans (hM3.below HB2.out.size (fun i hi => by omega)))
  have HA3 : Hid (Lies w3 w3.heap.size (some ⟨g, 0, none⟩) (d.seen.map secV)) := Lib.hid (HA2.out.moves6 hM3 (fun b' off e => by simp only [Option.some.injEq, Addr.mk.injEq, and_true] at e; rw [← e.1]; omega))
  have HLR := Lib.hid (loadRecords_any (cap := d.seen.length) HL3.out (fun hf => by have := HFb.out b hf; omega) (by show (curS d.seen slot).2.2.2 ≤ 1099511627776 + ((0 : Nat) : Int); have := HCur.out.k1; omega) rfl HA3.out (by omega) HX.out)
  have HSt : Hid (stateOf d.seen slot gen len = openS d slot) := Lib.hid (by unfold openS; rw [EG.out, EL.out, Int.toNat_natCast, Int.toNat_natCast])
  clear hW3 hM3 HLS
  go_wp2_with fail
  refine HLR.out.mono ?_
  rintro e w4 ⟨A, c, rfl, hl4, hn5, hL4, hM4⟩
  have HE : Hid (OpenEnd w F a d slot (.returned (.tuple #[.pointer (some ⟨b, 0, none⟩), .string (str (stateOf d.seen slot gen len)), .slice A (openR a d slot).length c, .nilIface])) w4) := Lib.hid ⟨b, A, c, by rw [HSt.out], hl4, ⟨hn5.1, fun p hp => ⟨Nat.le_trans HB3.out.size (hn5.2 p hp), by have h1 := hn5.2 p hp; have h2 := heap_lt HL3.out.wal; omega⟩⟩, hL4, HB3.out.trans (hM4.below HB3.out.size (fun i hi => by omega)), hwb⟩
  clear hl4 hn5 hL4 hM4
  go_wp2_with fail
  (try simp only [Exit.inBlock, Exit.then])
  exact bodyPost_ret (v := .tuple #[.pointer (some ⟨b, 0, none⟩), .string (str (stateOf d.seen slot gen len)), .slice A (openR a d slot).length c, .nilIface]) (by simp [results, Tryz.results12, go_sem, openR]) rfl HE.out
end Go.Proofs.YtgnijpjdkipaaaaGreatDoor
