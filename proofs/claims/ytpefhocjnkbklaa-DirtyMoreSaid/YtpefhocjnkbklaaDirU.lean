/- Bitmaps as bytes: plain: what is parsed; the contracts of take and Parse. -/
import Derived.Test.YtpefhocjnkbklaaDirT
namespace Go.Proofs.Ytpefhocjnkbklaa
open Go.RowKit

/-- The element at the beginning of some bytes. -/
def eltOf (r : List UInt8) : Bt := ⟨(dec (r.take 1) : Int), (dec ((r.drop 1).take 4) : Int)⟩
def parseN : Nat → List UInt8 → List Bt
  | 0, _ => []
  | n + 1, r => eltOf r :: parseN n (r.drop 5)
theorem parseN_length (n : Nat) (r : List UInt8) : (parseN n r).length = n := by
  induction n generalizing r with
  | zero => rfl
  | succ n ih => simp [parseN, ih]
theorem parseN_at {n : Nat} {r : List UInt8} {k : Nat} (hk : k < n) : (parseN n r)[k]? = some (eltOf (r.drop (k * 5))) := by
  induction n generalizing r k with
  | zero => omega
  | succ n ih =>
    cases k with
    | zero => simp [parseN]
    | succ k =>
      rw [parseN, List.getElem?_cons_succ, ih (by omega), List.drop_drop]
      congr 3
      omega
theorem dec_one_lt (r : List UInt8) : dec (r.take 1) < 256 := by
  have := dec_lt (r.take 1)
  have h2 : 256 ^ (r.take 1).length ≤ 256 ^ 1 := Nat.pow_le_pow_right (by omega) (List.length_take_le _ _)
  omega
theorem dec_four_lt (r : List UInt8) : dec (r.take 4) < 4294967296 := by
  have := dec_lt (r.take 4)
  have h2 : 256 ^ (r.take 4).length ≤ 256 ^ 4 := Nat.pow_le_pow_right (by omega) (List.length_take_le _ _)
  omega
def parN (l : List UInt8) : Nat := dec (l.take 1)
def parE (l : List UInt8) : Int := if l.length = 0 ∨ l.length - 1 < 5 * parN l then 2 else if bitsOk (parseN (parN l) (l.drop 1)) = true then 0 else 3
def parM (l : List UInt8) : List Bt := if parE l = 0 then parseN (parN l) (l.drop 1) else []
def parR (l : List UInt8) : List UInt8 := if parE l = 0 then l.drop (1 + 5 * parN l) else []
theorem parE_none {l : List UInt8} (h : l.length = 0) : parE l = 2 ∧ parM l = [] ∧ parR l = [] := by
  have : parE l = 2 := by unfold parE; rw [if_pos (.inl h)]
  unfold parM parR; rw [this]; exact ⟨rfl, rfl, rfl⟩
theorem parE_short {l : List UInt8} (h : l.length - 1 < 5 * parN l) : parE l = 2 ∧ parM l = [] ∧ parR l = [] := by
  have : parE l = 2 := by unfold parE; rw [if_pos (.inr h)]
  unfold parM parR; rw [this]; exact ⟨rfl, rfl, rfl⟩
theorem parE_form {l : List UInt8} (h0 : l.length ≠ 0) (h : ¬ l.length - 1 < 5 * parN l) (hb : bitsOk (parseN (parN l) (l.drop 1)) = false) : parE l = 3 ∧ parM l = [] ∧ parR l = [] := by
  have : parE l = 3 := by unfold parE; rw [if_neg (by omega), hb]; rfl
  unfold parM parR; rw [this]; exact ⟨rfl, rfl, rfl⟩
theorem parE_ok {l : List UInt8} (h0 : l.length ≠ 0) (h : ¬ l.length - 1 < 5 * parN l) (hb : bitsOk (parseN (parN l) (l.drop 1)) = true) : parE l = 0 ∧ parM l = parseN (parN l) (l.drop 1) ∧ parR l = l.drop (1 + 5 * parN l) := by
  have : parE l = 0 := by unfold parE; rw [if_neg (by omega), hb]; rfl
  unfold parM parR; rw [this]; exact ⟨rfl, rfl, rfl⟩

/-- A number off the beginning of bytes that are there. -/
theorem Number_fits (r : List UInt8) (k : Nat) (w : World) (h1 : 1 ≤ k) (h2 : k ≤ 4) (hr : k ≤ r.length) (hm : r.length ≤ 9223372036854775807) :
    Calls Try.prog 47 #[.string (str r), .int .i64 k] w fun e w' => e = .returned (.tuple #[.int .i64 (dec (r.take k)), .string (str (r.drop k)), .int .i64 0]) ∧ Below w.heap.size w w' := by
  have hlt : dec (r.take k) < 4294967296 := by
    have a := dec_lt (r.take k)
    have b : 256 ^ (r.take k).length ≤ 256 ^ 4 := Nat.pow_le_pow_right (by omega) (by rw [List.length_take]; omega)
    omega
  have hE : numE r (k : Int) = 0 := by
    rw [numE_get h1 (by omega) hr]
    exact getE_ok (by rw [List.length_take]; omega) (by rw [List.length_take]; omega) (by omega)
  have := Number_any (str r) (k : Int) w (by rw [str_size]; unfold maxLen; omega)
  rw [str_list, numN_ok hE, numR_ok hE, hE] at this
  exact this

set_option maxHeartbeats 2000000 in
set_option maxRecDepth 100000 in
theorem take_any (r : List UInt8) (w : World) (hr : 5 ≤ r.length) (hm : r.length ≤ 9223372036854775807) :
    Calls Try.prog 48 #[.string (str r)] w fun e w' => e = .returned (.tuple #[.agg #[.int .i64 (eltOf r).vol, .int .u64 (eltOf r).mask], .string (str (r.drop 5))]) ∧ Below w.heap.size w w' := by
  have H1 := Lib.hid fun w => Number_fits r 1 w (by omega) (by omega) (by omega) hm
  have H2 := Lib.hid fun w => Number_fits (r.drop 1) 4 w (by omega) (by omega) (by rw [List.length_drop]; omega) (by rw [List.length_drop]; omega)
  have hd : (r.drop 1).drop 4 = r.drop 5 := by rw [List.drop_drop]
  rw [hd] at H2
  have hV := dec_one_lt r
  have hU := dec_four_lt (r.drop 1)
  unfold eltOf
  simp only
  generalize dec (r.take 1) = V at *
  generalize dec ((r.drop 1).take 4) = U at *
  generalize str (r.drop 1) = S1 at *
  generalize str (r.drop 5) = S5 at *
  generalize str r = S at *
  clear hd hr hm
  have hw : IntKind.u64.wrap (U : Int) = (U : Int) := by rw [IntKind.wrap_u64]; omega
  go_enter Try.func48, Try.ntmps48
  go_wp2_with fail
  refine (H1.out _).mono ?_
  rintro e w1 ⟨rfl, hb1⟩
  have HB1 : Hid (Below w.heap.size w w1) := Lib.hid (((Below.refl _ _).alloc (Nat.le_refl _) _).trans (hb1.mono (by simp)))
  have HC1 : Hid (w1.heap[w.heap.size]? = some (.cells #[.int .i64 0, .int .u64 0] 66 (0, 0))) := Lib.hid (by rw [hb1.block _ (by simp)]; exact heap_alloc_new _ _)
  clear hb1
  go_wp2_with fail
  refine (H2.out _).mono ?_
  rintro e w2 ⟨rfl, hb2⟩
  have hlt : w.heap.size < w1.heap.size := (Array.getElem?_eq_some_iff.1 HC1.out).1
  have HB2 : Hid (Below w.heap.size w w2) := Lib.hid (below_next HB1.out hb2)
  have HC2 : Hid (w2.heap[w.heap.size]? = some (.cells #[.int .i64 0, .int .u64 0] 66 (0, 0))) := Lib.hid (by rw [hb2.block _ hlt]; exact HC1.out)
  clear hb2 hlt HC1 HB1
  have x1 : w2.cell? ⟨w.heap.size, 0, none⟩ = some (.int .i64 0) := by rw [Lib.cell_of_heap HC2.out]; rfl
  have x2 : w2.cell? ⟨w.heap.size, 1, none⟩ = some (.int .u64 0) := by rw [Lib.cell_of_heap HC2.out]; rfl
  have f1 := Lib.frozen_of_heap HC2.out 0
  have f2 := Lib.frozen_of_heap HC2.out 1
  go_wp2_with fail
  have HW : Hid (Below w.heap.size w ((w2.setCell ⟨w.heap.size, 0, none⟩ (.int .i64 V)).setCell ⟨w.heap.size, 1, none⟩ (.int .u64 U))) := Lib.hid ((HB2.out.setCell (Nat.le_refl _) _).setCell (Nat.le_refl _) _)
  have HR : Hid (((w2.setCell ⟨w.heap.size, 0, none⟩ (.int .i64 V)).setCell ⟨w.heap.size, 1, none⟩ (.int .u64 U)).heap[w.heap.size]? = some (.cells #[.int .i64 V, .int .u64 U] 66 (0, 0))) := Lib.hid (row_set (row_set HC2.out 0 _) 1 _)
  clear x1 x2 f1 f2 HB2 HC2
  generalize (w2.setCell ⟨w.heap.size, 0, none⟩ (.int .i64 V)).setCell ⟨w.heap.size, 1, none⟩ (.int .u64 U) = W3 at *
  have y1 : W3.cell? ⟨w.heap.size, 0, none⟩ = some (.int .i64 V) := by rw [Lib.cell_of_heap HR.out]; rfl
  have y2 : W3.cell? ⟨w.heap.size, 1, none⟩ = some (.int .u64 U) := by rw [Lib.cell_of_heap HR.out]; rfl
  exact bodyPost_ret (v := .tuple #[.agg #[.int .i64 V, .int .u64 U], .string S5]) (by simp [results, Try.results48, go_sem, y1, y2]) rfl ⟨rfl, HW.out⟩

theorem madeBits (n j : Nat) (hj : j < n * 2) : ∃ v, (madeCells #[Value.int .i64 0, Value.int .u64 0] (n * 2))[j]? = some v := by
  rw [Array.getElem?_eq_getElem (by simp [madeCells]; omega)]
  exact ⟨_, rfl⟩

set_option maxHeartbeats 4000000 in
set_option maxRecDepth 100000 in
theorem Parse_any (l : List UInt8) (w : World) (hm : l.length ≤ 9223372036854775807) :
    Calls Try.prog 33 #[.string (str l)] w fun e w' => ∃ A c, e = .returned (.tuple #[.slice A (parM l).length c, .string (str (parR l)), .int .i64 (parE l)]) ∧ BtsAt w' w'.heap.size A (parM l) ∧ Below w.heap.size w w' := by
  by_cases h0 : l.length = 0
  · obtain ⟨q1, q2, q3⟩ := parE_none h0
    rw [q1, q2, q3]
    have hN : Hid (∀ w, Calls Try.prog 47 #[.string (str l), .int .i64 1] w fun e w' => e = .returned (.tuple #[.int .i64 0, .string ⟨#[]⟩, .int .i64 2]) ∧ Below w.heap.size w w') := Lib.hid fun w => by
      have hE : numE l 1 = 2 := numE_short (by omega) (by omega) (by omega)
      have := Number_any (str l) 1 w (by rw [str_size]; unfold maxLen; omega)
      rw [str_list, numN_no (by rw [hE]; omega), numR_no (by rw [hE]; omega), hE] at this
      exact this
    generalize str l = S at *
    go_enter Try.func33, Try.ntmps33
    go_wp2_with fail
    refine (hN.out _).mono ?_
    rintro e w1 ⟨rfl, hb⟩
    replace hb := Lib.hid hb
    go_wp2_with fail
    go_ret3
    exact ⟨none, 0, rfl, .inl rfl, hb.out⟩
  · have HNum := Lib.hid fun w => Number_fits l 1 w (by omega) (by omega) (by omega) hm
    obtain ⟨n, hn⟩ : ∃ n, parN l = n := ⟨_, rfl⟩
    have hn8 : n < 256 := by rw [← hn]; exact dec_one_lt l
    have hne : dec (l.take 1) = n := hn
    rw [hne] at HNum
    have hsz : (str (l.drop 1)).size = l.length - 1 := by rw [str_size, List.length_drop]
    by_cases hsh : l.length - 1 < 5 * n
    · obtain ⟨q1, q2, q3⟩ := parE_short (l := l) (by rw [hn]; exact hsh)
      rw [q1, q2, q3]
      have hlt : ((str (l.drop 1)).size : Int) < (n : Int) * 5 := by rw [hsz]; omega
      have hlt2 : decide (((str (l.drop 1)).size : Int) < (n : Int) * 5) = true := by rw [decide_eq_true_iff]; exact hlt
      generalize str (l.drop 1) = S1 at *
      generalize str l = S at *
      clear hsz hsh h0
      go_enter Try.func33, Try.ntmps33
      go_wp2_with fail
      refine (HNum.out _).mono ?_
      rintro e w1 ⟨rfl, hb⟩
      replace hb := Lib.hid hb
      go_wp2_with fail
      go_ret3
      exact ⟨none, 0, rfl, .inl rfl, hb.out⟩
    · obtain ⟨R, hR⟩ : ∃ R : Nat → ByteArray, ∀ k, R k = str (l.drop (1 + k * 5)) := ⟨_, fun _ => rfl⟩
      have hR0 : str (l.drop 1) = R 0 := (hR 0).symm
      rw [hR0] at hsz HNum
      have hlt : ¬ ((R 0).size : Int) < (n : Int) * 5 := by rw [hsz]; omega
      have hlt2 : decide (((R 0).size : Int) < (n : Int) * 5) = false := by rw [decide_eq_false_iff_not]; exact hlt
      obtain ⟨i0, hi0, hz0, hz1, hz2⟩ := info_parts Try.infoBt
      have hmk : ∀ W : World, (Instr.makeSlice 22 (.int .i64 (n : Int)) (.int .i64 (n : Int))).run Try.prog W = .ok (.slice (some ⟨W.heap.size, 0, none⟩) n n) (W.alloc (.cells (madeCells #[Value.int .i64 0, Value.int .u64 0] (n * 2)) 66)) := fun W => by
        have := run_make (P := Try.prog) W 22 66 i0 _ Try.underlying22 hi0 hz0 .i64 .i64 (n : Int) (n : Int) (by omega) (Int.le_refl _) (by rw [hz2]; omega) (by omega)
        rw [hz1, Int.toNat_natCast] at this
        exact this
      have HT : Hid (∀ k w, k < n → Calls Try.prog 48 #[.string (R k)] w fun e w' => e = .returned (.tuple #[.agg #[.int .i64 (eltOf (l.drop (1 + k * 5))).vol, .int .u64 (eltOf (l.drop (1 + k * 5))).mask], .string (R (k + 1))]) ∧ Below w.heap.size w w') := Lib.hid fun k w hk => by
        rw [hR, hR]
        have := take_any (l.drop (1 + k * 5)) w (by rw [List.length_drop]; omega) (by rw [List.length_drop]; omega)
        rw [List.drop_drop, show 1 + k * 5 + 5 = 1 + (k + 1) * 5 from by omega] at this
        exact this
      have HPl := Lib.hid (parseN_length n (l.drop 1))
      have HPa : Hid (∀ k, k < n → (parseN n (l.drop 1))[k]? = some (eltOf (l.drop (1 + k * 5)))) := Lib.hid fun k hk => by
        rw [parseN_at hk, List.drop_drop]
      have HPf : Hid (BtsFit (parseN n (l.drop 1))) := Lib.hid ⟨by rw [parseN_length]; omega, fun b hb => by
        obtain ⟨k, hk, rfl⟩ := List.getElem_of_mem hb
        have hk2 : k < n := by rw [parseN_length] at hk; exact hk
        have e := HPa.out k hk2
        rw [List.getElem?_eq_getElem hk] at e
        have e2 := Option.some.inj e
        rw [e2]
        unfold eltOf
        simp only
        have := dec_four_lt ((l.drop (1 + k * 5)).drop 1)
        omega⟩
      have HF : Hid (bitsOk (parseN n (l.drop 1)) = false → parE l = 3 ∧ parM l = [] ∧ parR l = []) := Lib.hid fun hb => parE_form h0 (by rw [hn]; exact hsh) (by rw [hn]; exact hb)
      have HG : Hid (bitsOk (parseN n (l.drop 1)) = true → parE l = 0 ∧ parM l = parseN n (l.drop 1) ∧ str (parR l) = R n) := Lib.hid fun hb => by
        rw [hR]
        have := parE_ok h0 (by rw [hn]; exact hsh) (by rw [hn]; exact hb)
        rw [hn, Nat.mul_comm 5 n] at this
        rw [this.2.2]
        exact ⟨this.1, this.2.1, rfl⟩
      generalize parseN n (l.drop 1) = P at *
      have HR := Lib.hid hR
      clear hsz hsh h0 hn hne hm hz1 hz2 hz0 hi0 hR hR0
      go_enter Try.func33, Try.ntmps33
      go_wp2_with fail
      refine (HNum.out _).mono ?_
      rintro e w1 ⟨rfl, hb⟩
      replace hb := Lib.hid hb
      go_wp2_with fail
      clear hmk hlt hlt2
      have HB1 : Hid (Below w.heap.size w (w1.alloc (.cells (madeCells #[Value.int .i64 0, Value.int .u64 0] (n * 2)) 66))) := Lib.hid (hb.out.alloc hb.out.size _)
      have HC1 : Hid ((w1.alloc (.cells (madeCells #[Value.int .i64 0, Value.int .u64 0] (n * 2)) 66)).heap[w1.heap.size]? = some (.cells (madeCells #[Value.int .i64 0, Value.int .u64 0] (n * 2)) 66 (0, 0))) := Lib.hid (heap_alloc_new _ _)
      have HMs : Hid ((madeCells #[Value.int .i64 0, Value.int .u64 0] (n * 2)).size = n * 2) := Lib.hid (by simp [madeCells])
      have hg1 : w.heap.size ≤ w1.heap.size := hb.out.size
      generalize madeCells #[Value.int .i64 0, Value.int .u64 0] (n * 2) = M at *
      generalize w1.alloc (.cells M 66) = W1 at *
      generalize w1.heap.size = g at *
      go_loopg [6, 28] n (fun kx s6 s28 wr => ∃ (k : Nat) (cs : Array Value), s28 = .int .i64 k ∧ k ≤ n ∧ n - k ≤ kx ∧ s6 = .string (R k) ∧ Hid (wr.heap[g]? = some (.cells cs 66 (0, 0))) ∧ Hid (cs.size = n * 2) ∧ Hid (∀ i b, i < k → P[i]? = some b → cs[i * 2]? = some (.int .i64 b.vol) ∧ cs[i * 2 + 1]? = some (.int .u64 b.mask)) ∧ Hid (Below w.heap.size w wr))
      case atStart => exact ⟨0, M, rfl, Nat.zero_le _, by omega, rfl, HC1, HMs, Lib.hid (fun i b hi => by omega), HB1⟩
      case round =>
        clear HC1 HB1 hb HNum
        obtain ⟨k, cs, rfl, hk, hkx, rfl, HC, HCs, HCi, HB⟩ := hrel
        by_cases hlt : k < n
        · have hltz : (k : Int) < (n : Int) := by omega
          have hk0 : (0 : Int) ≤ (k : Int) := Int.natCast_nonneg _
          have HTk := Lib.hid fun w => HT.out k w hlt
          have HPk := Lib.hid (HPa.out k hlt)
          generalize eltOf (l.drop (1 + k * 5)) = b at *
          obtain ⟨V, U⟩ := b
          simp only at HTk
          go_wp2_with fail
          refine (HTk.out _).mono ?_
          rintro e w2 ⟨rfl, hb2⟩
          have hgl : g < wr.heap.size := (Array.getElem?_eq_some_iff.1 HC.out).1
          have HC2 : Hid (w2.heap[g]? = some (.cells cs 66 (0, 0))) := Lib.hid (by rw [hb2.block _ hgl]; exact HC.out)
          have HB2 : Hid (Below w.heap.size w w2) := Lib.hid (below_next HB.out hb2)
          clear hb2 HC HB hgl
          have x1 : ∃ v, w2.cell? ⟨g, k * 2, none⟩ = some v := by rw [Lib.cell_of_heap HC2.out, Array.getElem?_eq_getElem (by rw [HCs.out]; omega)]; exact ⟨_, rfl⟩
          have x2 : ∃ v, w2.cell? ⟨g, k * 2 + 1, none⟩ = some v := by rw [Lib.cell_of_heap HC2.out, Array.getElem?_eq_getElem (by rw [HCs.out]; omega)]; exact ⟨_, rfl⟩
          obtain ⟨v1, x1⟩ := x1
          obtain ⟨v2, x2⟩ := x2
          have f1 := Lib.frozen_of_heap HC2.out (k * 2)
          have f2 := Lib.frozen_of_heap HC2.out (k * 2 + 1)
          go_wp2_with fail
          have HC3 : Hid (((w2.setCell ⟨g, k * 2, none⟩ (.int .i64 V)).setCell ⟨g, k * 2 + 1, none⟩ (.int .u64 U)).heap[g]? = some (.cells ((cs.setIfInBounds (k * 2) (.int .i64 V)).setIfInBounds (k * 2 + 1) (.int .u64 U)) 66 (0, 0))) := Lib.hid (row_set (row_set HC2.out _ _) _ _)
          have HB3 : Hid (Below w.heap.size w ((w2.setCell ⟨g, k * 2, none⟩ (.int .i64 V)).setCell ⟨g, k * 2 + 1, none⟩ (.int .u64 U))) := Lib.hid ((HB2.out.setCell hg1 _).setCell hg1 _)
          have HCi3 : Hid (∀ i b, i < k + 1 → P[i]? = some b → ((cs.setIfInBounds (k * 2) (.int .i64 V)).setIfInBounds (k * 2 + 1) (.int .u64 U))[i * 2]? = some (.int .i64 b.vol) ∧ ((cs.setIfInBounds (k * 2) (.int .i64 V)).setIfInBounds (k * 2 + 1) (.int .u64 U))[i * 2 + 1]? = some (.int .u64 b.mask)) := Lib.hid (fun i b hi hb => by
            have hz := HCs.out
            by_cases e : i = k
            · subst e
              rw [HPk.out] at hb
              cases hb
              constructor
              · rw [Array.getElem?_setIfInBounds_ne (by omega), Array.getElem?_setIfInBounds_self_of_lt (by omega)]
              · rw [Array.getElem?_setIfInBounds_self_of_lt (by simp; omega)]
            · obtain ⟨g1, g2⟩ := HCi.out i b (by omega) hb
              constructor
              · rw [Array.getElem?_setIfInBounds_ne (by omega), Array.getElem?_setIfInBounds_ne (by omega)]; exact g1
              · rw [Array.getElem?_setIfInBounds_ne (by omega), Array.getElem?_setIfInBounds_ne (by omega)]; exact g2)
          have HCs3 : Hid (((cs.setIfInBounds (k * 2) (.int .i64 V)).setIfInBounds (k * 2 + 1) (.int .u64 U)).size = n * 2) := Lib.hid (by simp [HCs.out])
          generalize (cs.setIfInBounds (k * 2) (.int .i64 V)).setIfInBounds (k * 2 + 1) (.int .u64 U) = cs3 at *
          generalize (w2.setCell ⟨g, k * 2, none⟩ (.int .i64 V)).setCell ⟨g, k * 2 + 1, none⟩ (.int .u64 U) = W3 at *
          clear x1 x2 f1 f2 HC2 HB2 HCi HCs HTk HPk
          go_roundg (n - (k + 1))
          case measure => omega
          case rel => exact ⟨k + 1, cs3, by go_num, by omega, Nat.le_refl _, rfl, HC3, HCs3, HCi3, HB3⟩
        · have hltz : ¬ (k : Int) < (n : Int) := by omega
          have hke : k = n := by omega
          subst hke
          have HAt : Hid (BtsAt wr wr.heap.size (some ⟨g, 0, none⟩) P) := Lib.hid (by
            refine .inr ⟨g, 0, rfl, (Array.getElem?_eq_some_iff.1 HC.out).1, fun i hi => ?_⟩
            obtain ⟨g1, g2⟩ := HCi.out i P[i] (by rw [← HPl.out]; exact hi) (List.getElem?_eq_getElem hi)
            rw [Nat.zero_add, Lib.cell_of_heap HC.out, Lib.cell_of_heap HC.out]
            exact ⟨g1, g2⟩)
          cases hr : bitsOk P with
          | false =>
            have HRt : Hid (∀ c, Calls Try.prog 12 #[.slice (some ⟨g, 0, none⟩) k c] wr fun e w' => e = .returned (.bool false) ∧ Below wr.heap.size wr w') := Lib.hid fun c => by
              have := DirRight_any (c := c) HAt.out HPf.out.1
              rw [HPl.out, hr] at this
              exact this
            have HQ := Lib.hid (HF.out hr)
            clear hr
            go_wp2_with fail
            refine (HRt.out _).mono ?_
            rintro e w4 ⟨rfl, hb4⟩
            replace hb4 := Lib.hid (below_next HB.out hb4)
            go_wp2_with fail
            go_ret3
            rw [HQ.out.1, HQ.out.2.1, HQ.out.2.2]
            exact ⟨none, 0, rfl, .inl rfl, hb4.out⟩
          | true =>
            have HRt : Hid (∀ c, Calls Try.prog 12 #[.slice (some ⟨g, 0, none⟩) k c] wr fun e w' => e = .returned (.bool true) ∧ Below wr.heap.size wr w') := Lib.hid fun c => by
              have := DirRight_any (c := c) HAt.out HPf.out.1
              rw [HPl.out, hr] at this
              exact this
            have HQ := Lib.hid (HG.out hr)
            clear hr
            go_wp2_with fail
            refine (HRt.out _).mono ?_
            rintro e w4 ⟨rfl, hb4⟩
            have HA4 := Lib.hid (HAt.out.next hb4)
            replace hb4 := Lib.hid (below_next HB.out hb4)
            go_wp2_with fail
            go_ret3
            rw [HQ.out.1, HQ.out.2.1, HQ.out.2.2]
            exact ⟨some ⟨g, 0, none⟩, k, by rw [HPl.out]; rfl, HA4.out, hb4.out⟩
end Go.Proofs.Ytpefhocjnkbklaa
