/- Bits for messages: of stage 10's texts what the contracts of the program's Right, Bytes and Parse need (slice.py). -/
import Derived.Test.YtkpoeigoocbgeaaRows
import Derived.Test.YtkpoeigoocbgeaaPlain
import Derived.Test.YtkpoeigoocbgeaaMem
import Derived.Test.YtkpoeigoocbgeaaVolP
import Derived.Test.YtkpoeigoocbgeaaMsVol
import Derived.Test.YtkpoeigoocbgeaaDirP
import Derived.Test.YtkpoeigoocbgeaaMsDir
import Derived.Test.YtkpoeigoocbgeaaLeaf
import Derived.Test.YtkpoeigoocbgeaaOctet
import Derived.Test.YtkpoeigoocbgeaaShelf2
import Derived.Great.BuildSlice
import Derived.Deep.LoopGhost
import Derived.Laws.ShiftsVarLaws
import Derived.Deep.WholeRow
import Derived.Laws.ResultCell
import Derived.BigRegion
import Derived.Deep.RegionLaw
import Derived.PlainAid
namespace Go.Proofs.Ytkpoeigoocbgeaa
open Go.RowKit
set_option maxHeartbeats 1600000 in
set_option maxRecDepth 100000 in
theorem DirRight_any {w : World} {A : Option Addr} {c : Nat} {m : List Bt} (h : BtsAt w w.heap.size A m) (hl : m.length ≤ 9223372036854775807) :
    Calls Try.prog 53 #[.slice A m.length c] w fun e w' => e = .returned (.bool (bitsOk m)) ∧ Below w.heap.size w w' := by
  have HV := Lib.hid h
  obtain ⟨n, hn⟩ : ∃ n, m.length = n := ⟨_, rfl⟩
  have HN := Lib.hid hn
  rw [hn] at hl ⊢
  clear h hn
  go_enter Try.func53, Try.ntmps53
  go_wp2_with fail
  go_loopw [3, 8] (fun l i wr => ∃ k : Nat, k ≤ n ∧ i = .int .i64 k ∧ l = .int .i64 (lastAt m k) ∧ Hid (okN m k) ∧ Hid (Below w.heap.size w wr)) (fun _ i _ => n - (intOf i).toNat)
  case atStart => exact ⟨0, Nat.zero_le _, rfl, rfl, Lib.hid rfl, Lib.hid (Below.refl _ _)⟩
  case round =>
    obtain ⟨k, hk, rfl, rfl, HG, HB⟩ := hrel
    by_cases hlt : k < n
    · have hkl : k < m.length := by rw [HN.out]; exact hlt
      obtain ⟨b, off, hA, hbl, c1, c2⟩ := HV.out.at_ HB.out hkl
      have hbw : b < wr.heap.size := Nat.lt_of_lt_of_le hbl HB.out.size
      have hwz : w.heap.size ≤ wr.heap.size := HB.out.size
      subst hA
      have HBad := Lib.hid fun hb => okN_bad HG.out hkl hb
      have HNext := Lib.hid fun hb => okN_next HG.out hkl hb
      have HL := Lib.hid (lastAt_succ hkl)
      obtain ⟨x, hx⟩ : ∃ x, m[k] = x := ⟨_, rfl⟩
      rw [hx] at c1 c2 HBad HNext HL
      clear hx hkl HG
      obtain ⟨i1, u1⟩ := x
      obtain ⟨last, hlast⟩ : ∃ last, lastAt m k = last := ⟨_, rfl⟩
      rw [hlast] at HBad HNext ⊢
      clear hlast
      simp only [badBt_true, badBt_false] at c1 c2 HBad HNext HL
      have HSz := Lib.hid (HB.out.alloc hwz (.cells #[.int .i64 i1, .int .u64 u1] 124))
      by_cases g1 : last < i1
      · have e1 : decide (i1 ≤ last) = false := by rw [decide_eq_false_iff_not]; omega
        by_cases g2 : i1 ≤ 255
        · have e2 : decide (255 < i1) = false := by rw [decide_eq_false_iff_not]; omega
          by_cases g3 : u1 = 0
          · have e3 : (u1 == 0) = true := by simp [g3]
            have HE := Lib.hid (HBad.out (.inr (.inr (.inl g3))))
            clear g3 HBad HNext
            go_wp2_with fail
            go_ret
            exact ⟨by rw [HE.out]; rfl, HSz.out⟩
          · have e3 : (u1 == 0) = false := by simp [g3]
            by_cases g4 : u1 ≤ 4294967295
            · have e4 : decide (4294967295 < u1) = false := by rw [decide_eq_false_iff_not]; omega
              have HE := Lib.hid (HNext.out ⟨g1, g2, g3, g4⟩)
              clear HBad HNext g3
              go_wp2_with fail
              go_roundw
              case rel => exact ⟨k + 1, by omega, by go_num, by rw [HL.out], HE, HSz⟩
              case measure => simp [intOf]; omega
            · have e4 : decide (4294967295 < u1) = true := by rw [decide_eq_true_iff]; omega
              have HE := Lib.hid (HBad.out (.inr (.inr (.inr (by omega)))))
              clear HBad HNext g3
              go_wp2_with fail
              go_ret
              exact ⟨by rw [HE.out]; rfl, HSz.out⟩
        · have e2 : decide (255 < i1) = true := by rw [decide_eq_true_iff]; omega
          have HE := Lib.hid (HBad.out (.inr (.inl (by omega))))
          clear HBad HNext
          go_wp2_with fail
          go_ret
          exact ⟨by rw [HE.out]; rfl, HSz.out⟩
      · have e1 : decide (i1 ≤ last) = true := by rw [decide_eq_true_iff]; omega
        have HE := Lib.hid (HBad.out (.inl (by omega)))
        clear HBad HNext
        go_wp2_with fail
        go_ret
        exact ⟨by rw [HE.out]; rfl, HSz.out⟩
    · have HE : Hid (bitsOk m = true) := Lib.hid (okN_end HG.out (by rw [HN.out]; omega))
      go_wp2_with fail
      go_ret
      exact ⟨by rw [HE.out]; rfl, HB.out⟩

theorem builder_below {T e : TypeId} {B b : Nat} {p : Value} {bs : List Value} {w w' : World} (h : Lib.BuilderAt T e B b p bs w) (hb : Below w.heap.size w w') : Lib.BuilderAt T e B b p bs w' := by
  have hlt := h.lt
  obtain ⟨hB, v, hk, hown, hne⟩ := h
  exact ⟨hB, v, (hb.block b hlt).trans hk, own_kept hown hb, hne⟩

theorem cells_cat (l m : List UInt8) : Lib.byteCells l ++ Lib.strCells (str m) = Lib.byteCells (l ++ m) := by rw [Lib.byteCells_append]; rfl

/-- A number that fits is put. -/
theorem Put_fits (x k : Nat) (w : World) (h1 : 1 ≤ k) (h2 : k ≤ 8) (hx : x < 256 ^ k) (hm : x ≤ 9223372036854775807) :
    Calls Try.prog 66 #[.int .i64 x, .int .i64 k] w fun e w' => e = .returned (.tuple #[.string (str (enc k x)), .int .i64 0]) ∧ Below w.heap.size w w' := by
  have h := putE_ok h1 h2 hx
  have := Put_any (x : Int) (k : Int) w (by omega)
  rw [putB_ok h, h] at this
  exact this

set_option maxHeartbeats 4000000 in
set_option maxRecDepth 100000 in
theorem Bytes_not {w : World} {A : Option Addr} {c : Nat} {m : List Bt} (h : BtsAt w w.heap.size A m) (hf : BtsFit m) (hr : bitsOk m = false) :
    Calls Try.prog 44 #[.slice A m.length c] w fun e w' => e = .returned (.tuple #[.string ⟨#[]⟩, .int .i64 1]) ∧ Below w.heap.size w w' := by
  have HR : Hid (∀ c, Calls Try.prog 53 #[.slice A m.length c] w fun e w' => e = .returned (.bool false) ∧ Below w.heap.size w w') := Lib.hid (fun c => by
    refine (DirRight_any h hf.1).mono ?_; rw [hr]; exact fun _ _ h => h)
  clear h hf hr
  go_enter Try.func44, Try.ntmps44
  go_wp2_with (go_at_call 53; refine (HR.out _).mono ?_; rintro e w1 ⟨rfl, hb⟩; replace hb := Lib.hid hb)
  go_ret2
  exact ⟨rfl, hb.out⟩

set_option maxHeartbeats 4000000 in
set_option maxRecDepth 100000 in
theorem Bytes_ok {w : World} {A : Option Addr} {c : Nat} {m : List Bt} (h : BtsAt w w.heap.size A m) (hf : BtsFit m) (hr : bitsOk m = true) :
    Calls Try.prog 44 #[.slice A m.length c] w fun e w' => e = .returned (.tuple #[.string (str (bytM m)), .int .i64 0]) ∧ Below w.heap.size w w' := by
  have HV := Lib.hid h
  have HAll := Lib.hid (bitsFrom_le hr)
  have HF := Lib.hid hf
  have hl := bitsOk_length hr
  obtain ⟨n, hn⟩ : ∃ n, m.length = n := ⟨_, rfl⟩
  have HN := Lib.hid hn
  have HR : Hid (∀ c, Calls Try.prog 53 #[.slice A n c] w fun e w' => e = .returned (.bool true) ∧ Below w.heap.size w w') := Lib.hid (fun c => by
    rw [← hn]; refine (DirRight_any h hf.1).mono ?_; rw [hr]; exact fun _ _ h => h)
  have HP1 : Hid (∀ (x : Nat) w, x < 256 → Calls Try.prog 66 #[.int .i64 x, .int .i64 1] w fun e w' => e = .returned (.tuple #[.string (str (enc 1 x)), .int .i64 0]) ∧ Below w.heap.size w w') := Lib.hid fun x w hx => Put_fits x 1 w (by omega) (by omega) (by omega) (by omega)
  have HP4 : Hid (∀ (x : Nat) w, x < 4294967296 → Calls Try.prog 66 #[.int .i64 x, .int .i64 4] w fun e w' => e = .returned (.tuple #[.string (str (enc 4 x)), .int .i64 0]) ∧ Below w.heap.size w w') := Lib.hid fun x w hx => Put_fits x 4 w (by omega) (by omega) (by omega) (by omega)
  rw [hn] at hl ⊢
  clear h hf hr hn
  go_enter Try.func44, Try.ntmps44
  go_wp2_with (go_at_call 53; refine (HR.out _).mono ?_; rintro e w1 ⟨rfl, hb⟩; replace hb := Lib.hid hb)
  refine (HP1.out n _ (by omega)).mono ?_
  rintro e w2 ⟨rfl, hb2⟩
  have HB2 := Lib.hid (below_next hb.out hb2)
  clear hb hb2
  have Hnew : Hid ((w2.alloc (.cells #[.pointer none, .slice none 0 0] 69)).heap[w2.heap.size]? = some (.cells #[.pointer none, .slice none 0 0] 69 (0, 0))) := Lib.hid (heap_alloc_new w2 _)
  go_wp2_with fail
  refine (Try.Builder_WriteString w2.heap.size w2.heap.size [] (str (enc 1 n)) _ (.inl ⟨Nat.le_refl _, .slice none 0 0, Hnew.out, World.ownsRow_nil _ _ _ _, by simp [Value.ownBlock]⟩) (by rw [str_size, enc_length]; simp) (by simp)).mono ?_
  rintro e w3 ⟨rfl, hb3, hbel3⟩
  rw [show ([] : List Value) = Lib.byteCells [] from rfl, cells_cat, List.nil_append] at hb3
  have HBel3 : Hid (Below w2.heap.size w2 w3) := Lib.hid (((Below.refl _ _).alloc (Nat.le_refl _) _).trans hbel3)
  have HBu3 := Lib.hid hb3
  clear hb3 hbel3 Hnew
  go_wp2_with fail
  go_loopg [26] n (fun kx s26 wr => ∃ k : Nat, s26 = .int .i64 k ∧ k ≤ n ∧ n - k ≤ kx ∧ Hid (Lib.BuilderAt 69 5 w2.heap.size w2.heap.size (.pointer (some ⟨w2.heap.size, 0, none⟩)) (Lib.byteCells (enc 1 n ++ eltsB (m.take k))) wr) ∧ Hid (Below w2.heap.size w2 wr))
  case atStart => exact ⟨0, rfl, Nat.zero_le _, by omega, Lib.hid (by simpa [eltsB] using HBu3.out), HBel3⟩
  case round =>
    clear HBu3 HBel3
    obtain ⟨k, rfl, hk, hkx, HBu, HBel⟩ := hrel
    by_cases hlt : k < n
    · have hltz : (k : Int) < (n : Int) := by omega
      have hkl : k < m.length := by rw [HN.out]; exact hlt
      have HBW := Lib.hid (HB2.out.trans (HBel.out.mono HB2.out.size))
      obtain ⟨b, off, hA, hbl, c1, c2⟩ := HV.out.at_ HBW.out hkl
      have hbw : b < wr.heap.size := Nat.lt_of_lt_of_le hbl HBW.out.size
      have hwz : w2.heap.size ≤ wr.heap.size := HBel.out.size
      subst hA
      have HT := Lib.hid (eltsB_take hkl)
      have HMk := Lib.hid (HAll.out _ (List.getElem_mem hkl))
      have HMf := Lib.hid (HF.out.2 _ (List.getElem_mem hkl))
      obtain ⟨x, hx⟩ : ∃ x, m[k] = x := ⟨_, rfl⟩
      rw [hx] at c1 c2 HT HMk HMf
      clear hx hkl
      obtain ⟨i1, u1⟩ := x
      simp only at c1 c2 HT HMk HMf
      obtain ⟨V, hV⟩ : ∃ V : Nat, i1 = (V : Int) := ⟨i1.toNat, by have := HMk.out; omega⟩
      obtain ⟨U, hU⟩ : ∃ U : Nat, u1 = (U : Int) := ⟨u1.toNat, by have := HMf.out; omega⟩
      subst hV hU
      have hV2 : V < 256 := by have := HMk.out; omega
      have hU2 : U < 4294967296 := by have := HMk.out; omega
      have HS : Hid (enc 1 n ++ eltsB (m.take (k + 1)) = (enc 1 n ++ eltsB (m.take k)) ++ enc 1 V ++ enc 4 U) := Lib.hid (by
        rw [HT.out, eltB, Int.toNat_natCast, Int.toNat_natCast]; simp)
      have hdl : (enc 1 n ++ eltsB (m.take k)).length ≤ 10000 := by rw [List.length_append, enc_length, eltsB_length, List.length_take]; omega
      generalize enc 1 n ++ eltsB (m.take k) = done at HBu hdl HS
      have K3 : Hid ((wr.alloc (.cells #[.int .i64 V, .int .u64 U] 124)).heap[wr.heap.size]? = some (.cells #[.int .i64 V, .int .u64 U] 124 (0, 0))) := Lib.hid (heap_alloc_new _ _)
      have K4 : Hid (Below w2.heap.size w2 (wr.alloc (.cells #[.int .i64 V, .int .u64 U] 124))) := Lib.hid (HBel.out.alloc hwz _)
      have K5 := Lib.hid (builder_below HBu.out ((Below.refl _ _).alloc (Nat.le_refl _) (.cells #[.int .i64 V, .int .u64 U] 124)))
      have hB7 : wr.heap.size < (wr.alloc (.cells #[.int .i64 V, .int .u64 U] 124)).heap.size := by simp
      have hw : IntKind.i64.wrap (U : Int) = (U : Int) := by rw [IntKind.wrap_i64]; omega
      clear HBu HBel HBW HT HMk HMf hbl hwz
      go_wp2_with fail
      refine (HP1.out V _ hV2).mono ?_
      rintro e w4 ⟨rfl, hb4⟩
      have K6 : Hid (Below w2.heap.size w2 w4) := Lib.hid (below_next K4.out hb4)
      have K7 := Lib.hid (builder_below K5.out hb4)
      have e2 : w4.cell? ⟨wr.heap.size, 1, none⟩ = some (.int .u64 U) := by rw [hb4.cell (p := ⟨wr.heap.size, 1, none⟩) hB7, Lib.cell_of_heap K3.out]; rfl
      clear hb4 K3 K4 K5 hB7 c1 c2
      go_wp2_with fail
      refine (HP4.out U _ hU2).mono ?_
      rintro e w5 ⟨rfl, hb5⟩
      have K8 : Hid (Below w2.heap.size w2 w5) := Lib.hid (below_next K6.out hb5)
      have K9 := Lib.hid (builder_below K7.out hb5)
      clear hb5 e2 K6 K7
      go_wp2_with fail
      refine (Try.Builder_WriteString w2.heap.size w2.heap.size _ (str (enc 1 V)) _ (.inr K9.out) (by rw [Lib.byteCells_length, str_size, enc_length]; omega) K8.out.size).mono ?_
      rintro e w6 ⟨rfl, hb6, hbel6⟩
      rw [cells_cat] at hb6
      have K10 : Hid (Below w2.heap.size w2 w6) := Lib.hid (K8.out.trans hbel6)
      have K11 := Lib.hid hb6
      clear hb6 hbel6 K8 K9
      go_wp2_with fail
      refine (Try.Builder_WriteString w2.heap.size w2.heap.size _ (str (enc 4 U)) _ (.inr K11.out) (by rw [Lib.byteCells_length, List.length_append, str_size, enc_length, enc_length]; omega) K10.out.size).mono ?_
      rintro e w7 ⟨rfl, hb7, hbel7⟩
      rw [cells_cat, ← HS.out] at hb7
      have K12 : Hid (Below w2.heap.size w2 w7) := Lib.hid (K10.out.trans hbel7)
      have K13 := Lib.hid hb7
      clear hb7 hbel7 K10 K11
      go_wp2_with fail
      go_roundg (n - (k + 1))
      case measure => omega
      case rel => exact ⟨k + 1, by go_num, by omega, Nat.le_refl _, K13, K12⟩
    · have hltz : ¬ (k : Int) < (n : Int) := by omega
      have Hk : Hid (enc 1 n ++ eltsB (m.take k) = bytM m) := Lib.hid (by rw [List.take_of_length_le (by rw [HN.out]; omega), bytM, HN.out])
      go_wp2_with fail
      refine (Try.Builder_String_any w2.heap.size w2.heap.size _ _ (.inr HBu.out) HBel.out.size).mono ?_
      rintro e w4 ⟨rfl, hbel4⟩
      have HFi : Hid (Below w.heap.size w w4) := Lib.hid (HB2.out.trans ((HBel.out.trans hbel4).mono HB2.out.size))
      clear hbel4
      go_wp2_with fail
      go_ret2
      rw [Hk.out]
      exact ⟨rfl, HFi.out⟩

theorem dec_four_lt (r : List UInt8) : dec (r.take 4) < 4294967296 := by
  have := dec_lt (r.take 4)
  have h2 : 256 ^ (r.take 4).length ≤ 256 ^ 4 := Nat.pow_le_pow_right (by omega) (List.length_take_le _ _)
  omega

/-- A number off the beginning of bytes that are there. -/
theorem Number_fits (r : List UInt8) (k : Nat) (w : World) (h1 : 1 ≤ k) (h2 : k ≤ 4) (hr : k ≤ r.length) (hm : r.length ≤ 9223372036854775807) :
    Calls Try.prog 70 #[.string (str r), .int .i64 k] w fun e w' => e = .returned (.tuple #[.int .i64 (dec (r.take k)), .string (str (r.drop k)), .int .i64 0]) ∧ Below w.heap.size w w' := by
  have hlt : dec (r.take k) < 4294967296 := by
    have a := dec_lt (r.take k)
    have b : 256 ^ (r.take k).length ≤ 256 ^ 4 := Nat.pow_le_pow_right (by omega) (by rw [List.length_take]; omega)
    omega
  have hE : numE r (k : Int) = 0 := by
    rw [numE_get h1 (by omega) hr]
    exact getE_ok (by rw [List.length_take]; omega) (by rw [List.length_take]; omega) (by omega)
  have := Number_any (str r) (k : Int) w (by rw [str_size]; unfold maxLen; omega)
  rw [str_list, numN_ok hE, numR_ok hE, hE] at this
  exact this

set_option maxHeartbeats 2000000 in
set_option maxRecDepth 100000 in
theorem take_any (r : List UInt8) (w : World) (hr : 5 ≤ r.length) (hm : r.length ≤ 9223372036854775807) :
    Calls Try.prog 85 #[.string (str r)] w fun e w' => e = .returned (.tuple #[.agg #[.int .i64 (eltOf r).vol, .int .u64 (eltOf r).mask], .string (str (r.drop 5))]) ∧ Below w.heap.size w w' := by
  have H1 := Lib.hid fun w => Number_fits r 1 w (by omega) (by omega) (by omega) hm
  have H2 := Lib.hid fun w => Number_fits (r.drop 1) 4 w (by omega) (by omega) (by rw [List.length_drop]; omega) (by rw [List.length_drop]; omega)
  have hd : (r.drop 1).drop 4 = r.drop 5 := by rw [List.drop_drop]
  rw [hd] at H2
  have hV := dec_one_lt r
  have hU := dec_four_lt (r.drop 1)
  unfold eltOf
  simp only
  generalize dec (r.take 1) = V at *
  generalize dec ((r.drop 1).take 4) = U at *
  generalize str (r.drop 1) = S1 at *
  generalize str (r.drop 5) = S5 at *
  generalize str r = S at *
  clear hd hr hm
  have hw : IntKind.u64.wrap (U : Int) = (U : Int) := by rw [IntKind.wrap_u64]; omega
  go_enter Try.func85, Try.ntmps85
  go_wp2_with fail
  refine (H1.out _).mono ?_
  rintro e w1 ⟨rfl, hb1⟩
  have HB1 : Hid (Below w.heap.size w w1) := Lib.hid (((Below.refl _ _).alloc (Nat.le_refl _) _).trans (hb1.mono (by simp)))
  have HC1 : Hid (w1.heap[w.heap.size]? = some (.cells #[.int .i64 0, .int .u64 0] 124 (0, 0))) := Lib.hid (by rw [hb1.block _ (by simp)]; exact heap_alloc_new _ _)
  clear hb1
  go_wp2_with fail
  refine (H2.out _).mono ?_
  rintro e w2 ⟨rfl, hb2⟩
  have hlt : w.heap.size < w1.heap.size := (Array.getElem?_eq_some_iff.1 HC1.out).1
  have HB2 : Hid (Below w.heap.size w w2) := Lib.hid (below_next HB1.out hb2)
  have HC2 : Hid (w2.heap[w.heap.size]? = some (.cells #[.int .i64 0, .int .u64 0] 124 (0, 0))) := Lib.hid (by rw [hb2.block _ hlt]; exact HC1.out)
  clear hb2 hlt HC1 HB1
  have x1 : w2.cell? ⟨w.heap.size, 0, none⟩ = some (.int .i64 0) := by rw [Lib.cell_of_heap HC2.out]; rfl
  have x2 : w2.cell? ⟨w.heap.size, 1, none⟩ = some (.int .u64 0) := by rw [Lib.cell_of_heap HC2.out]; rfl
  have f1 := Lib.frozen_of_heap HC2.out 0
  have f2 := Lib.frozen_of_heap HC2.out 1
  go_wp2_with fail
  have HW : Hid (Below w.heap.size w ((w2.setCell ⟨w.heap.size, 0, none⟩ (.int .i64 V)).setCell ⟨w.heap.size, 1, none⟩ (.int .u64 U))) := Lib.hid ((HB2.out.setCell (Nat.le_refl _) _).setCell (Nat.le_refl _) _)
  have HR : Hid (((w2.setCell ⟨w.heap.size, 0, none⟩ (.int .i64 V)).setCell ⟨w.heap.size, 1, none⟩ (.int .u64 U)).heap[w.heap.size]? = some (.cells #[.int .i64 V, .int .u64 U] 124 (0, 0))) := Lib.hid (row_set (row_set HC2.out 0 _) 1 _)
  clear x1 x2 f1 f2 HB2 HC2
  generalize (w2.setCell ⟨w.heap.size, 0, none⟩ (.int .i64 V)).setCell ⟨w.heap.size, 1, none⟩ (.int .u64 U) = W3 at *
  have y1 : W3.cell? ⟨w.heap.size, 0, none⟩ = some (.int .i64 V) := by rw [Lib.cell_of_heap HR.out]; rfl
  have y2 : W3.cell? ⟨w.heap.size, 1, none⟩ = some (.int .u64 U) := by rw [Lib.cell_of_heap HR.out]; rfl
  exact bodyPost_ret (v := .tuple #[.agg #[.int .i64 V, .int .u64 U], .string S5]) (by simp [results, Try.results85, go_sem, y1, y2]) rfl ⟨rfl, HW.out⟩

set_option maxHeartbeats 4000000 in
set_option maxRecDepth 100000 in
theorem DirParse_any (l : List UInt8) (w : World) (hm : l.length ≤ 9223372036854775807) :
    Calls Try.prog 58 #[.string (str l)] w fun e w' => ∃ A c, e = .returned (.tuple #[.slice A (parM l).length c, .string (str (parR l)), .int .i64 (parE l)]) ∧ BtsAt w' w'.heap.size A (parM l) ∧ Below w.heap.size w w' := by
  by_cases h0 : l.length = 0
  · obtain ⟨q1, q2, q3⟩ := parE_none h0
    rw [q1, q2, q3]
    have hN : Hid (∀ w, Calls Try.prog 70 #[.string (str l), .int .i64 1] w fun e w' => e = .returned (.tuple #[.int .i64 0, .string ⟨#[]⟩, .int .i64 2]) ∧ Below w.heap.size w w') := Lib.hid fun w => by
      have hE : numE l 1 = 2 := numE_short (by omega) (by omega) (by omega)
      have := Number_any (str l) 1 w (by rw [str_size]; unfold maxLen; omega)
      rw [str_list, numN_no (by rw [hE]; omega), numR_no (by rw [hE]; omega), hE] at this
      exact this
    generalize str l = S at *
    go_enter Try.func58, Try.ntmps58
    go_wp2_with fail
    refine (hN.out _).mono ?_
    rintro e w1 ⟨rfl, hb⟩
    replace hb := Lib.hid hb
    go_wp2_with fail
    go_ret3
    exact ⟨none, 0, rfl, .inl rfl, hb.out⟩
  · have HNum := Lib.hid fun w => Number_fits l 1 w (by omega) (by omega) (by omega) hm
    obtain ⟨n, hn⟩ : ∃ n, parN l = n := ⟨_, rfl⟩
    have hn8 : n < 256 := by rw [← hn]; exact dec_one_lt l
    have hne : dec (l.take 1) = n := hn
    rw [hne] at HNum
    have hsz : (str (l.drop 1)).size = l.length - 1 := by rw [str_size, List.length_drop]
    by_cases hsh : l.length - 1 < 5 * n
    · obtain ⟨q1, q2, q3⟩ := parE_short (l := l) (by rw [hn]; exact hsh)
      rw [q1, q2, q3]
      have hlt : ((str (l.drop 1)).size : Int) < (n : Int) * 5 := by rw [hsz]; omega
      have hlt2 : decide (((str (l.drop 1)).size : Int) < (n : Int) * 5) = true := by rw [decide_eq_true_iff]; exact hlt
      generalize str (l.drop 1) = S1 at *
      generalize str l = S at *
      clear hsz hsh h0
      go_enter Try.func58, Try.ntmps58
      go_wp2_with fail
      refine (HNum.out _).mono ?_
      rintro e w1 ⟨rfl, hb⟩
      replace hb := Lib.hid hb
      go_wp2_with fail
      go_ret3
      exact ⟨none, 0, rfl, .inl rfl, hb.out⟩
    · obtain ⟨R, hR⟩ : ∃ R : Nat → ByteArray, ∀ k, R k = str (l.drop (1 + k * 5)) := ⟨_, fun _ => rfl⟩
      have hR0 : str (l.drop 1) = R 0 := (hR 0).symm
      rw [hR0] at hsz HNum
      have hlt : ¬ ((R 0).size : Int) < (n : Int) * 5 := by rw [hsz]; omega
      have hlt2 : decide (((R 0).size : Int) < (n : Int) * 5) = false := by rw [decide_eq_false_iff_not]; exact hlt
      obtain ⟨i0, hi0, hz0, hz1, hz2⟩ := info_parts Try.infoBt
      have hmk : ∀ W : World, (Instr.makeSlice 47 (.int .i64 (n : Int)) (.int .i64 (n : Int))).run Try.prog W = .ok (.slice (some ⟨W.heap.size, 0, none⟩) n n) (W.alloc (.cells (madeCells #[Value.int .i64 0, Value.int .u64 0] (n * 2)) 124)) := fun W => by
        have := run_make (P := Try.prog) W 47 124 i0 _ Try.underlying47 hi0 hz0 .i64 .i64 (n : Int) (n : Int) (by omega) (Int.le_refl _) (by rw [hz2]; omega) (by omega)
        rw [hz1, Int.toNat_natCast] at this
        exact this
      have HT : Hid (∀ k w, k < n → Calls Try.prog 85 #[.string (R k)] w fun e w' => e = .returned (.tuple #[.agg #[.int .i64 (eltOf (l.drop (1 + k * 5))).vol, .int .u64 (eltOf (l.drop (1 + k * 5))).mask], .string (R (k + 1))]) ∧ Below w.heap.size w w') := Lib.hid fun k w hk => by
        rw [hR, hR]
        have := take_any (l.drop (1 + k * 5)) w (by rw [List.length_drop]; omega) (by rw [List.length_drop]; omega)
        rw [List.drop_drop, show 1 + k * 5 + 5 = 1 + (k + 1) * 5 from by omega] at this
        exact this
      have HPl := Lib.hid (parseN_length n (l.drop 1))
      have HPa : Hid (∀ k, k < n → (parseN n (l.drop 1))[k]? = some (eltOf (l.drop (1 + k * 5)))) := Lib.hid fun k hk => by
        rw [parseN_at hk, List.drop_drop]
      have HPf : Hid (BtsFit (parseN n (l.drop 1))) := Lib.hid ⟨by rw [parseN_length]; omega, fun b hb => by
        obtain ⟨k, hk, rfl⟩ := List.getElem_of_mem hb
        have hk2 : k < n := by rw [parseN_length] at hk; exact hk
        have e := HPa.out k hk2
        rw [List.getElem?_eq_getElem hk] at e
        have e2 := Option.some.inj e
        rw [e2]
        unfold eltOf
        simp only
        have := dec_four_lt ((l.drop (1 + k * 5)).drop 1)
        omega⟩
      have HF : Hid (bitsOk (parseN n (l.drop 1)) = false → parE l = 3 ∧ parM l = [] ∧ parR l = []) := Lib.hid fun hb => parE_form h0 (by rw [hn]; exact hsh) (by rw [hn]; exact hb)
      have HG : Hid (bitsOk (parseN n (l.drop 1)) = true → parE l = 0 ∧ parM l = parseN n (l.drop 1) ∧ str (parR l) = R n) := Lib.hid fun hb => by
        rw [hR]
        have := parE_ok h0 (by rw [hn]; exact hsh) (by rw [hn]; exact hb)
        rw [hn, Nat.mul_comm 5 n] at this
        rw [this.2.2]
        exact ⟨this.1, this.2.1, rfl⟩
      generalize parseN n (l.drop 1) = P at *
      have HR := Lib.hid hR
      clear hsz hsh h0 hn hne hm hz1 hz2 hz0 hi0 hR hR0
      go_enter Try.func58, Try.ntmps58
      go_wp2_with fail
      refine (HNum.out _).mono ?_
      rintro e w1 ⟨rfl, hb⟩
      replace hb := Lib.hid hb
      go_wp2_with fail
      clear hmk hlt hlt2
      have HB1 : Hid (Below w.heap.size w (w1.alloc (.cells (madeCells #[Value.int .i64 0, Value.int .u64 0] (n * 2)) 124))) := Lib.hid (hb.out.alloc hb.out.size _)
      have HC1 : Hid ((w1.alloc (.cells (madeCells #[Value.int .i64 0, Value.int .u64 0] (n * 2)) 124)).heap[w1.heap.size]? = some (.cells (madeCells #[Value.int .i64 0, Value.int .u64 0] (n * 2)) 124 (0, 0))) := Lib.hid (heap_alloc_new _ _)
      have HMs : Hid ((madeCells #[Value.int .i64 0, Value.int .u64 0] (n * 2)).size = n * 2) := Lib.hid (by simp [madeCells])
      have hg1 : w.heap.size ≤ w1.heap.size := hb.out.size
      generalize madeCells #[Value.int .i64 0, Value.int .u64 0] (n * 2) = M at *
      generalize w1.alloc (.cells M 124) = W1 at *
      generalize w1.heap.size = g at *
      go_loopg [6, 28] n (fun kx s6 s28 wr => ∃ (k : Nat) (cs : Array Value), s28 = .int .i64 k ∧ k ≤ n ∧ n - k ≤ kx ∧ s6 = .string (R k) ∧ Hid (wr.heap[g]? = some (.cells cs 124 (0, 0))) ∧ Hid (cs.size = n * 2) ∧ Hid (∀ i b, i < k → P[i]? = some b → cs[i * 2]? = some (.int .i64 b.vol) ∧ cs[i * 2 + 1]? = some (.int .u64 b.mask)) ∧ Hid (Below w.heap.size w wr))
      case atStart => exact ⟨0, M, rfl, Nat.zero_le _, by omega, rfl, HC1, HMs, Lib.hid (fun i b hi => by omega), HB1⟩
      case round =>
        clear HC1 HB1 hb HNum
        obtain ⟨k, cs, rfl, hk, hkx, rfl, HC, HCs, HCi, HB⟩ := hrel
        by_cases hlt : k < n
        · have hltz : (k : Int) < (n : Int) := by omega
          have hk0 : (0 : Int) ≤ (k : Int) := Int.natCast_nonneg _
          have HTk := Lib.hid fun w => HT.out k w hlt
          have HPk := Lib.hid (HPa.out k hlt)
          generalize eltOf (l.drop (1 + k * 5)) = b at *
          obtain ⟨V, U⟩ := b
          simp only at HTk
          go_wp2_with fail
          refine (HTk.out _).mono ?_
          rintro e w2 ⟨rfl, hb2⟩
          have hgl : g < wr.heap.size := (Array.getElem?_eq_some_iff.1 HC.out).1
          have HC2 : Hid (w2.heap[g]? = some (.cells cs 124 (0, 0))) := Lib.hid (by rw [hb2.block _ hgl]; exact HC.out)
          have HB2 : Hid (Below w.heap.size w w2) := Lib.hid (below_next HB.out hb2)
          clear hb2 HC HB hgl
          have x1 : ∃ v, w2.cell? ⟨g, k * 2, none⟩ = some v := by rw [Lib.cell_of_heap HC2.out, Array.getElem?_eq_getElem (by rw [HCs.out]; omega)]; exact ⟨_, rfl⟩
          have x2 : ∃ v, w2.cell? ⟨g, k * 2 + 1, none⟩ = some v := by rw [Lib.cell_of_heap HC2.out, Array.getElem?_eq_getElem (by rw [HCs.out]; omega)]; exact ⟨_, rfl⟩
          obtain ⟨v1, x1⟩ := x1
          obtain ⟨v2, x2⟩ := x2
          have f1 := Lib.frozen_of_heap HC2.out (k * 2)
          have f2 := Lib.frozen_of_heap HC2.out (k * 2 + 1)
          go_wp2_with fail
          have HC3 : Hid (((w2.setCell ⟨g, k * 2, none⟩ (.int .i64 V)).setCell ⟨g, k * 2 + 1, none⟩ (.int .u64 U)).heap[g]? = some (.cells ((cs.setIfInBounds (k * 2) (.int .i64 V)).setIfInBounds (k * 2 + 1) (.int .u64 U)) 124 (0, 0))) := Lib.hid (row_set (row_set HC2.out _ _) _ _)
          have HB3 : Hid (Below w.heap.size w ((w2.setCell ⟨g, k * 2, none⟩ (.int .i64 V)).setCell ⟨g, k * 2 + 1, none⟩ (.int .u64 U))) := Lib.hid ((HB2.out.setCell hg1 _).setCell hg1 _)
          have HCi3 : Hid (∀ i b, i < k + 1 → P[i]? = some b → ((cs.setIfInBounds (k * 2) (.int .i64 V)).setIfInBounds (k * 2 + 1) (.int .u64 U))[i * 2]? = some (.int .i64 b.vol) ∧ ((cs.setIfInBounds (k * 2) (.int .i64 V)).setIfInBounds (k * 2 + 1) (.int .u64 U))[i * 2 + 1]? = some (.int .u64 b.mask)) := Lib.hid (fun i b hi hb => by
            have hz := HCs.out
            by_cases e : i = k
            · subst e
              rw [HPk.out] at hb
              cases hb
              constructor
              · rw [Array.getElem?_setIfInBounds_ne (by omega), Array.getElem?_setIfInBounds_self_of_lt (by omega)]
              · rw [Array.getElem?_setIfInBounds_self_of_lt (by simp; omega)]
            · obtain ⟨g1, g2⟩ := HCi.out i b (by omega) hb
              constructor
              · rw [Array.getElem?_setIfInBounds_ne (by omega), Array.getElem?_setIfInBounds_ne (by omega)]; exact g1
              · rw [Array.getElem?_setIfInBounds_ne (by omega), Array.getElem?_setIfInBounds_ne (by omega)]; exact g2)
          have HCs3 : Hid (((cs.setIfInBounds (k * 2) (.int .i64 V)).setIfInBounds (k * 2 + 1) (.int .u64 U)).size = n * 2) := Lib.hid (by simp [HCs.out])
          generalize (cs.setIfInBounds (k * 2) (.int .i64 V)).setIfInBounds (k * 2 + 1) (.int .u64 U) = cs3 at *
          generalize (w2.setCell ⟨g, k * 2, none⟩ (.int .i64 V)).setCell ⟨g, k * 2 + 1, none⟩ (.int .u64 U) = W3 at *
          clear x1 x2 f1 f2 HC2 HB2 HCi HCs HTk HPk
          go_roundg (n - (k + 1))
          case measure => omega
          case rel => exact ⟨k + 1, cs3, by go_num, by omega, Nat.le_refl _, rfl, HC3, HCs3, HCi3, HB3⟩
        · have hltz : ¬ (k : Int) < (n : Int) := by omega
          have hke : k = n := by omega
          subst hke
          have HAt : Hid (BtsAt wr wr.heap.size (some ⟨g, 0, none⟩) P) := Lib.hid (by
            refine .inr ⟨g, 0, rfl, (Array.getElem?_eq_some_iff.1 HC.out).1, fun i hi => ?_⟩
            obtain ⟨g1, g2⟩ := HCi.out i P[i] (by rw [← HPl.out]; exact hi) (List.getElem?_eq_getElem hi)
            rw [Nat.zero_add, Lib.cell_of_heap HC.out, Lib.cell_of_heap HC.out]
            exact ⟨g1, g2⟩)
          cases hr : bitsOk P with
          | false =>
            have HRt : Hid (∀ c, Calls Try.prog 53 #[.slice (some ⟨g, 0, none⟩) k c] wr fun e w' => e = .returned (.bool false) ∧ Below wr.heap.size wr w') := Lib.hid fun c => by
              have := DirRight_any (c := c) HAt.out HPf.out.1
              rw [HPl.out, hr] at this
              exact this
            have HQ := Lib.hid (HF.out hr)
            clear hr
            go_wp2_with fail
            refine (HRt.out _).mono ?_
            rintro e w4 ⟨rfl, hb4⟩
            replace hb4 := Lib.hid (below_next HB.out hb4)
            go_wp2_with fail
            go_ret3
            rw [HQ.out.1, HQ.out.2.1, HQ.out.2.2]
            exact ⟨none, 0, rfl, .inl rfl, hb4.out⟩
          | true =>
            have HRt : Hid (∀ c, Calls Try.prog 53 #[.slice (some ⟨g, 0, none⟩) k c] wr fun e w' => e = .returned (.bool true) ∧ Below wr.heap.size wr w') := Lib.hid fun c => by
              have := DirRight_any (c := c) HAt.out HPf.out.1
              rw [HPl.out, hr] at this
              exact this
            have HQ := Lib.hid (HG.out hr)
            clear hr
            go_wp2_with fail
            refine (HRt.out _).mono ?_
            rintro e w4 ⟨rfl, hb4⟩
            have HA4 := Lib.hid (HAt.out.next hb4)
            replace hb4 := Lib.hid (below_next HB.out hb4)
            go_wp2_with fail
            go_ret3
            rw [HQ.out.1, HQ.out.2.1, HQ.out.2.2]
            exact ⟨some ⟨g, 0, none⟩, k, by rw [HPl.out]; rfl, HA4.out, hb4.out⟩

end Go.Proofs.Ytkpoeigoocbgeaa
