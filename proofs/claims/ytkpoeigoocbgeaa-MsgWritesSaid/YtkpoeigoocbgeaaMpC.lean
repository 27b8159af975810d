/- Contracts of the functions numbers, PutLine and PutWrites of the package msg. -/
import Derived.Test.YtkpoeigoocbgeaaMpB
namespace Go.Proofs.Ytkpoeigoocbgeaa
open Go.RowKit

/-- A builder that holds these bytes. -/
def BuAt (B b : Nat) (l : List UInt8) (w : World) : Prop := Lib.IsBuilder 69 5 B b (Lib.byteCells l) w
theorem BuAt.new (w : World) (B : Nat) (hB : B ≤ w.heap.size) : BuAt B w.heap.size [] (w.alloc (.cells #[.pointer none, .slice none 0 0] 69)) :=
  .inl ⟨hB, .slice none 0 0, heap_new _ _, World.ownsRow_nil _ _ _ _, by simp [Value.ownBlock]⟩
theorem bu_write {B b : Nat} {l : List UInt8} {w : World} (h : BuAt B b l w) (s : List UInt8) (hlen : l.length + s.length ≤ 1000000) (hBw : B ≤ w.heap.size) :
    Calls Try.prog 31 #[.pointer (some ⟨b, 0, none⟩), .string (str s)] w fun e w' => (∃ v, e = .returned v) ∧ BuAt B b (l ++ s) w' ∧ Below B w w' := by
  refine (Try.Builder_WriteString B b (Lib.byteCells l) (str s) w h (by rw [str_size]; simp [Lib.byteCells]; omega) hBw).mono ?_
  rintro e w' ⟨rfl, hb, hbel⟩
  rw [cells_cat] at hb
  exact ⟨⟨_, rfl⟩, .inr hb, hbel⟩
theorem bu_string {B b : Nat} {l : List UInt8} {w : World} (h : BuAt B b l w) (hBw : B ≤ w.heap.size) :
    Calls Try.prog 33 #[.pointer (some ⟨b, 0, none⟩)] w fun e w' => e = .returned (.string (str l)) ∧ Below B w w' :=
  Try.Builder_String_any B b l w h hBw
theorem BuAt.below {B b : Nat} {l : List UInt8} {w w' : World} (h : BuAt B b l w) (hb : Below w.heap.size w w') : BuAt B b l w' := by
  rcases h with h | h
  · exact .inl (builder_below h hb)
  · exact .inr (builder_below h hb)
def encs (k : Nat) (l : List Int) : List UInt8 := l.flatMap fun n => enc k n.toNat
theorem encs_length (k : Nat) (l : List Int) : (encs k l).length = k * l.length := by
  unfold encs
  induction l with
  | nil => simp
  | cons x r ih => rw [List.flatMap_cons, List.length_append, enc_length, ih, List.length_cons]; rw [Nat.mul_add]; omega
theorem encs_take {k : Nat} {l : List Int} {j : Nat} (h : j < l.length) : encs k (l.take (j + 1)) = encs k (l.take j) ++ enc k l[j].toNat := by
  unfold encs
  rw [List.take_succ_eq_append_getElem h, List.flatMap_append]
  simp

set_option maxHeartbeats 2000000 in
set_option maxRecDepth 100000 in
theorem numbers_any {w : World} {A : Option Addr} {c : Nat} {l : List Int} (k : Nat) (h1 : 1 ≤ k) (h8 : k ≤ 8) (h : Lies w w.heap.size A (l.map (Value.int .i64))) (hl : l.length ≤ 1000)
    (hf : ∀ x ∈ l, 0 ≤ x ∧ x.toNat < 256 ^ k ∧ x ≤ 9223372036854775807) :
    Calls Try.prog 32 #[.int .i64 (k : Int), .slice A l.length c] w fun e w' => e = .returned (.string (str (encs k l))) ∧ Below w.heap.size w w' := by
  have HW := Lib.hid h
  have HF := Lib.hid hf
  have HP := Lib.hid fun (x : Nat) w (h : x < 256 ^ k ∧ x ≤ 9223372036854775807) => Put_fits x k w h1 h8 h.1 h.2
  have HBw := Lib.hid fun B b (l : List UInt8) w h s h1 h2 => @bu_write B b l w h s h1 h2
  obtain ⟨n, hn⟩ : ∃ n, l.length = n := ⟨_, rfl⟩
  have HN := Lib.hid hn
  have HLe := Lib.hid (fun j => encs_length k (l.take j))
  rw [hn] at hl ⊢
  have hb0 := below_one w (.cells #[.pointer none, .slice none 0 0] 69)
  have HB0 := Lib.hid hb0
  have HU0 := Lib.hid (BuAt.new w w.heap.size (Nat.le_refl _))
  clear h hn hb0 hf
  go_enter Try.func32, Try.ntmps32
  go_wp2_with fail
  go_loopw [7, 8, 9, 12] (fun _ _ _ i wr => ∃ j : Nat, j ≤ n ∧ i = .int .i64 j ∧ Hid (BuAt w.heap.size w.heap.size (encs k (l.take j)) wr) ∧ Hid (Below w.heap.size w wr)) (fun _ _ _ i _ => n - (intOf i).toNat)
  case atStart => exact ⟨0, Nat.zero_le _, rfl, Lib.hid (by rw [List.take_zero]; exact HU0.out), HB0⟩
  case round =>
    obtain ⟨j, hj, rfl, HU, HB⟩ := hrel
    have hwz : w.heap.size ≤ wr.heap.size := HB.out.size
    by_cases hlt : j < n
    · have hkl : j < l.length := by rw [HN.out]; exact hlt
      obtain ⟨bb, off, rfl, hbl, x0⟩ := HW.out.numB HB.out (k := j) hkl
      have hgd : l.getD j 0 = l[j] := by rw [List.getD_eq_getElem?_getD, List.getElem?_eq_getElem hkl]; rfl
      rw [hgd] at x0
      have HM := Lib.hid (HF.out l[j] (List.getElem_mem hkl))
      have HT := Lib.hid (encs_take (k := k) hkl)
      obtain ⟨p, hp⟩ : ∃ p, l[j] = p := ⟨_, rfl⟩
      rw [hp] at x0 HM HT
      obtain ⟨m, hm⟩ : ∃ m : Nat, p = (m : Int) := ⟨p.toNat, by have := HM.out; omega⟩
      subst hm
      rw [Int.toNat_natCast] at HT HM
      have hm1 : m < 256 ^ k ∧ m ≤ 9223372036854775807 := ⟨HM.out.2.1, by have := HM.out; omega⟩
      have HPm := Lib.hid fun w => HP.out m w hm1
      have hle : (encs k (l.take j)).length ≤ 8 * 1000 := by
        rw [HLe.out, List.length_take]
        exact Nat.mul_le_mul h8 (by omega)
      have hkn2 : (j : Int) < (n : Int) := by omega
      have hk0 : (0 : Int) ≤ (j : Int) := by omega
      obtain ⟨D, hD⟩ : ∃ D, encs k (l.take j) = D := ⟨_, rfl⟩
      rw [hD] at HU HT hle
      have hel : (enc k m).length ≤ 8 := by rw [enc_length]; exact h8
      obtain ⟨X, hX⟩ : ∃ X, enc k m = X := ⟨_, rfl⟩
      rw [hX] at HPm HT hel
      clear hp hkl hgd hD hX HM hm1
      go_wp2_with (first
        | (go_at_call 66; refine (HPm.out _).mono ?_; rintro e w2 ⟨rfl, hb2⟩; have HU2 := Lib.hid (HU.out.below hb2); have HB2 := Lib.hid (below_next HB.out hb2); clear hb2)
        | (go_at_call 31; refine (HBw.out _ _ _ _ HU2.out X (by omega) HB2.out.size).mono ?_; rintro e w3 ⟨⟨v, rfl⟩, hu3, hb3⟩; have HU3 := Lib.hid hu3; have HB3 := Lib.hid (HB2.out.trans hb3); clear hu3 hb3))
      go_roundw
      case rel => exact ⟨j + 1, by omega, by go_num, Lib.hid (by rw [HT.out]; exact HU3.out), HB3⟩
      case measure => simp [intOf]; omega
    · obtain rfl : j = n := by omega
      have hkn2 : ¬ (j : Int) < (j : Int) := by omega
      have HE : Hid (encs k (l.take j) = encs k l) := Lib.hid (by rw [List.take_of_length_le (by rw [HN.out]; exact Nat.le_refl _)])
      rw [HE.out] at HU
      have HS := Lib.hid (bu_string HU.out hwz)
      go_wp2_with (go_at_call 33; refine (HS.out).mono ?_; rintro e w2 ⟨rfl, hb2⟩; have HB2 := Lib.hid (HB.out.trans hb2); clear hb2)
      go_ret
      exact ⟨rfl, HB2.out⟩

theorem lies_new17 (w : World) (l : List Int) (t : TypeId) : Lies (w.alloc (.cells (l.map (Value.int .i64)).toArray t)) (w.alloc (.cells (l.map (Value.int .i64)).toArray t)).heap.size (some ⟨w.heap.size, 0, none⟩) (l.map (Value.int .i64)) := by
  refine .inr ⟨w.heap.size, 0, rfl, by simp, fun i hi => ?_⟩
  rw [Lib.cell_of_heap (heap_new w _), Nat.zero_add]
  simp at hi ⊢
theorem nums_lit {w : World} {H : Nat} (hH : w.heap.size = H) (l : List Int) (k : Nat) (h1 : 1 ≤ k) (h8 : k ≤ 8) (hl : l.length ≤ 1000) (hf : ∀ x ∈ l, 0 ≤ x ∧ x.toNat < 256 ^ k ∧ x ≤ 9223372036854775807) (t : TypeId) :
    Calls Try.prog 32 #[.int .i64 (k : Int), .slice (some ⟨H, 0, none⟩) l.length l.length] (w.alloc (.cells (l.map (Value.int .i64)).toArray t)) fun e w' => e = .returned (.string (str (encs k l))) ∧ Below w.heap.size w w' := by
  subst hH
  refine (numbers_any k h1 h8 (lies_new17 w l t) hl hf).mono ?_
  rintro e w' ⟨rfl, hb⟩
  exact ⟨rfl, below_next (below_one w _) hb⟩
theorem num_one17 (w : World) (H : Nat) (hH : w.heap.size = H) (x k : Nat) (h1 : 1 ≤ k) (h8 : k ≤ 8) (hx : x < 256 ^ k) (hm : x ≤ 9223372036854775807) :
    Calls Try.prog 32 #[.int .i64 (k : Int), .slice (some ⟨H, 0, none⟩) 1 1] (w.alloc (.cells #[.int .i64 (x : Int)] 3)) fun e w' => e = .returned (.string (str (enc k x))) ∧ Below w.heap.size w w' := by
  have := nums_lit (w := w) hH [(x : Int)] k h1 h8 (by simp) (by intro y hy; rw [List.mem_singleton] at hy; subst hy; rw [Int.toNat_natCast]; omega) 3
  rw [show encs k [(x : Int)] = enc k x from by unfold encs; simp] at this
  exact this
theorem num_two17 (w : World) (H : Nat) (hH : w.heap.size = H) (x y k : Nat) (h1 : 1 ≤ k) (h8 : k ≤ 8) (hx : x < 256 ^ k ∧ y < 256 ^ k) (hm : x ≤ 9223372036854775807 ∧ y ≤ 9223372036854775807) :
    Calls Try.prog 32 #[.int .i64 (k : Int), .slice (some ⟨H, 0, none⟩) 2 2] (w.alloc (.cells #[.int .i64 (x : Int), .int .i64 (y : Int)] 3)) fun e w' => e = .returned (.string (str (enc k x ++ enc k y))) ∧ Below w.heap.size w w' := by
  have := nums_lit (w := w) hH [(x : Int), (y : Int)] k h1 h8 (by simp) (by
    intro z hz
    simp only [List.mem_cons, List.not_mem_nil, or_false] at hz
    rcases hz with rfl | rfl <;> rw [Int.toNat_natCast] <;> omega) 3
  rw [show encs k [(x : Int), (y : Int)] = enc k x ++ enc k y from by unfold encs; simp] at this
  exact this

/-- What PutLine, PutWrites and Bytes answer (P17.1, P17.2). -/
def putLnE (l : List Br) : Int := if lined l = true then 0 else 1
def putLnS (l : List Br) : List UInt8 := if lined l = true then lineB l else []
open Classical in
noncomputable def putWsE (ws : List Wr) : Int := if writable ws = true then 0 else 1
noncomputable def putWsS (ws : List Wr) : List UInt8 := if writable ws = true then writesB ws else []

set_option maxHeartbeats 4000000 in
set_option maxRecDepth 100000 in
theorem PPutLine_any {w : World} {A : Option Addr} {c : Nat} {l : List Br} (h : BrsAt w w.heap.size A l) (hl : l.length ≤ 1000) :
    Calls Try.prog 10 #[.slice A l.length c] w fun e w' => e = .returned (.tuple #[.string (str (putLnS l)), .int .i64 (putLnE l)]) ∧ Below w.heap.size w w' := by
  have HI := Lib.hid (isLine_any (c := c) h (by omega))
  have HW := Lib.hid h
  cases hq : lined l with
  | false =>
    have e1 : putLnS l = [] := by unfold putLnS; rw [hq]; rfl
    have e2 : putLnE l = 1 := by unfold putLnE; rw [hq]; rfl
    rw [e1, e2]
    rw [hq] at HI
    generalize l.length = n at HI ⊢
    clear h HW hl hq e1 e2
    go_enter Try.func10, Try.ntmps10
    go_wp2_with (go_at_call 30; (with_reducible refine HI.out.mono ?_); rintro e w1 ⟨rfl, hb⟩; have HB := Lib.hid hb; clear hb)
    go_ret2
    exact ⟨rfl, HB.out⟩
  | true =>
    have HFt := Lib.hid (lined_fit hq).1
    have hlen := (lined_fit hq).2
    have e1 : putLnS l = lineB l := by unfold putLnS; rw [hq]; rfl
    have e2 : putLnE l = 0 := by unfold putLnE; rw [hq]; rfl
    rw [e1, e2]
    rw [hq] at HI
    have HBw := Lib.hid fun B b (l : List UInt8) w h s h1 h2 => @bu_write B b l w h s h1 h2
    obtain ⟨n, hn⟩ : ∃ n, l.length = n := ⟨_, rfl⟩
    have HN := Lib.hid hn
    have HLn : Hid (lineB l = enc 1 n ++ brsB (l.take n)) := Lib.hid (by unfold lineB; rw [hn, List.take_of_length_le (by omega)])
    rw [hn] at hl hlen HI ⊢
    have HO := Lib.hid fun w H h => num_one17 w H h n 1 (by omega) (by omega) (by omega) (by omega)
    have HT8 := Lib.hid fun w H hH x y (h : x ≤ 1099511627776 ∧ y ≤ 1099511627776) => num_two17 w H hH x y 8 (by omega) (by omega) (by omega) (by omega)
    rw [show ((1 : Nat) : Int) = 1 from rfl] at HO
    rw [show ((8 : Nat) : Int) = 8 from rfl] at HT8
    have HLb := Lib.hid fun j => brsB_length (l.take j)
    have HE1 : Hid ((enc 1 n).length = 1) := Lib.hid (enc_length _ _)
    obtain ⟨X, hX⟩ : ∃ X, enc 1 n = X := ⟨_, rfl⟩
    rw [hX] at HO HLn HE1
    clear h hn hq e1 e2 hX
    go_enter Try.func10, Try.ntmps10
    go_upto_region 5 with (first
      | (go_at_call 30; (with_reducible refine HI.out.mono ?_); rintro e w1 ⟨rfl, hb⟩; have HB1 := Lib.hid hb; have HB1a := Lib.hid (below_next hb (below_one w1 (.cells #[.pointer none, .slice none 0 0] 69))); have HU1 := Lib.hid (BuAt.new w1 w.heap.size hb.size); clear hb)
      | (go_at_call 32; (with_reducible refine (HO.out _ _ (by simp)).mono ?_); rintro e w2 ⟨rfl, hb⟩; have HB2 := Lib.hid (below_next HB1a.out hb); have HU2 := Lib.hid (HU1.out.below hb); clear hb)
      | (go_at_call 31; refine (HBw.out _ _ _ _ HU2.out X (by have := HE1.out; simp; omega) HB2.out.size).mono ?_; rintro e w3 ⟨⟨v, rfl⟩, hu3, hb3⟩; have HU3 := Lib.hid hu3; have HB3 := Lib.hid (HB2.out.trans hb3); clear hu3 hb3))
    rw [List.nil_append] at HU3
    go_wp2_with fail
    go_loopw [17] (fun i wr => ∃ j : Nat, j ≤ n ∧ i = .int .i64 j ∧ Hid (BuAt w.heap.size w1.heap.size (X ++ brsB (l.take j)) wr) ∧ Hid (Below w.heap.size w wr)) (fun i _ => n - (intOf i).toNat)
    case atStart => exact ⟨0, Nat.zero_le _, rfl, Lib.hid (by rw [List.take_zero, show brsB [] = [] from rfl, List.append_nil]; exact HU3.out), HB3⟩
    case round =>
      clear HU1 HU2 HU3 HB1a HB2 HB3
      obtain ⟨j, hj, rfl, HU, HB⟩ := hrel
      have hwz : w.heap.size ≤ wr.heap.size := HB.out.size
      by_cases hlt : j < n
      · have hkl : j < l.length := by rw [HN.out]; exact hlt
        obtain ⟨bb, off, rfl, hbl, x0, x1⟩ := HW.out.at_ HB.out hkl
        have HM := Lib.hid (HFt.out l[j] (List.getElem_mem hkl))
        have HT := Lib.hid (brsB_take hkl)
        obtain ⟨p, hp⟩ : ∃ p, l[j] = p := ⟨_, rfl⟩
        rw [hp] at x0 x1 HM HT
        obtain ⟨p1, p2⟩ := p
        dsimp only at x0 x1 HM HT
        obtain ⟨m1, rfl⟩ : ∃ m : Nat, p1 = (m : Int) := ⟨p1.toNat, by have := HM.out; omega⟩
        obtain ⟨m2, rfl⟩ : ∃ m : Nat, p2 = (m : Int) := ⟨p2.toNat, by have := HM.out; omega⟩
        rw [Int.toNat_natCast, Int.toNat_natCast] at HT
        have HTw := Lib.hid fun w H hH => HT8.out w H hH m1 m2 (by have := HM.out; omega)
        have hle : (X ++ brsB (l.take j)).length ≤ 20000 := by
          rw [List.length_append, HE1.out, HLb.out, List.length_take]; omega
        have hel : (enc 8 m1 ++ enc 8 m2).length = 16 := by rw [List.length_append, enc_length, enc_length]
        have HT2 : Hid (X ++ brsB (l.take (j + 1)) = (X ++ brsB (l.take j)) ++ (enc 8 m1 ++ enc 8 m2)) := Lib.hid (by rw [HT.out, List.append_assoc])
        have hkn2 : (j : Int) < (n : Int) := by omega
        have hk0 : (0 : Int) ≤ (j : Int) := by omega
        obtain ⟨D, hD⟩ : ∃ D, X ++ brsB (l.take j) = D := ⟨_, rfl⟩
        rw [hD] at HU HT2 hle
        obtain ⟨Y, hY⟩ : ∃ Y, enc 8 m1 ++ enc 8 m2 = Y := ⟨_, rfl⟩
        rw [hY] at HTw HT2 hel
        have K1 := Lib.hid (below_one wr (.cells #[.int .i64 (m1 : Int), .int .i64 (m2 : Int)] 76))
        have HU4 := Lib.hid (HU.out.below K1.out)
        have HB4 := Lib.hid (below_next HB.out K1.out)
        clear hp hkl hD hY HM HT K1
        go_wp2_with (first
          | (go_at_call 32; (with_reducible refine (HTw.out _ _ (by simp)).mono ?_); rintro e w5 ⟨rfl, hb⟩; have HB5 := Lib.hid (below_next HB4.out hb); have HU5 := Lib.hid (HU4.out.below hb); clear hb)
          | (go_at_call 31; refine (HBw.out _ _ _ _ HU5.out Y (by omega) HB5.out.size).mono ?_; rintro e w6 ⟨⟨v, rfl⟩, hu3, hb3⟩; have HU6 := Lib.hid hu3; have HB6 := Lib.hid (HB5.out.trans hb3); clear hu3 hb3))
        go_roundw
        case rel => exact ⟨j + 1, by omega, by go_num, Lib.hid (by rw [HT2.out]; exact HU6.out), HB6⟩
        case measure => simp [intOf]; omega
      · obtain rfl : j = n := by omega
        have hkn2 : ¬ (j : Int) < (j : Int) := by omega
        rw [← HLn.out] at HU
        have HS := Lib.hid (bu_string HU.out hwz)
        go_wp2_with (go_at_call 33; refine (HS.out).mono ?_; rintro e w2 ⟨rfl, hb2⟩; have HB2 := Lib.hid (HB.out.trans hb2); clear hb2)
        go_ret2
        exact ⟨rfl, HB2.out⟩
end Go.Proofs.Ytkpoeigoocbgeaa
