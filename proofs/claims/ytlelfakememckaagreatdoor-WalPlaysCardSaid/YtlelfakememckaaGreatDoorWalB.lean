/- Contracts of a log's headers: encoded, the two encode, strings.CutPrefix, strings.Trim (of zero bytes), numbers, decodeSlot, decodeRecord. -/
import Derived.Test.YtlelfakememckaaGreatDoorWalA
namespace Go.Proofs.YtlelfakememckaaGreatDoor
open Go.RowKit

theorem encoded_any (n width : Int) (w : World) (hn : n ≤ 9223372036854775807) : Calls Tryz.prog 91 #[.int .i64 n, .int .i64 width] w fun e w' => e = .returned (.string (str (putB n width))) ∧ Below w.heap.size w w' := by
  go_enter Tryz.func91, Tryz.ntmps91
  go_wp2_with fail
  refine (Put_any n width _ hn).mono ?_
  rintro e w1 ⟨rfl, hb⟩
  have HB := Lib.hid hb
  clear hb
  go_wp2_with fail
  go_ret
  exact ⟨rfl, HB.out⟩

theorem putB_le (n k : Int) (h : k ≤ 8) : (putB n k).length ≤ 8 := by
  unfold putB
  split
  · rw [enc_length]; omega
  · simp
theorem encoded_to (n k : Int) (hk : k ≤ 8) (hn : n ≤ 9223372036854775807) : ∃ P : ByteArray, P.size ≤ 8 ∧ str (putB n k) = P ∧ ∀ w, Calls Tryz.prog 91 #[.int .i64 n, .int .i64 k] w fun e w' => e = .returned (.string P) ∧ Below w.heap.size w w' :=
  ⟨_, by rw [str_size]; exact putB_le n k hk, rfl, fun w => encoded_any n k w hn⟩

def slotHead (gen len pos num : Int) : List UInt8 := [83] ++ putB gen 8 ++ putB len 4 ++ putB pos 4 ++ putB num 8
def recHead (num len : Int) : List UInt8 := [82] ++ putB num 8 ++ putB len 4

theorem below_cells4 {w w' : World} {x0 x1 x2 x3 : Value} {t : TypeId} (hb : Below (w.alloc (.cells #[x0, x1, x2, x3] t)).heap.size (w.alloc (.cells #[x0, x1, x2, x3] t)) w') :
    w'.cell? ⟨w.heap.size, 0, none⟩ = some x0 ∧ w'.cell? ⟨w.heap.size, 1, none⟩ = some x1 ∧ w'.cell? ⟨w.heap.size, 2, none⟩ = some x2 ∧ w'.cell? ⟨w.heap.size, 3, none⟩ = some x3 := by
  have h : w'.heap[w.heap.size]? = some (.cells #[x0, x1, x2, x3] t) := (hb.block _ (by simp)).trans (heap_alloc_new _ _)
  refine ⟨?_, ?_, ?_, ?_⟩ <;> rw [Lib.cell_of_heap h] <;> rfl

set_option maxHeartbeats 1600000 in
theorem slotEncode_any (gen len pos num : Int) (w : World) (h0 : gen ≤ 9223372036854775807) (h1 : len ≤ 9223372036854775807) (h2 : pos ≤ 9223372036854775807) (h3 : num ≤ 9223372036854775807) :
    Calls Tryz.prog 75 #[.agg #[.int .i64 gen, .int .i64 len, .int .i64 pos, .int .i64 num]] w fun e w' => e = .returned (.string (str (slotHead gen len pos num))) ∧ Below w.heap.size w w' := by
  have HX : Hid (∀ w', Below (w.alloc (.cells #[.int .i64 gen, .int .i64 len, .int .i64 pos, .int .i64 num] 107)).heap.size (w.alloc (.cells #[.int .i64 gen, .int .i64 len, .int .i64 pos, .int .i64 num] 107)) w' → w'.cell? ⟨w.heap.size, 0, none⟩ = some (.int .i64 gen) ∧ w'.cell? ⟨w.heap.size, 1, none⟩ = some (.int .i64 len) ∧ w'.cell? ⟨w.heap.size, 2, none⟩ = some (.int .i64 pos) ∧ w'.cell? ⟨w.heap.size, 3, none⟩ = some (.int .i64 num)) := Lib.hid (fun w' hb => below_cells4 hb)
  have HY : Hid (∀ w', Below (w.alloc (.cells #[.int .i64 gen, .int .i64 len, .int .i64 pos, .int .i64 num] 107)).heap.size (w.alloc (.cells #[.int .i64 gen, .int .i64 len, .int .i64 pos, .int .i64 num] 107)) w' → Below w.heap.size w w') := Lib.hid (fun w' hb => ((Below.refl _ _).alloc (Nat.le_refl _) _).trans (hb.mono (by simp)))
  obtain ⟨P0, s0, e0, k0⟩ := encoded_to gen 8 (by omega) h0
  obtain ⟨P1, s1, e1, k1⟩ := encoded_to len 4 (by omega) h1
  obtain ⟨P2, s2, e2, k2⟩ := encoded_to pos 4 (by omega) h2
  obtain ⟨P3, s3, e3, k3⟩ := encoded_to num 8 (by omega) h3
  have HE : Hid (str (slotHead gen len pos num) = ByteArray.mk #[83] ++ P0 ++ P1 ++ P2 ++ P3) := Lib.hid (by
    rw [← e0, ← e1, ← e2, ← e3]
    show _ = str [83] ++ _ ++ _ ++ _ ++ _
    rw [str_cat, str_cat, str_cat, str_cat]
    rfl)
  have K0 := Lib.hid k0
  have K1 := Lib.hid k1
  have K2 := Lib.hid k2
  have K3 := Lib.hid k3
  have n1 : ¬ 9223372036854775807 < 1 + P0.size := by omega
  have n2 : ¬ 9223372036854775807 < 1 + P0.size + P1.size := by omega
  have n3 : ¬ 9223372036854775807 < 1 + P0.size + P1.size + P2.size := by omega
  have n4 : ¬ 9223372036854775807 < 1 + P0.size + P1.size + P2.size + P3.size := by omega
  clear e0 e1 e2 e3 k0 k1 k2 k3
  go_enter Tryz.func75, Tryz.ntmps75
  go_wp2_with fail
  have HB0 : Hid (Below (w.alloc (.cells #[.int .i64 gen, .int .i64 len, .int .i64 pos, .int .i64 num] 107)).heap.size (w.alloc (.cells #[.int .i64 gen, .int .i64 len, .int .i64 pos, .int .i64 num] 107)) (w.alloc (.cells #[.int .i64 gen, .int .i64 len, .int .i64 pos, .int .i64 num] 107)).drew) := Lib.hid (Below.refl _ _).drew
  generalize w.alloc (.cells #[.int .i64 gen, .int .i64 len, .int .i64 pos, .int .i64 num] 107) = V at *
  have cV := HX.out V (Below.refl _ _)
  go_region_held3 (fun w' => w'.cell? ⟨w.heap.size, 0, none⟩ = some (.int .i64 gen) ∧ w'.cell? ⟨w.heap.size, 1, none⟩ = some (.int .i64 len) ∧ w'.cell? ⟨w.heap.size, 2, none⟩ = some (.int .i64 pos) ∧ w'.cell? ⟨w.heap.size, 3, none⟩ = some (.int .i64 num))
    (first | exact cV | exact HX.out _ HB1.out | exact HX.out _ HB2.out | exact HX.out _ HB3.out | exact HX.out _ HB4.out)
    (first
      | (((with_reducible refine (K0.out _).mono ?_); rintro e w1 ⟨rfl, hb1⟩; have HB1 := Lib.hid (HB0.out.trans (hb1.mono HB0.out.size)); clear hb1))
      | (((with_reducible refine (K1.out _).mono ?_); rintro e w2 ⟨rfl, hb2⟩; have HB2 := Lib.hid (HB1.out.trans (hb2.mono HB1.out.size)); clear hb2))
      | (((with_reducible refine (K2.out _).mono ?_); rintro e w3 ⟨rfl, hb3⟩; have HB3 := Lib.hid (HB2.out.trans (hb3.mono HB2.out.size)); clear hb3))
      | (((with_reducible refine (K3.out _).mono ?_); rintro e w4 ⟨rfl, hb4⟩; have HB4 := Lib.hid (HB3.out.trans (hb4.mono HB3.out.size)); clear hb4)))
  go_wp2
  go_ret
  refine ⟨?_, HY.out _ HB4.out⟩
  rw [HE.out]
  rfl

theorem below_cells2 {w w' : World} {x0 x1 : Value} {t : TypeId} (hb : Below (w.alloc (.cells #[x0, x1] t)).heap.size (w.alloc (.cells #[x0, x1] t)) w') :
    w'.cell? ⟨w.heap.size, 0, none⟩ = some x0 ∧ w'.cell? ⟨w.heap.size, 1, none⟩ = some x1 := by
  have h : w'.heap[w.heap.size]? = some (.cells #[x0, x1] t) := (hb.block _ (by simp)).trans (heap_alloc_new _ _)
  refine ⟨?_, ?_⟩ <;> rw [Lib.cell_of_heap h] <;> rfl

set_option maxHeartbeats 1600000 in
theorem recEncode_any (num len : Int) (w : World) (h0 : num ≤ 9223372036854775807) (h1 : len ≤ 9223372036854775807) :
    Calls Tryz.prog 79 #[.agg #[.int .i64 num, .int .i64 len]] w fun e w' => e = .returned (.string (str (recHead num len))) ∧ Below w.heap.size w w' := by
  have HX : Hid (∀ w', Below (w.alloc (.cells #[.int .i64 num, .int .i64 len] 111)).heap.size (w.alloc (.cells #[.int .i64 num, .int .i64 len] 111)) w' → w'.cell? ⟨w.heap.size, 0, none⟩ = some (.int .i64 num) ∧ w'.cell? ⟨w.heap.size, 1, none⟩ = some (.int .i64 len)) := Lib.hid (fun w' hb => below_cells2 hb)
  have HY : Hid (∀ w', Below (w.alloc (.cells #[.int .i64 num, .int .i64 len] 111)).heap.size (w.alloc (.cells #[.int .i64 num, .int .i64 len] 111)) w' → Below w.heap.size w w') := Lib.hid (fun w' hb => ((Below.refl _ _).alloc (Nat.le_refl _) _).trans (hb.mono (by simp)))
  obtain ⟨P0, s0, e0, k0⟩ := encoded_to num 8 (by omega) h0
  obtain ⟨P1, s1, e1, k1⟩ := encoded_to len 4 (by omega) h1
  have HE : Hid (str (recHead num len) = ByteArray.mk #[82] ++ P0 ++ P1) := Lib.hid (by
    rw [← e0, ← e1]
    show _ = str [82] ++ _ ++ _
    rw [str_cat, str_cat]
    rfl)
  have K0 := Lib.hid k0
  have K1 := Lib.hid k1
  have n1 : ¬ 9223372036854775807 < 1 + P0.size := by omega
  have n2 : ¬ 9223372036854775807 < 1 + P0.size + P1.size := by omega
  clear e0 e1 k0 k1
  go_enter Tryz.func79, Tryz.ntmps79
  go_wp2_with fail
  have HB0 : Hid (Below (w.alloc (.cells #[.int .i64 num, .int .i64 len] 111)).heap.size (w.alloc (.cells #[.int .i64 num, .int .i64 len] 111)) (w.alloc (.cells #[.int .i64 num, .int .i64 len] 111)).drew) := Lib.hid (Below.refl _ _).drew
  generalize w.alloc (.cells #[.int .i64 num, .int .i64 len] 111) = V at *
  have cV := HX.out V (Below.refl _ _)
  go_region_held3 (fun w' => w'.cell? ⟨w.heap.size, 0, none⟩ = some (.int .i64 num) ∧ w'.cell? ⟨w.heap.size, 1, none⟩ = some (.int .i64 len))
    (first | exact cV | exact HX.out _ HB1.out | exact HX.out _ HB2.out)
    (first
      | (((with_reducible refine (K0.out _).mono ?_); rintro e w1 ⟨rfl, hb1⟩; have HB1 := Lib.hid (HB0.out.trans (hb1.mono HB0.out.size)); clear hb1))
      | (((with_reducible refine (K1.out _).mono ?_); rintro e w2 ⟨rfl, hb2⟩; have HB2 := Lib.hid (HB1.out.trans (hb2.mono HB1.out.size)); clear hb2)))
  go_wp2
  go_ret
  refine ⟨?_, HY.out _ HB2.out⟩
  rw [HE.out]
  rfl

/-! ### strings.CutPrefix by one byte, strings.Trim of zero bytes -/

def cutE (l : List UInt8) (c : UInt8) : Bool := match l with | [] => false | x :: _ => x == c
def cutR (l : List UInt8) (c : UInt8) : List UInt8 := if cutE l c = true then l.tail else l

theorem HasPrefix_any (l : List UInt8) (c : UInt8) (w : World) (hl : l.length ≤ 9223372036854775807) : Calls Tryz.prog 120 #[.string (str l), .string ⟨#[c]⟩] w fun e w' => e = .returned (.bool (cutE l c)) ∧ w = w' := by
  cases l with
  | nil =>
    go_enter Tryz.func120, Tryz.ntmps120
    go_wp2
    go_ret
    exact ⟨rfl, rfl⟩
  | cons x l =>
    have h1 : (str (x :: l)).size = l.length + 1 := by rw [str_size]; rfl
    have h2 : 1 ≤ (str (x :: l)).size := by omega
    have h3 : (((str (x :: l)).extract 0 1).toList == [c]) = (x == c) := by
      rw [Lib.toList_data, extract_take, str_list]
      show ([x] == [c]) = _
      simp
    go_enter Tryz.func120, Tryz.ntmps120
    go_wp2
    go_ret
    exact ⟨rfl, rfl⟩

theorem tail_str (x : UInt8) (l : List UInt8) : (str (x :: l)).extract 1 (l.length + 1) = str l := by
  apply ByteArray.ext
  simp [str]

theorem liteCutPrefix_any (l : List UInt8) (c : UInt8) (w : World) (hl : l.length ≤ 9223372036854775807) : Calls Tryz.prog 105 #[.string (str l), .string ⟨#[c]⟩] w fun e w' => e = .returned (.tuple #[.string (str (cutR l c)), .bool (cutE l c)]) ∧ w = w' := by
  have HP := Lib.hid (fun w => HasPrefix_any l c w hl)
  cases hc : cutE l c with
  | false =>
    have e : cutR l c = l := by unfold cutR; rw [hc]; rfl
    rw [e]
    rw [hc] at HP
    go_enter Tryz.func105, Tryz.ntmps105
    go_wp2_with fail
    refine (HP.out _).mono ?_
    rintro e w' ⟨rfl, rfl⟩
    go_wp2_with fail
    go_ret2
    exact ⟨rfl, rfl⟩
  | true =>
    rw [hc] at HP
    cases l with
    | nil => cases hc
    | cons x l =>
      have e : cutR (x :: l) c = l := by unfold cutR; rw [hc]; rfl
      rw [e]
      have h1 : (str (x :: l)).size = l.length + 1 := by rw [str_size]; rfl
      have HT := Lib.hid (tail_str x l)
      have h2 : (1 : Int) ≤ ((str (x :: l)).size : Int) := by rw [h1]; omega
      go_enter Tryz.func105, Tryz.ntmps105
      go_wp2_with fail
      refine (HP.out _).mono ?_
      rintro e w' ⟨rfl, rfl⟩
      go_wp2_with fail
      go_ret2
      refine ⟨?_, rfl⟩
      rw [← HT.out]
      rfl
theorem CutPrefix_any (l : List UInt8) (c : UInt8) (w : World) (hl : l.length ≤ 9223372036854775807) : Calls Tryz.prog 96 #[.string (str l), .string ⟨#[c]⟩] w fun e w' => e = .returned (.tuple #[.string (str (cutR l c)), .bool (cutE l c)]) ∧ w = w' := by
  have HP := Lib.hid (fun w => liteCutPrefix_any l c w hl)
  generalize cutE l c = E at *
  generalize str (cutR l c) = R at *
  go_enter Tryz.func96, Tryz.ntmps96
  go_wp2_with fail
  refine (HP.out _).mono ?_
  rintro e w' ⟨rfl, rfl⟩
  go_wp2_with fail
  go_ret2
  exact ⟨rfl, rfl⟩

/-- Nothing but zero bytes. -/
def zeroB (l : List UInt8) : Bool := l.all (· == 0)

def trimL (l : List UInt8) : List UInt8 := l.dropWhile (· == 0)
def trimR (l : List UInt8) : List UInt8 := (l.reverse.dropWhile (· == 0)).reverse
theorem trimL_zero (t : List UInt8) : trimL (0 :: t) = trimL t := rfl
theorem trimL_no {x : UInt8} (h : x ≠ 0) (t : List UInt8) : trimL (x :: t) = x :: t := by unfold trimL; rw [List.dropWhile_cons_of_neg (by simpa using h)]
theorem trimR_zero (t : List UInt8) : trimR (t ++ [0]) = trimR t := by unfold trimR; rw [List.reverse_append]; rfl
theorem trimR_no {x : UInt8} (h : x ≠ 0) (t : List UInt8) : trimR (t ++ [x]) = t ++ [x] := by
  unfold trimR; rw [List.reverse_append]
  show (List.dropWhile _ (x :: t.reverse)).reverse = _
  rw [List.dropWhile_cons_of_neg (by simpa using h)]
  simp
theorem zeroB_trimL (l : List UInt8) : (trimL l).isEmpty = zeroB l := by
  induction l with
  | nil => rfl
  | cons x l ih =>
    by_cases h : x = 0
    · subst h; rw [trimL_zero, ih]; rfl
    · rw [trimL_no h]; unfold zeroB; simp [h]
theorem zeroB_trimR (l : List UInt8) : zeroB (trimR l) = zeroB l := by
  have key : ∀ m : List UInt8, zeroB (m.dropWhile (· == 0)) = zeroB m := fun m => by
    induction m with
    | nil => rfl
    | cons x m ih =>
      by_cases h : x = 0
      · subst h; exact ih
      · rw [List.dropWhile_cons_of_neg (by simpa using h)]
  have hrev : ∀ m : List UInt8, zeroB m.reverse = zeroB m := fun m => by unfold zeroB; rw [List.all_reverse]
  unfold trimR
  rw [hrev, key, hrev]
theorem trimR_le (l : List UInt8) : (trimR l).length ≤ l.length := by
  unfold trimR
  rw [List.length_reverse]
  exact Nat.le_trans (List.dropWhile_sublist _).length_le (by rw [List.length_reverse]; exact Nat.le_refl _)

theorem byte_at (l : List UInt8) (i : Nat) (h : i < l.length) : (str l)[i]'(by rw [str_size]; exact h) = l[i] := rfl

set_option maxHeartbeats 400000 in
theorem trimLeft_any (l : List UInt8) (w : World) : Calls Tryz.prog 108 #[.string (str l), .int .u8 0] w fun e w' => e = .returned (.string (str (trimL l))) ∧ w = w' := by
  go_enter Tryz.func108, Tryz.ntmps108
  go_wp2
  go_loopw [0] (fun v wr => (∃ t, v = .string (str t) ∧ trimL t = trimL l ∧ t.length ≤ l.length) ∧ wr = w) (fun v _ => match v with | .string b => b.size | _ => 0)
  case atStart => exact ⟨⟨l, rfl, rfl, Nat.le_refl _⟩, rfl⟩
  case round =>
    obtain ⟨⟨t, rfl, ht, htl⟩, rfl⟩ := hrel
    have HT := Lib.hid ht
    clear ht
    cases t with
    | nil =>
      go_wp2
      go_ret
      exact ⟨by rw [← HT.out]; rfl, rfl⟩
    | cons x t =>
      have h1 : (str (x :: t)).size = t.length + 1 := by rw [str_size]; rfl
      have hl2 : t.length + 1 ≤ l.length := by simpa using htl
      obtain ⟨S, hS⟩ : ∃ S, str (x :: t) = S := ⟨_, rfl⟩
      have h0 : 0 < S.size := by rw [← hS, h1]; omega
      have hE : S.extract 1 (t.length + 1) = str t := by rw [← hS]; exact tail_str x t
      have hb : S[0].toNat = x.toNat := by subst hS; rfl
      have hS1 : S.size = t.length + 1 := by rw [← hS, h1]
      have HS := Lib.hid hS
      rw [hS]
      clear hS h1 htl
      by_cases hx : x = 0
      · have hq : ((S[0].toNat : Int) == 0) = true := by rw [hb, hx]; rfl
        have HZ : Hid (trimL t = trimL l) := Lib.hid (by rw [← HT.out, hx, trimL_zero])
        have HE := Lib.hid hE
        clear hb hx HT hE
        go_wp2
        go_roundw
        case rel => exact ⟨⟨t, by rw [HE.out], HZ.out, by omega⟩, trivial⟩
        case measure => rw [HE.out]; show (str t).size < S.size; rw [str_size, hS1]; omega
      · have hq : ((S[0].toNat : Int) == 0) = false := by
          rw [beq_eq_false_iff_ne, hb]
          intro h
          exact hx (UInt8.toNat_inj.1 (by simpa using h))
        have HZ : Hid (trimL l = x :: t) := Lib.hid (by rw [← HT.out, trimL_no hx])
        clear hb hx HT hE
        go_wp2
        go_ret
        exact ⟨by rw [HZ.out, HS.out]; rfl, rfl⟩

theorem init_str (t : List UInt8) (x : UInt8) : (str (t ++ [x])).extract 0 t.length = str t := by
  apply ByteArray.ext
  simp [str]

set_option maxHeartbeats 400000 in
theorem trimRight_any (l : List UInt8) (w : World) (hl : l.length ≤ 9223372036854775807) : Calls Tryz.prog 109 #[.string (str l), .int .u8 0] w fun e w' => e = .returned (.string (str (trimR l))) ∧ w = w' := by
  go_enter Tryz.func109, Tryz.ntmps109
  go_wp2
  go_loopw [0] (fun v wr => (∃ t, v = .string (str t) ∧ trimR t = trimR l ∧ t.length ≤ l.length) ∧ wr = w) (fun v _ => match v with | .string b => b.size | _ => 0)
  case atStart => exact ⟨⟨l, rfl, rfl, Nat.le_refl _⟩, rfl⟩
  case round =>
    obtain ⟨⟨t, rfl, ht, htl⟩, rfl⟩ := hrel
    have HT := Lib.hid ht
    clear ht
    rcases (show t = [] ∨ ∃ t' x, t = t' ++ [x] from by
      rcases List.eq_nil_or_concat t with h | ⟨a, b, h⟩
      · exact .inl h
      · exact .inr ⟨a, b, by rw [h, List.concat_eq_append]⟩) with rfl | ⟨t', x, rfl⟩
    · go_wp2
      go_ret
      exact ⟨by rw [← HT.out]; rfl, rfl⟩
    · have h1 : (str (t' ++ [x])).size = t'.length + 1 := by rw [str_size]; simp
      have hl2 : t'.length + 1 ≤ l.length := by simpa using htl
      obtain ⟨S, hS⟩ : ∃ S, str (t' ++ [x]) = S := ⟨_, rfl⟩
      have h0 : t'.length < S.size := by rw [← hS, h1]; omega
      have hE : S.extract 0 t'.length = str t' := by rw [← hS]; exact init_str t' x
      have hb : S[t'.length].toNat = x.toNat := by
        subst hS
        have : (str (t' ++ [x]))[t'.length] = (t' ++ [x])[t'.length]'(by simp) := rfl
        rw [this]
        simp
      have hS1 : S.size = t'.length + 1 := by rw [← hS, h1]
      have HS := Lib.hid hS
      rw [hS]
      clear hS h1 htl
      by_cases hx : x = 0
      · have hq : ((S[t'.length].toNat : Int) == 0) = true := by rw [hb, hx]; rfl
        have HZ : Hid (trimR t' = trimR l) := Lib.hid (by rw [← HT.out, hx, trimR_zero])
        have HE := Lib.hid hE
        clear hb hx HT hE
        go_wp2
        go_roundw
        case rel => exact ⟨⟨t', by rw [HE.out], HZ.out, by omega⟩, trivial⟩
        case measure => rw [HE.out]; show (str t').size < S.size; rw [str_size, hS1]; omega
      · have hq : ((S[t'.length].toNat : Int) == 0) = false := by
          rw [beq_eq_false_iff_ne, hb]
          intro h
          exact hx (UInt8.toNat_inj.1 (by simpa using h))
        have HZ : Hid (trimR l = t' ++ [x]) := Lib.hid (by rw [← HT.out, trimR_no hx])
        clear hb hx hE HT
        go_wp2
        go_ret
        exact ⟨by rw [HZ.out, HS.out]; rfl, rfl⟩

set_option maxHeartbeats 800000 in
set_option maxRecDepth 100000 in
theorem Trim_any (l : List UInt8) (w : World) (hl : l.length ≤ 9223372036854775807) : Quiet 98 #[.string (str l), .string ⟨#[0]⟩] w (.string (str (trimL (trimR l)))) := by
  cases l with
  | nil =>
    obtain ⟨S, hS⟩ : ∃ S, str [] = S := ⟨_, rfl⟩
    have hne : S.toList = [] := by rw [← hS, Lib.toList_data]; rfl
    rw [show trimL (trimR []) = [] from rfl, hS]
    clear hS
    go_enter Tryz.func98, Tryz.ntmps98
    go_wp2
    go_ret
    exact ⟨rfl, 0, rfl⟩
  | cons x l =>
    have HR : Hid (∀ w, Calls Tryz.prog 109 #[.string (str (x :: l)), .int .u8 0] w fun e w' => e = .returned (.string (str (trimR (x :: l)))) ∧ w = w') := Lib.hid (fun w => trimRight_any (x :: l) w hl)
    have HL : Hid (∀ w, Calls Tryz.prog 108 #[.string (str (trimR (x :: l))), .int .u8 0] w fun e w' => e = .returned (.string (str (trimL (trimR (x :: l))))) ∧ w = w') := Lib.hid (fun w => trimLeft_any _ w)
    obtain ⟨S, hS⟩ : ∃ S, str (x :: l) = S := ⟨_, rfl⟩
    have hne : (S.toList == []) = false := by rw [← hS, Lib.toList_data]; rfl
    generalize str (trimL (trimR (x :: l))) = R at *
    generalize str (trimR (x :: l)) = R2 at *
    rw [hS] at HR ⊢
    clear hS hl
    go_enter Tryz.func98, Tryz.ntmps98
    go_wp2_with fail
    go_quiet (first
      | (go_at_call 109; exact (Quiet.same (HR.out _)).still)
      | (go_at_call 108; exact (Quiet.same (HL.out _)).still))
    go_wp2
    go_ret
    exact ⟨rfl, _, rfl⟩
end Go.Proofs.YtlelfakememckaaGreatDoor
