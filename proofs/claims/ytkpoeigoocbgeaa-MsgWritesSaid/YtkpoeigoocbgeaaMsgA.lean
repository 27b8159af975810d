/- Contracts of the document's small functions on messages: fits, one, two, eight, at, Lined, none. -/
import Derived.Test.YtkpoeigoocbgeaaMsgQ
import Derived.Test.YtkpoeigoocbgeaaBytes
import Derived.Test.YtkpoeigoocbgeaaRef
import Derived.Test.YtkpoeigoocbgeaaMsLine
namespace Go.Proofs.Ytkpoeigoocbgeaa
open Go.RowKit

theorem fits17_any (n : Int) (w : World) : Calls Try.prog 47 #[.int .i64 n] w fun e w' => e = .returned (.bool (fitB n)) ∧ w = w' := by
  unfold fitB
  go_enter Try.func47, Try.ntmps47
  by_cases h0 : 0 ≤ n
  · by_cases h1 : n ≤ 1099511627776
    · rw [decide_eq_true ⟨h0, h1⟩]
      go_wp2
      go_ret
      exact ⟨rfl, rfl⟩
    · rw [decide_eq_false (fun e => h1 e.2)]
      go_wp2
      go_ret
      exact ⟨rfl, rfl⟩
  · rw [decide_eq_false (fun e => h0 e.1)]
    go_wp2
    go_ret
    exact ⟨rfl, rfl⟩

/-- 'string(b)' of a slice of known bytes that was just made. -/
theorem text_new (w : World) (l : List UInt8) (cap : Nat) : (convert 67 9 (.slice (some ⟨w.heap.size, 0, none⟩) l.length cap)).run Try.prog (w.alloc (.cells (l.map (fun c => Value.int .u8 (c.toNat : Int))).toArray 5)) = .ok (.string (str l)) (w.alloc (.cells (l.map (fun c => Value.int .u8 (c.toNat : Int))).toArray 5)) := by
  refine text_of_bytes (fun j hj => ?_) cap
  have h0 := heap_new w (.cells (l.map (fun c => Value.int .u8 (c.toNat : Int))).toArray 5 (0, 0))
  exact ⟨by rw [Lib.cell_of_heap h0]; simp [hj], Lib.frozen_of_heap h0 j⟩
theorem enc_one (n : Nat) : enc 1 n = [UInt8.ofNat n] := by
  rw [show (1 : Nat) = 0 + 1 from rfl, enc_cons]; simp; rfl
theorem enc_two (n : Nat) : enc 2 n = [UInt8.ofNat (n / 256), UInt8.ofNat n] := by
  rw [show (2 : Nat) = 1 + 1 from rfl, enc_cons, enc_one]
theorem u8_of (n : Nat) : ((UInt8.ofNat n).toNat : Int) = ((n % 256 : Nat) : Int) := by rw [UInt8.toNat_ofNat']

set_option maxHeartbeats 1000000 in
theorem one17_any (n : Nat) (w : World) (h : n < 256) : Calls Try.prog 35 #[.int .i64 (n : Int)] w fun e w' => e = .returned (.string (str (enc 1 n))) ∧ Below w.heap.size w w' := by
  have hcv := text_new w [UInt8.ofNat n] 1
  simp only [List.map_cons, List.map_nil, u8_of, List.length_singleton] at hcv
  rw [Nat.mod_eq_of_lt h] at hcv
  rw [enc_one]
  have hw : IntKind.u8.wrap (n : Int) = (n : Int) := by rw [IntKind.wrap_u8]; omega
  go_enter Try.func35, Try.ntmps35
  go_wp2
  go_ret
  exact ⟨rfl, below_one _ _⟩

set_option maxHeartbeats 1000000 in
theorem two17_any (n : Nat) (w : World) (h : n < 65536) : Calls Try.prog 42 #[.int .i64 (n : Int)] w fun e w' => e = .returned (.string (str (enc 2 n))) ∧ Below w.heap.size w w' := by
  have hcv := text_new w [UInt8.ofNat (n / 256), UInt8.ofNat n] 2
  simp only [List.map_cons, List.map_nil, u8_of, List.length_cons, List.length_nil] at hcv
  rw [Nat.mod_eq_of_lt (show n / 256 < 256 by omega)] at hcv
  rw [enc_two]
  have hq : (n : Int).tdiv 256 = ((n / 256 : Nat) : Int) := by rw [Int.tdiv_eq_ediv_of_nonneg (by omega)]; omega
  have hr : (n : Int).tmod 256 = ((n % 256 : Nat) : Int) := by rw [Int.tmod_eq_emod_of_nonneg (by omega)]; omega
  have hw1 : IntKind.u8.wrap ((n / 256 : Nat) : Int) = ((n / 256 : Nat) : Int) := by rw [IntKind.wrap_u8]; omega
  have hw2 : IntKind.u8.wrap ((n % 256 : Nat) : Int) = ((n % 256 : Nat) : Int) := by rw [IntKind.wrap_u8]; omega
  have hw3 : IntKind.i64.wrap ((n / 256 : Nat) : Int) = ((n / 256 : Nat) : Int) := by rw [IntKind.wrap_i64]; omega
  obtain ⟨q, hqq⟩ : ∃ q, n / 256 = q := ⟨_, rfl⟩
  obtain ⟨r, hrr⟩ : ∃ r, n % 256 = r := ⟨_, rfl⟩
  rw [hqq] at hcv hq hw1 hw3
  rw [hrr] at hcv hr hw2
  obtain ⟨X, hX⟩ : ∃ X, str [UInt8.ofNat q, UInt8.ofNat n] = X := ⟨_, rfl⟩
  rw [hX] at hcv
  rw [hqq, hX]
  clear hX hqq hrr
  go_enter Try.func42, Try.ntmps42
  go_wp2
  go_ret
  exact ⟨rfl, below_one _ _⟩

theorem eight17_any (n : Int) (w : World) (h : fitB n = true) : Calls Try.prog 36 #[.int .i64 n] w fun e w' => e = .returned (.string (str (enc 8 n.toNat))) ∧ Below w.heap.size w w' := by
  rw [fitB_iff] at h
  have h1 := RefPut_any n 8 w (by omega)
  obtain ⟨k, rfl⟩ := Int.eq_ofNat_of_zero_le h.1
  have hE : putE (k : Int) ((8 : Nat) : Int) = 0 := putE_ok (by omega) (by omega) (by omega)
  have hB := putB_ok hE
  rw [show ((8 : Nat) : Int) = 8 from rfl] at hE hB
  rw [hE, hB] at h1
  have H1 := Lib.hid h1
  rw [Int.toNat_natCast]
  clear h1 hE hB
  go_enter Try.func36, Try.ntmps36
  go_wp2_with (go_at_call 67; (with_reducible refine H1.out.mono ?_); rintro e w9 ⟨rfl, hb9⟩)
  go_ret
  exact ⟨rfl, hb9⟩

/-- The number of w bytes at a place. -/
def atOk (s : List UInt8) (k w : Nat) : Bool := decide (k + w ≤ s.length ∧ dec ((s.drop k).take w) < 9223372036854775808)
def atN (s : List UInt8) (k w : Nat) : Nat := if atOk s k w = true then dec ((s.drop k).take w) else 0
theorem extract_mid17 (s : ByteArray) (k w : Nat) : (s.extract k (k + w)).data.toList = (s.data.toList.drop k).take w := by
  rw [Lib.extract_data]
  simp

set_option maxHeartbeats 1000000 in
theorem at17_any (s : List UInt8) (k v : Nat) (w : World) (h1 : 1 ≤ v) (h8 : v ≤ 8) (hk : k ≤ 1152921504606846976) (hs : s.length ≤ 1152921504606846976) :
    Calls Try.prog 38 #[.string (str s), .int .i64 (k : Int), .int .i64 (v : Int)] w fun e w' => e = .returned (.tuple #[.int .i64 (atN s k v : Int), .bool (atOk s k v)]) ∧ w = w' := by
  obtain ⟨T, hT⟩ : ∃ T, str s = T := ⟨_, rfl⟩
  have hsz : T.size = s.length := by rw [← hT, str_size]
  have hk0 : ¬ (k : Int) < 0 := by omega
  have hw1 : IntKind.i64.wrap ((T.size : Int) - (v : Int)) = (T.size : Int) - (v : Int) := by rw [IntKind.wrap_i64]; omega
  by_cases hin : k + v ≤ s.length
  · have hg := RefGet_any (T.extract k (k + v)) w (by rw [← ByteArray.size_data, ByteArray.data_extract]; unfold maxLen; simp; omega)
    rw [extract_mid17, show T.data.toList = s from by rw [← hT]; rfl] at hg
    obtain ⟨R, hR⟩ : ∃ R, (s.drop k).take v = R := ⟨_, rfl⟩
    have hRl : R.length = v := by rw [← hR, List.length_take, List.length_drop]; omega
    rw [hR] at hg
    have hin2 : ¬ (T.size : Int) - (v : Int) < (k : Int) := by omega
    have hw2 : IntKind.i64.wrap ((k : Int) + (v : Int)) = ((k + v : Nat) : Int) := by rw [IntKind.wrap_i64]; omega
    have hs1 : (k : Int) ≤ ((k + v : Nat) : Int) := by omega
    have hs2 : ((k + v : Nat) : Int) ≤ (T.size : Int) := by omega
    have hs3 : k ≤ k + v := by omega
    have hs4 : k + v ≤ T.size := by omega
    have hs5 : (0 : Int) ≤ ((k + v : Nat) : Int) := by omega
    by_cases hd : dec R < 9223372036854775808
    · have hok : atOk s k v = true := by unfold atOk; exact decide_eq_true ⟨hin, by rw [hR]; exact hd⟩
      have hE := getE_ok (l := R) (by omega) (by omega) hd
      have hN := getN_ok hE
      have hA : atN s k v = dec R := by unfold atN; rw [if_pos hok, hR]
      rw [hE, hN] at hg
      rw [hok, hA, hT]
      have HG := Lib.hid hg
      clear hg hE hN hA hok hR hT
      go_enter Try.func38, Try.ntmps38
      go_wp2_with (go_at_call 71; (with_reducible refine HG.out.mono ?_); rintro e w9 ⟨rfl, rfl⟩)
      go_ret2
      exact ⟨rfl, rfl⟩
    · have hok : atOk s k v = false := by unfold atOk; exact decide_eq_false (fun e => hd (by rw [← hR]; exact e.2))
      have hE := getE_big (l := R) (by omega) (by omega) (by omega)
      have hN := getN_no (l := R) (by omega)
      have hA : atN s k v = 0 := by unfold atN; rw [if_neg (by rw [hok]; simp)]
      rw [hE, hN] at hg
      rw [hok, hA, hT]
      have HG := Lib.hid hg
      clear hg hE hN hA hok hR hT
      go_enter Try.func38, Try.ntmps38
      go_wp2_with (go_at_call 71; (with_reducible refine HG.out.mono ?_); rintro e w9 ⟨rfl, rfl⟩)
      go_ret2
      exact ⟨rfl, rfl⟩
  · have hok : atOk s k v = false := by unfold atOk; exact decide_eq_false (fun e => hin e.1)
    have hA : atN s k v = 0 := by unfold atN; rw [if_neg (by rw [hok]; simp)]
    have hin2 : (T.size : Int) - (v : Int) < (k : Int) := by omega
    rw [hok, hA, hT]
    clear hok hA hT
    go_enter Try.func38, Try.ntmps38
    go_wp2
    go_ret2
    exact ⟨rfl, rfl⟩
end Go.Proofs.Ytkpoeigoocbgeaa
