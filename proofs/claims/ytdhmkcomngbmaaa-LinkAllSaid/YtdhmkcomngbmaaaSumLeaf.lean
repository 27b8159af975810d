/- Contracts of the functions of the package sum: eightSteps, On, Of, bigEndian: for every argument each answers what the plain functions say, and changes nothing. -/
import Derived.Test.YtdhmkcomngbmaaaRows
import Derived.WalkKit
import Derived.WalkSpells
import Derived.WalkLawsBesides
import Derived.Lib.Hide
import Derived.PlainAid
import Derived.Deep.OwnRows
import Derived.Laws.IdiomStrings
import Derived.Laws.BitsAllLaws
import Derived.Test.YtdhmkcomngbmaaaCrc
import Derived.Test.YtdhmkcomngbmaaaPlain
namespace Go.Proofs.Ytdhmkcomngbmaaa
open Go.RowKit

theorem step_u32 (x : Nat) (hx : x < 4294967296) :
    bits BinOp.xor IntKind.u32 ((x : Int) / 2) (bits BinOp.and IntKind.u32 3988292384 (-bits BinOp.and IntKind.u32 (x : Int) 1 % 4294967296)) = (crcStep x : Nat) := by
  have e1 : bits BinOp.and IntKind.u32 (x : Int) 1 = ((x % 2 : Nat) : Int) := by
    have := u32_and_nat x 1 hx (by omega)
    rw [Nat.and_one_is_mod] at this
    exact this
  have e2 : bits BinOp.and IntKind.u32 3988292384 (-bits BinOp.and IntKind.u32 (x : Int) 1 % 4294967296) = ((x % 2 * 3988292384 : Nat) : Int) := by
    rw [e1]
    rcases (show x % 2 = 0 ∨ x % 2 = 1 by omega) with e | e
    · rw [e]
      exact u32_and_nat 3988292384 0 (by omega) (by omega)
    · rw [e]
      exact u32_and_nat 3988292384 4294967295 (by omega) (by omega)
  rw [e2]
  have e3 : (x : Int) / 2 = ((x / 2 : Nat) : Int) := by omega
  rw [e3]
  exact u32_xor_nat (x / 2) (x % 2 * 3988292384) (by omega) (by omega)

set_option maxHeartbeats 400000 in
theorem eightSteps_any (c : Nat) (w : World) (hc : c < 4294967296) :
    Calls Try.prog 65 #[.int .u32 c] w fun e w' => e = .returned (.int .u32 (crcSteps 8 c)) ∧ w = w' := by
  go_enter Try.func65, Try.ntmps65
  go_wp2
  go_loop [0, 3] (fun r i => ∃ k x : Nat, k ≤ 8 ∧ x < 4294967296 ∧ Hid (x = crcSteps k c) ∧ i = .int .i64 k ∧ r = .int .u32 x) (fun _ i => 8 - (intOf i).toNat)
  case atStart => exact ⟨0, c, Nat.zero_le _, hc, Lib.hid rfl, rfl, rfl⟩
  case round =>
    obtain ⟨k, x, hk, hx, HX, rfl, rfl⟩ := hrel
    by_cases hlt : k < 8
    · go_wp2
      go_round
      case rel => exact ⟨k + 1, crcStep x, by omega, crcStep_lt hx, Lib.hid (by rw [crcSteps_succ, HX.out]), by go_num, by rw [step_u32 x hx]⟩
      case measure => simp [intOf]; omega
    · go_wp2
      go_ret
      obtain rfl : k = 8 := by omega
      rw [HX.out]
      exact ⟨rfl, rfl⟩

theorem take_next (s : ByteArray) (c k : Nat) (h : k < s.size) : crcSteps 8 (crcOn c (s.data.toList.take k) ^^^ s[k].toNat) = crcOn c (s.data.toList.take (k + 1)) := by
  rw [take_snoc s k h, crcOn_snoc]

theorem xor_ones {x : Nat} (h : x < 4294967296) : (4294967295 ^^^ x) = 4294967295 - x := by
  apply Nat.eq_of_testBit_eq
  intro i
  rw [Nat.testBit_xor, show (4294967295 : Nat) - x = 2 ^ 32 - (x + 1) from by omega, show (4294967295 : Nat) = 2 ^ 32 - 1 from by decide, Nat.testBit_two_pow_sub_one, Nat.testBit_two_pow_sub_succ (by omega)]
  by_cases hi : i < 32
  · simp [hi]
  · have : x.testBit i = false := Nat.testBit_lt_two_pow (Nat.lt_of_lt_of_le h (by have := Nat.pow_le_pow_right (n := 2) (by omega) (Nat.le_of_not_lt hi); simpa using this))
    simp [hi, this]

theorem compl32 (x : Nat) (h : x < 4294967296) : bits BinOp.xor IntKind.u32 IntKind.u32.max (x : Int) = ((4294967295 - x : Nat) : Int) := by
  rw [← xor_ones h]
  exact u32_xor_nat 4294967295 x (by omega) h

theorem conv_byte (b : UInt8) : ((b.toNat : Nat) : Int) % 4294967296 = ((b.toNat : Nat) : Int) := by
  have := b.toNat_lt
  omega

set_option maxHeartbeats 400000 in
theorem On_any (begin : Nat) (s : ByteArray) (w : World) (hb : begin < 4294967296) (hs : s.size ≤ 9223372036854775807) :
    Calls Try.prog 63 #[.int .u32 begin, .string s] w fun e w' => e = .returned (.int .u32 (crcSum begin s.data.toList)) ∧ w = w' := by
  go_enter Try.func63, Try.ntmps63
  go_wp2
  go_loop [5, 11] (fun r i => ∃ k x : Nat, k ≤ s.size ∧ x < 4294967296 ∧ Hid (x = crcOn (4294967295 - begin) (s.data.toList.take k)) ∧ i = .int .i64 k ∧ r = .int .u32 x) (fun _ i => s.size - (intOf i).toNat)
  case atStart => exact ⟨0, 4294967295 - begin, Nat.zero_le _, by omega, Lib.hid rfl, rfl, by rw [compl32 begin hb]⟩
  case round =>
    obtain ⟨k, x, hk, hx, HX, rfl, rfl⟩ := hrel
    by_cases hlt : k < s.size
    · have HB := Lib.hid (take_next s (4294967295 - begin) k hlt)
      have HC := Lib.hid (conv_byte s[k])
      have HXX := Lib.hid (u32_xor_nat x s[k].toNat hx (byte_lt32 _))
      go_wp2_with (go_at_call 65; rw [HC.out, HXX.out]; refine (eightSteps_any _ _ (xor_lt32 hx (byte_lt32 _))).mono ?_; rintro e w' ⟨rfl, rfl⟩)
      go_round
      case rel => exact ⟨k + 1, _, by omega, crcSteps_lt 8 (xor_lt32 hx (byte_lt32 s[k])), Lib.hid (by rw [HX.out, HB.out]), by go_num, rfl⟩
      case measure => simp [intOf]; omega
    · have HE := Lib.hid (take_all s k hlt)
      go_wp2
      go_ret
      rw [compl32 x hx, HX.out, HE.out]
      exact ⟨rfl, rfl⟩

set_option maxHeartbeats 400000 in
theorem Of_any (s : ByteArray) (w : World) (hs : s.size ≤ 9223372036854775807) :
    Calls Try.prog 58 #[.string s] w fun e w' => e = .returned (.int .u32 (crcSum 0 s.data.toList)) ∧ w = w' := by
  go_enter Try.func58, Try.ntmps58
  go_wp2_with (go_at_call 63; refine (On_any 0 _ _ (by omega) hs).mono ?_; rintro e w' ⟨rfl, rfl⟩)
  go_ret
  exact ⟨rfl, rfl⟩

theorem nine_list : (ByteArray.mk #[49, 50, 51, 52, 53, 54, 55, 56, 57]).data.toList = [49, 50, 51, 52, 53, 54, 55, 56, 57] := rfl

theorem or_step32 (d c : Nat) (hd : d < 16777216) (hc : c < 256) : bits BinOp.or IntKind.u32 ((d : Int) * 256 % 4294967296) ((c : Int) % 4294967296) = ((256 * d + c : Nat) : Int) := by
  have e1 : (d : Int) * 256 % 4294967296 = ((d * 256 : Nat) : Int) := by omega
  have e2 : (c : Int) % 4294967296 = (c : Int) := by omega
  rw [e1, e2, u32_or_nat _ _ (by omega) (by omega), Nat.or_comm, nat_join8' (d * 256) c (by omega) hc]
  congr 1
  omega

theorem pow4 {k : Nat} (h : k < 4) : 256 ^ k ≤ 16777216 := by
  have : 256 ^ k ≤ 256 ^ 3 := Nat.pow_le_pow_right (by omega) (by omega)
  exact this

theorem dec_take_lt4 (s : ByteArray) (k : Nat) (h : k < s.size) (h4 : s.size ≤ 4) : dec (s.data.toList.take k) < 16777216 := by
  have h1 := dec_lt (s.data.toList.take k)
  have h2 : (s.data.toList.take k).length ≤ k := List.length_take_le _ _
  have h3 : 256 ^ (s.data.toList.take k).length ≤ 16777216 := pow4 (by omega)
  omega

theorem dec_step32 (s : ByteArray) (k d : Nat) (h : k < s.size) (h4 : s.size ≤ 4) (hd : d = dec (s.data.toList.take k)) :
    bits BinOp.or IntKind.u32 ((d : Int) * 256 % 4294967296) (((s[k].toNat : Nat) : Int) % 4294967296) = ((dec (s.data.toList.take (k + 1)) : Nat) : Int) := by
  rw [hd, or_step32 _ _ (dec_take_lt4 s k h h4) (s[k]).toNat_lt, take_snoc s k h, dec_snoc]

set_option maxHeartbeats 400000 in
theorem bigEndian_any (s : ByteArray) (w : World) (hs : s.size ≤ 4) :
    Calls Try.prog 66 #[.string s] w fun e w' => e = .returned (.int .u32 (dec s.data.toList)) ∧ w = w' := by
  go_enter Try.func66, Try.ntmps66
  go_wp2
  go_loop [3, 7] (fun n i => ∃ k d : Nat, k ≤ s.size ∧ Hid (d = dec (s.data.toList.take k)) ∧ i = .int .i64 k ∧ n = .int .u32 d) (fun _ i => s.size - (intOf i).toNat)
  case atStart => exact ⟨0, 0, Nat.zero_le _, Lib.hid rfl, rfl, rfl⟩
  case round =>
    obtain ⟨k, d, hk, HD, rfl, rfl⟩ := hrel
    by_cases hlt : k < s.size
    · have H := Lib.hid (dec_step32 s k d hlt hs HD.out)
      go_wp2
      go_round
      case rel => exact ⟨k + 1, _, by omega, Lib.hid rfl, by go_num, by rw [H.out]⟩
      case measure => simp [intOf]; omega
    · have H := Lib.hid (take_all s k hlt)
      go_wp2
      go_ret
      rw [HD.out, H.out]
      exact ⟨rfl, rfl⟩
end Go.Proofs.Ytdhmkcomngbmaaa
