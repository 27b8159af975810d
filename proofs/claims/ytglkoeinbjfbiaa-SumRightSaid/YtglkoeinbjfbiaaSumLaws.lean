/- The walks of the laws SumTells, SumRight, SumJoins, SumTable: each returns true, and changes nothing that was there. -/
import Derived.Test.YtglkoeinbjfbiaaSumRef
import Derived.OpenShut
namespace Go.Proofs.Ytglkoeinbjfbiaa
open Go.RowKit

set_option maxHeartbeats 400000 in
theorem SumTells_walk (begin : Nat) (s : ByteArray) (w : World) (hb : begin < 4294967296) (hs : s.size ≤ 140737488351232) :
    Calls Try.prog 3 #[.int .u32 begin, .string s] w fun e w' => e = .returned (.bool true) ∧ Below w.heap.size w w' := by
  go_enter Try.func3, Try.ntmps3
  go_wp2_with fail
  refine (On_any _ _ _ hb (by omega)).mono ?_
  rintro e w1 ⟨rfl, rfl⟩
  go_wp2_with fail
  refine (RefOn_any _ _ _ hb (by omega)).mono ?_
  rintro e w1 ⟨rfl, rfl⟩
  go_wp2_with fail
  refine (Of_any _ _ (by omega)).mono ?_
  rintro e w1 ⟨rfl, rfl⟩
  go_wp2_with fail
  refine (RefOn_any 0 _ _ (by omega) (by omega)).mono ?_
  rintro e w1 ⟨rfl, rfl⟩
  go_wp2_with fail
  refine (SumAwake_any _).mono ?_
  rintro e w1 ⟨rfl, rfl⟩
  go_wp2
  go_ret
  exact ⟨rfl, Below.refl _ _⟩

set_option maxHeartbeats 400000 in
theorem SumRight_walk (s : ByteArray) (w : World) (hs : s.size ≤ 140737488351232) :
    Calls Try.prog 5 #[.string s] w fun e w' => e = .returned (.bool true) ∧ Below w.heap.size w w' := by
  go_enter Try.func5, Try.ntmps5
  go_wp2_with (first
    | (go_at_call 15; refine (Right_any _ _ (by omega)).mono ?_; rintro e w1 ⟨rfl, hb1⟩)
    | (go_at_call 16; refine (RefRight_any _ _ (by omega)).mono ?_; rintro e w2 ⟨rfl, hb2⟩)
    | (go_at_call 13; refine (SumAwake_any _).mono ?_; rintro e w3 ⟨rfl, rfl⟩))
  go_ret
  exact ⟨rfl, below_next hb1 hb2⟩

theorem cat_list (a b : ByteArray) : (a ++ b).data.toList = a.data.toList ++ b.data.toList := by rw [ByteArray.data_append]; simp

set_option maxHeartbeats 400000 in
theorem SumJoins_walk (begin : Nat) (a b : ByteArray) (w : World) (hb : begin < 4294967296) (ha : a.size ≤ 140737488351232) (hbs : b.size ≤ 140737488351232) :
    Calls Try.prog 6 #[.int .u32 begin, .string a, .string b] w fun e w' => e = .returned (.bool true) ∧ Below w.heap.size w w' := by
  have hsum : ¬ 9223372036854775807 < a.size + b.size := by omega
  have hsz : (a ++ b).size ≤ 9223372036854775807 := by rw [ByteArray.size_append]; omega
  have HJ := Lib.hid (crcSum_cat (begin := begin) a.data.toList b.data.toList)
  have HL := Lib.hid (cat_list a b)
  go_enter Try.func6, Try.ntmps6
  go_wp2_with fail
  refine (On_any begin a _ hb (by omega)).mono ?_
  rintro e w1 ⟨rfl, rfl⟩
  go_wp2_with fail
  refine (On_any (crcSum begin a.data.toList) b _ (crcSum_lt _ _) (by omega)).mono ?_
  rintro e w1 ⟨rfl, rfl⟩
  rw [HJ.out]
  go_wp2_with fail
  refine (On_any _ _ _ hb hsz).mono ?_
  rintro e w1 ⟨rfl, rfl⟩
  rw [HL.out]
  go_wp2_with fail
  refine (On_any 0 a _ (by omega) (by omega)).mono ?_
  rintro e w1 ⟨rfl, rfl⟩
  go_wp2_with fail
  refine (Of_any _ _ (by omega)).mono ?_
  rintro e w1 ⟨rfl, rfl⟩
  go_wp2_with fail
  refine (SumAwake_any _).mono ?_
  rintro e w1 ⟨rfl, rfl⟩
  go_wp2
  go_ret
  exact ⟨rfl, Below.refl _ _⟩

/-! ### The same over the arguments as the frame hands them in -/
theorem SumTells_walkI (a : Int) (s : ByteArray) (w : World) (h : (Lit.int .u32 a).wf = true) (hs : s.size ≤ 140737488351232) :
    Calls Try.prog 3 #[.int .u32 a, .string s] w fun e w' => e = .returned (.bool true) ∧ Below w.heap.size w w' := by
  have hb := bounds_u32 h
  obtain ⟨n, rfl⟩ := Int.eq_ofNat_of_zero_le hb.1
  exact SumTells_walk n s w (by omega) hs
theorem SumJoins_walkI (a : Int) (s t : ByteArray) (w : World) (h : (Lit.int .u32 a).wf = true) (hs : s.size ≤ 140737488351232) (ht : t.size ≤ 140737488351232) :
    Calls Try.prog 6 #[.int .u32 a, .string s, .string t] w fun e w' => e = .returned (.bool true) ∧ Below w.heap.size w w' := by
  have hb := bounds_u32 h
  obtain ⟨n, rfl⟩ := Int.eq_ofNat_of_zero_le hb.1
  exact SumJoins_walk n s t w (by omega) hs ht
theorem byte_of {n : Int} (h : (Lit.int .u8 n).wf = true) : ∃ b : UInt8, n = ((b.toNat : Nat) : Int) := by
  have hb := bounds_u8 h
  refine ⟨UInt8.ofNat n.toNat, ?_⟩
  rw [UInt8.toNat_ofNat']
  omega
end Go.Proofs.Ytglkoeinbjfbiaa
