/- Contracts of the laws' helpers: awake, kind. -/
import Derived.Test.YtocafhaakeflbaaDiskK
namespace Go.Proofs.Ytocafhaakeflbaa
open Go.RowKit

theorem bytes_toList (s : ByteArray) : s.toList = s.data.toList := Lib.toList_data s

def ab : ByteArray := ⟨#[97, 98]⟩
theorem awake_state : (DSt.new 2).writeE 1 ab.data.toList = 0 ∧ ((DSt.new 2).writeD 1 ab.data.toList).loose.length = 1 ∧ ((DSt.new 2).writeD 1 ab.data.toList).readE 1 = 0 ∧
    ((DSt.new 2).writeD 1 ab.data.toList).readB 1 = [97, 98, 0] ++ List.replicate 29 0 := by decide

set_option maxHeartbeats 800000 in
theorem DiskAwake_any (w : World) : Calls Try.prog 15 #[] w fun e w' => e = .returned (.bool true) ∧ Below w.heap.size w w' := by
  obtain ⟨e1, e2, e3, e4⟩ := awake_state
  have E1 := Lib.hid e1
  have E2 := Lib.hid e2
  have E3 := Lib.hid e3
  have E4 := Lib.hid e4
  clear e1 e2 e3 e4
  go_enter Try.func15, Try.ntmps15
  go_wp2_with fail
  refine (New_ok 2 _ (by omega) (by omega)).mono ?_
  rintro e w1 ⟨a, F, rfl, hd, hF, hb⟩
  have HD := Lib.hid hd
  have HF := Lib.hid hF
  have HB := Lib.hid hb
  clear hd hF hb
  go_wp2_with fail
  refine (Write_any HD.out 1 ab (by decide) (by decide)).mono ?_
  rw [E1.out]
  rintro e w2 ⟨rfl, hm, F2, hd, hF2⟩
  have HD2 := Lib.hid hd
  have HB2 : Hid (Below w.heap.size w w2) := Lib.hid (HB.out.trans (hm.below HB.out.size HF.out))
  clear hd hm hF2
  go_wp2_with fail
  refine (Loose_any HD2.out).mono ?_
  rw [E2.out]
  rintro e w' ⟨rfl, rfl⟩
  go_wp2_with fail
  refine (Read_any HD2.out 1).mono ?_
  rw [E3.out, E4.out]
  obtain ⟨S, hS⟩ : ∃ S, str ([97, 98, 0] ++ List.replicate 29 0) = S := ⟨_, rfl⟩
  have hs1 : S.size = 32 := by rw [← hS]; rfl
  have hs2 : ((S.extract 0 3).toList == [97, 98, 0]) = true := by rw [← hS, bytes_toList, extract_take, str_list]; rfl
  rw [hS]
  clear hS
  have hs3 : ((S.size : Int) == 32) = true := by rw [hs1]; rfl
  have hs4 : (3 : Int) ≤ (S.size : Int) := by rw [hs1]; decide
  clear hs1
  rintro e w' ⟨rfl, rfl⟩
  go_wp2_with fail
  go_ret
  exact ⟨rfl, HB2.out⟩

/-- Which act a kind is. -/
def kindN (k : Int) : Nat := (k % 18446744073709551616).toNat % 7
theorem kindN_lt (k : Int) : kindN k < 7 := Nat.mod_lt _ (by omega)

set_option maxHeartbeats 400000 in
theorem kind_any (k x n : Int) (s : ByteArray) (v : Value) (w : World) :
    Calls Try.prog 20 #[.agg #[.int .i64 k, .int .i64 x, .int .i64 n, .string s, v]] w fun e w' => e = .returned (.int .i64 (kindN k)) ∧ Below w.heap.size w w' := by
  go_enter Try.func20, Try.ntmps20
  go_wp2
  go_ret
  refine ⟨?_, (Below.refl _ _).alloc (Nat.le_refl _) _⟩
  show Ending.returned (.int .i64 (wrap64 ((IntKind.u64.wrap k).tmod 7))) = _
  have e1 : wrap64 ((IntKind.u64.wrap k).tmod 7) = (kindN k : Int) := by
    rw [IntKind.wrap_u64]
    unfold kindN wrap64
    have h0 : 0 ≤ k % 18446744073709551616 := Int.emod_nonneg _ (by omega)
    rw [Int.tmod_eq_emod_of_nonneg h0]
    omega
  rw [e1]
end Go.Proofs.Ytocafhaakeflbaa
