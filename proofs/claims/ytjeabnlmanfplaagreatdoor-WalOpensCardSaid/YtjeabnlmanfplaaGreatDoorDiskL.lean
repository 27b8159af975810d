/- Contracts of the laws' helpers: awake, kind. -/
import Derived.Test.YtjeabnlmanfplaaGreatDoorDiskK
namespace Go.Proofs.YtjeabnlmanfplaaGreatDoor
open Go.RowKit

theorem bytes_toList (s : ByteArray) : s.toList = s.data.toList := Lib.toList_data s

def ab : ByteArray := ⟨#[97, 98]⟩
theorem awake_state : (DSt.new 2).writeE 1 ab.data.toList = 0 ∧ ((DSt.new 2).writeD 1 ab.data.toList).loose.length = 1 ∧ ((DSt.new 2).writeD 1 ab.data.toList).readE 1 = 0 ∧
    ((DSt.new 2).writeD 1 ab.data.toList).readB 1 = [97, 98, 0] ++ List.replicate 29 0 := by decide

/-- Which act a kind is. -/
def kindN (k : Int) : Nat := (k % 18446744073709551616).toNat % 7
theorem kindN_lt (k : Int) : kindN k < 7 := Nat.mod_lt _ (by omega)

end Go.Proofs.YtjeabnlmanfplaaGreatDoor
