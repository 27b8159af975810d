/- Contracts of the inner functions of the package seg: count, seal, open; of the document's two. -/
import Derived.Test.YtdhmkcomngbmaaaSegP
import Derived.Test.YtdhmkcomngbmaaaRef
import Derived.Test.YtdhmkcomngbmaaaBack
namespace Go.Proofs.Ytdhmkcomngbmaaa
open Go.RowKit

theorem put_two {i : Nat} (h : i < 65536) : putE (i : Int) 2 = 0 ∧ putB (i : Int) 2 = enc 2 i := by
  have h1 := putE_ok (n := i) (k := 2) (by omega) (by omega) (by omega)
  exact ⟨h1, putB_ok (n := i) (k := 2) h1⟩

/-- A number of two bytes off a text of at least two. -/
theorem num_two {l : List UInt8} (h : 2 ≤ l.length) : numE l 2 = 0 ∧ numN l 2 = (dec (l.take 2) : Int) ∧ numR l 2 = l.drop 2 := by
  have hd := dec_take_two l
  have HE : numE l ((2 : Nat) : Int) = 0 := (numE_get (l := l) (k := 2) (by omega) (by omega) (by omega)).trans (getE_ok (by rw [List.length_take]; omega) (by rw [List.length_take]; omega) (by omega))
  exact ⟨HE, numN_ok (k := 2) HE, numR_ok (k := 2) HE⟩

end Go.Proofs.Ytdhmkcomngbmaaa
