/- Contracts of slices.Equal (texts), isEqual, slices.EqualFunc of it, and Same. -/
import Derived.Test.YtpefhocjnkbklaaVolN
namespace Go.Proofs.Ytpefhocjnkbklaa
open Go.RowKit

def eqT (a b : List ByteArray) : Bool := decide (a = b)

def eqV (a b : Vl) : Bool := decide (a = b)
theorem eqV_of (i : Int) (xs ys : List ByteArray) : eqV (i, xs) (i, ys) = eqT xs ys := by
  unfold eqV eqT
  by_cases h : xs = ys <;> simp [h]

theorem sameB_eq (a b : List Vl) : sameB a b = (rightB a && rightB b && eqB a b) := rfl

end Go.Proofs.Ytpefhocjnkbklaa
