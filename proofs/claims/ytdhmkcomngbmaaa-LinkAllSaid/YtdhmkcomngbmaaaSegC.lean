/- The contract of the document's Pieces. -/
import Derived.Test.YtdhmkcomngbmaaaSegB
import Derived.Test.YtdhmkcomngbmaaaMem
import Derived.Deep.RegionHeld3
import Derived.Deep.AppendLies
namespace Go.Proofs.Ytdhmkcomngbmaaa
open Go.RowKit

theorem own_base {w : World} {B B' : Nat} {e : TypeId} {size n : Nat} {v : Value} {xs : List Value} (h : w.ownsRow B e size v n xs) (hB : B' ≤ B) : w.ownsRow B' e size v n xs := by
  refine ⟨h.1, ?_⟩
  rcases h.2 with h | ⟨g, cap, cur, a, b, c⟩
  · exact .inl h
  · exact .inr ⟨g, cap, cur, a, by omega, c⟩

def LatW.lay1 {V : World} (z : LatW V) (o : Obj) : LatW V := ⟨z.wd.alloc o, z.bel.alloc z.bel.size o⟩

theorem drop_step (l : List UInt8) (n k : Nat) : (l.drop (k * n)).drop n = l.drop ((k + 1) * n) := by rw [List.drop_drop, Nat.add_mul, Nat.one_mul]

theorem snoc_txt (xs : List (List UInt8)) (x : List UInt8) : xs.map txt ++ [txt x] = (xs ++ [x]).map txt := by simp

end Go.Proofs.Ytdhmkcomngbmaaa
