/- Contract of Sizes of the package vols. -/
import Derived.Test.YtpefhocjnkbklaaVolU
namespace Go.Proofs.Ytpefhocjnkbklaa
open Go.RowKit

theorem Try.infoIntV : (Try.prog.info? 3).map (fun i => (i.zero, i.size, i.bytes)) = some (some (.int .i64 0), 1, 8) := by kernel_rfl

/-- A list of numbers comes back. -/
def NumsEnd (l : List Int) (w : World) (e : Ending) (w' : World) : Prop :=
  ∃ A c, e = .returned (.slice A l.length c) ∧ Lies w' w'.heap.size A (l.map (Value.int .i64)) ∧ Below w.heap.size w w'
theorem sizesOf_length (vs : List Vl) : (sizesOf vs).length = vs.length * 2 := by
  unfold sizesOf
  induction vs with
  | nil => rfl
  | cons v r ih => simp only [List.flatMap_cons, List.length_append, List.length_cons, List.length_nil, ih]; omega
theorem sizesOf_snoc (vs : List Vl) (v : Vl) : sizesOf (vs ++ [v]) = sizesOf vs ++ [v.1, (v.2.length : Int)] := by simp [sizesOf]
theorem sizesOf_take {vs : List Vl} {k : Nat} (h : k < vs.length) : sizesOf (vs.take (k + 1)) = sizesOf (vs.take k) ++ [vs[k].1, (vs[k].2.length : Int)] := by
  rw [List.take_succ_eq_append_getElem h, sizesOf_snoc]

theorem cell_two_new (w : World) (x y : Value) (t : TypeId) : ∀ j u, [x, y][j]? = some u → (w.alloc (.cells #[x, y] t)).cell? ((⟨w.heap.size, 0, none⟩ : Addr).add j) = some u := by
  intro j u hu
  rw [WideShapes.add_plain, Nat.zero_add, Lib.cell_of_heap (heap_alloc_new _ _)]
  simpa using hu

end Go.Proofs.Ytpefhocjnkbklaa
