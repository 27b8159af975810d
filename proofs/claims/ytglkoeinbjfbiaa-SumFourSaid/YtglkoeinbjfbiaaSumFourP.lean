/- Plain facts for the law SumFour: four bytes next to one another turned. No program in sight but the cells. -/
import Derived.Test.YtglkoeinbjfbiaaSumBytes
namespace Go.Proofs.Ytglkoeinbjfbiaa
open Go.RowKit

/-- The text l, of which the bytes at k, k+1, .. (j of them) are turned by those of bs. -/
def turned (l : List UInt8) (k : Nat) (bs : Nat → UInt8) (j : Nat) : List UInt8 :=
  l.take k ++ (List.range j).map (fun i => l.getD (k + i) 0 ^^^ bs i) ++ l.drop (k + j)

theorem turned_zero (l : List UInt8) (k : Nat) (bs : Nat → UInt8) : turned l k bs 0 = l := by simp [turned]

theorem turned_length {l : List UInt8} {k j : Nat} (bs : Nat → UInt8) (h : k + j ≤ l.length) : (turned l k bs j).length = l.length := by
  simp [turned]
  omega

theorem turned_head {l : List UInt8} {k j : Nat} (bs : Nat → UInt8) (h : k + j ≤ l.length) : (l.take k ++ (List.range j).map (fun i => l.getD (k + i) 0 ^^^ bs i)).length = k + j := by
  simp
  omega

theorem turned_at {l : List UInt8} {k j : Nat} (bs : Nat → UInt8) (h : k + j < l.length) : (turned l k bs j)[k + j]'(by rw [turned_length bs (by omega)]; exact h) = l[k + j] := by
  have hh := turned_head (j := j) bs (by omega : k + j ≤ l.length)
  unfold turned
  rw [List.getElem_append_right (by omega)]
  simp only [hh, Nat.sub_self, List.getElem_drop, Nat.add_zero]

theorem turned_step {l : List UInt8} {k j : Nat} (bs : Nat → UInt8) (h : k + j < l.length) : (turned l k bs j).set (k + j) (l[k + j] ^^^ bs j) = turned l k bs (j + 1) := by
  have hh := turned_head (j := j) bs (by omega : k + j ≤ l.length)
  unfold turned
  rw [List.set_append_right _ _ (by omega), hh, Nat.sub_self, List.drop_eq_getElem_cons h, List.set_cons_zero, List.range_succ, List.map_append]
  simp [List.getD, List.getElem?_eq_getElem h, Nat.add_assoc]

theorem turned_none (l : List UInt8) (k j : Nat) (h : k + j ≤ l.length) : l = l.take k ++ (List.range j).map (fun i => l.getD (k + i) 0) ++ l.drop (k + j) := by
  have := turned_length (j := j) (fun _ => 0) h
  have h2 : ∀ j, k + j ≤ l.length → l.take k ++ (List.range j).map (fun i => l.getD (k + i) 0) ++ l.drop (k + j) = l := by
    intro j
    induction j with
    | zero => intro _; simp
    | succ j ih =>
      intro hj
      have hlt : k + j < l.length := by omega
      have e := ih (by omega)
      rw [List.drop_eq_getElem_cons hlt] at e
      rw [List.range_succ, List.map_append, show k + (j + 1) = k + j + 1 from rfl]
      refine Eq.trans ?_ e
      simp [List.getD, List.getElem?_eq_getElem hlt]
  exact (h2 j h).symm

theorem turned_sum {l : List UInt8} {k : Nat} (bs : Nat → UInt8) (h : k + 4 ≤ l.length) :
    crcSum 0 (turned l k bs 4) = crcSum 0 l ↔ bs 0 = 0 ∧ bs 1 = 0 ∧ bs 2 = 0 ∧ bs 3 = 0 := by
  have e := turned_none l k 4 h
  have h2 := crcSum_four (begin := 0) (l.take k) ((List.range 4).map (fun i => l.getD (k + i) 0 ^^^ bs i)) ((List.range 4).map (fun i => l.getD (k + i) 0)) (l.drop (k + 4)) (by simp) (by simp)
  rw [← e] at h2
  show crcSum 0 (l.take k ++ _ ++ l.drop (k + 4)) = _ ↔ _
  rw [h2]
  have hr : List.range 4 = [0, 1, 2, 3] := by decide
  rw [hr]
  simp only [List.map_cons, List.map_nil, List.cons.injEq, xor_same_iff, and_true]

/-- Four bytes by their place. -/
def four (b0 b1 b2 b3 : UInt8) : Nat → UInt8
  | 0 => b0
  | 1 => b1
  | 2 => b2
  | _ => b3

def fourVals (b0 b1 b2 b3 : UInt8) : Array Value := #[.int .u8 (b0.toNat : Int), .int .u8 (b1.toNat : Int), .int .u8 (b2.toNat : Int), .int .u8 (b3.toNat : Int)]

theorem fourVals_at (b0 b1 b2 b3 : UInt8) {j : Nat} (h : j < 4) : (fourVals b0 b1 b2 b3)[j]? = some (.int .u8 ((four b0 b1 b2 b3 j).toNat : Int)) := by
  rcases (show j = 0 ∨ j = 1 ∨ j = 2 ∨ j = 3 by omega) with rfl | rfl | rfl | rfl <;> rfl

end Go.Proofs.Ytglkoeinbjfbiaa
