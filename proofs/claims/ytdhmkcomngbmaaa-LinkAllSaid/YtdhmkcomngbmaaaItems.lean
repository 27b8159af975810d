/- Contracts of octet.Items, of the document's answer for it, and of the comparison of lists. -/
import Derived.Test.YtdhmkcomngbmaaaLaws
import Derived.Test.YtdhmkcomngbmaaaList
import Derived.Maps.AppendAt
namespace Go.Proofs.Ytdhmkcomngbmaaa
open Go.RowKit

theorem Try.infoStr : (Try.prog.info? 9).map (fun i => (i.zero, i.size, i.bytes)) = some (some (.string ⟨#[]⟩), 1, 16) := by kernel_rfl

/-- What Items leaves: the list in memory of the call's own, the rest, the error. -/
def ItemsEnd (l : List UInt8) (w : World) (e : Ending) (w' : World) : Prop :=
  ∃ v, e = .returned (.tuple #[v, .string (str (itR l)), .int .i64 (itE l)]) ∧ w'.ownsRow w.heap.size 9 1 v (itL l).length ((itL l).map txt) ∧ Below w.heap.size w w'

theorem itemsEnd_none {l : List UInt8} {w w' : World} (h : itemsOf l = none) (hb : Below w.heap.size w w') : ItemsEnd l w (.returned (.tuple #[.slice none 0 0, .string ⟨#[]⟩, .int .i64 2])) w' := by
  obtain ⟨h1, h2, h3⟩ := it_none h
  refine ⟨.slice none 0 0, ?_, ?_, hb⟩
  · rw [h1, h3]; rfl
  · rw [h2]; exact World.ownsRow_nil _ _ _ _
theorem itemsEnd_some {l r : List UInt8} {xs : List (List UInt8)} {w w' : World} {v : Value} (h : itemsOf l = some (xs, r)) (hown : w'.ownsRow w.heap.size 9 1 v xs.length (xs.map txt)) (hb : Below w.heap.size w w') :
    ItemsEnd l w (.returned (.tuple #[v, .string (str r), .int .i64 0])) w' := by
  obtain ⟨h1, h2, h3⟩ := it_some h
  refine ⟨v, ?_, ?_, hb⟩
  · rw [h1, h3]
  · rw [h2]; exact hown

theorem own_below {w w' : World} {base : Nat} {e : TypeId} {size n : Nat} {v : Value} {xs : List Value} (h : w.ownsRow base e size v n xs) (hb : Below w.heap.size w w') : w'.ownsRow base e size v n xs :=
  h.kept (row := none) ⟨hb.os, hb.tape, hb.output, hb.size, fun i hi _ => hb.block i hi⟩ (by cases hv : v.ownBlock <;> simp)

theorem map_txt_snoc (xs : List (List UInt8)) (x : List UInt8) : xs.map txt ++ [txt x] = (xs ++ [x]).map txt := by simp

theorem own_len {w : World} {base : Nat} {e : TypeId} {size n : Nat} {v : Value} {xs : List Value} (h : w.ownsRow base e size v n xs) : n ≤ maxLen := by
  rcases h.2 with ⟨_, rfl⟩ | ⟨g, cap, cur, _, _, _, hn, hm, _⟩
  · simp
  · omega

/-- A slice's length. -/
def lenOf : Value → Nat
  | .slice _ n _ => n
  | _ => 0

set_option maxHeartbeats 400000 in
theorem Same_yes (A1 A2 : Option Addr) (c1 c2 B1 B2 : Nat) (xs : List (List UInt8)) (w : World) (hn : xs.length ≤ maxLen) (h1 : Strs w B1 A1 xs) (h2 : Strs w B2 A2 xs) :
    Calls Try.prog 19 #[.slice A1 xs.length c1, .slice A2 xs.length c2] w fun e w' => e = .returned (.bool true) ∧ Below w.heap.size w w' := by
  unfold maxLen at hn
  generalize hl : xs.length = n at *
  have HL := Lib.hid hl
  clear hl
  go_enter Try.func19, Try.ntmps19
  go_wp2
  go_loopw [5] (fun i wr => ∃ k q : Nat, k ≤ n ∧ i = .int .i64 k ∧ wr = w.drewN q) (fun i _ => n - (intOf i).toNat)
  case atStart => exact ⟨0, 0, by omega, rfl, rfl⟩
  case round =>
    obtain ⟨k, q, hk, rfl, rfl⟩ := hrel
    by_cases hlt : k < n
    · have hkl : k < xs.length := by rw [HL.out]; exact hlt
      obtain ⟨x1, o1, rfl, _, hc1⟩ := h1.at_ hkl
      obtain ⟨x2, o2, rfl, _, hc2⟩ := h2.at_ hkl
      generalize xs[k] = x at hc1 hc2
      unfold txt at hc1 hc2
      have hi0 : (0 : Int) ≤ (k : Int) := by omega
      have hi1 : (k : Int) < (n : Int) := by omega
      clear h1 h2 hkl
      go_wp2
      go_quiet (fail)
      go_wp2
      go_roundw
      case rel => exact ⟨k + 1, q + nq, by omega, by go_num, rfl⟩
      case measure => simp [intOf]; omega
    · go_wp2
      go_ret
      exact ⟨rfl, below_drewN (Below.refl _ _) _⟩

end Go.Proofs.Ytdhmkcomngbmaaa
