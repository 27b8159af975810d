/- Contracts of ring.Pieces and of the document's Places. -/
import Derived.Test.YtndclhccfelghaaRing
import Derived.Test.YtndclhccfelghaaMem
namespace Go.Proofs.Ytndclhccfelghaa
open Go.RowKit

theorem Try.infoInt : (Try.prog.info? 3).map (fun i => (i.zero, i.size, i.bytes)) = some (some (.int .i64 0), 1, 8) := by kernel_rfl

/-- The pieces of n places. -/
def pieces (size from_ n : Int) : List (Int × Int) :=
  if n = 0 then [] else if n ≤ size - from_ then [(from_, n)] else [(from_, size - from_), (0, n - (size - from_))]

def pieceCells (l : List (Int × Int)) : List Value := (l.map fun p => [Value.int .i64 p.1, Value.int .i64 p.2]).flatten

theorem pieceCells_length (l : List (Int × Int)) : (pieceCells l).length = 2 * l.length := by
  induction l with
  | nil => rfl
  | cons p l ih => simp only [pieceCells, List.map_cons, List.flatten_cons, List.length_append, List.length_cons, List.length_nil] at ih ⊢; omega

theorem pieceCells_fst (l : List (Int × Int)) (i : Nat) (h : i < l.length) : (pieceCells l)[2 * i]? = some (.int .i64 l[i].1) := by
  induction l generalizing i with
  | nil => simp at h
  | cons p l ih =>
    cases i with
    | zero => rfl
    | succ i => simpa [pieceCells, Nat.mul_add] using ih i (by simpa using h)

theorem pieceCells_snd (l : List (Int × Int)) (i : Nat) (h : i < l.length) : (pieceCells l)[2 * i + 1]? = some (.int .i64 l[i].2) := by
  induction l generalizing i with
  | nil => simp at h
  | cons p l ih =>
    cases i with
    | zero => rfl
    | succ i => simpa [pieceCells, Nat.mul_add] using ih i (by simpa using h)

def PiecesEnd (l : List (Int × Int)) (w : World) (e : Ending) (w' : World) : Prop :=
  ∃ A, e = .returned (.tuple #[.slice A l.length l.length, .int .i64 0]) ∧ Lies w' w'.heap.size A (pieceCells l) ∧ Below w.heap.size w w'

theorem piecesEnd_none {w : World} : PiecesEnd [] w (.returned (.tuple #[.slice none 0 0, .int .i64 0])) w := ⟨none, rfl, .inl rfl, Below.refl _ _⟩
theorem piecesEnd_one {w : World} {a b : Int} : PiecesEnd [(a, b)] w (.returned (.tuple #[.slice (some ⟨w.heap.size, 0, none⟩) 1 1, .int .i64 0])) (w.alloc (.cells #[.int .i64 a, .int .i64 b] 35)) :=
  ⟨some ⟨w.heap.size, 0, none⟩, rfl, .inr ⟨w.heap.size, 0, rfl, by simp, fun i hi => by
    rw [Lib.cell_of_heap (heap_alloc_new _ _), Nat.zero_add, ← List.getElem?_eq_getElem]; simp [pieceCells]⟩, (Below.refl _ _).alloc (Nat.le_refl _) _⟩
theorem piecesEnd_two {w : World} {a b c d : Int} : PiecesEnd [(a, b), (c, d)] w (.returned (.tuple #[.slice (some ⟨w.heap.size, 0, none⟩) 2 2, .int .i64 0])) (w.alloc (.cells #[.int .i64 a, .int .i64 b, .int .i64 c, .int .i64 d] 35)) :=
  ⟨some ⟨w.heap.size, 0, none⟩, rfl, .inr ⟨w.heap.size, 0, rfl, by simp, fun i hi => by
    rw [Lib.cell_of_heap (heap_alloc_new _ _), Nat.zero_add, ← List.getElem?_eq_getElem]; simp [pieceCells]⟩, (Below.refl _ _).alloc (Nat.le_refl _) _⟩

set_option maxHeartbeats 400000 in
theorem Pieces_ok (size from_ n : Int) (w : World) (hp : Place size from_) (h5 : 0 ≤ n) (h6 : n ≤ size) :
    Calls Try.prog 14 #[.int .i64 size, .int .i64 from_, .int .i64 n] w (PiecesEnd (pieces size from_ n) w) := by
  have hp' := hp
  obtain ⟨h1, h2, h3, h4⟩ := hp'
  by_cases h0 : n = 0
  · subst h0
    rw [show pieces size from_ 0 = [] from rfl]
    go_enter Try.func14, Try.ntmps14
    go_wp2_with (go_at_call 17; refine (isPosition_yes _ _ _ hp).mono ?_; rintro e w' ⟨rfl, rfl⟩)
    go_ret2
    exact piecesEnd_none
  · have h8 : (n == 0) = false := by rw [beq_eq_false_iff_ne]; omega
    by_cases h7 : n ≤ size - from_
    · rw [show pieces size from_ n = [(from_, n)] from by unfold pieces; rw [if_neg h0, if_pos h7]]
      clear h0
      go_enter Try.func14, Try.ntmps14
      go_wp2_with (go_at_call 17; refine (isPosition_yes _ _ _ hp).mono ?_; rintro e w' ⟨rfl, rfl⟩)
      go_ret2
      exact piecesEnd_one
    · have h9 : decide (n ≤ size - from_) = false := by rw [decide_eq_false_iff_not]; omega
      rw [show pieces size from_ n = [(from_, size - from_), (0, n - (size - from_))] from by unfold pieces; rw [if_neg h0, if_neg h7]]
      clear h0
      go_enter Try.func14, Try.ntmps14
      go_wp2_with (go_at_call 17; refine (isPosition_yes _ _ _ hp).mono ?_; rintro e w' ⟨rfl, rfl⟩)
      go_ret2
      exact piecesEnd_two

set_option maxHeartbeats 400000 in
theorem Pieces_no (size from_ n : Int) (w : World) (h : ¬ (Place size from_ ∧ 0 ≤ n ∧ n ≤ size)) :
    Calls Try.prog 14 #[.int .i64 size, .int .i64 from_, .int .i64 n] w fun e w' => e = .returned (.tuple #[.slice none 0 0, .int .i64 1]) ∧ w = w' := by
  by_cases hp : Place size from_
  · have h7 : n < 0 ∨ size < n := by simp only [hp, true_and] at h; omega
    clear h
    by_cases h5 : n < 0
    · go_enter Try.func14, Try.ntmps14
      go_wp2_with (go_at_call 17; refine (isPosition_yes _ _ _ hp).mono ?_; rintro e w' ⟨rfl, rfl⟩)
      go_ret2
      exact ⟨rfl, rfl⟩
    · have h6 : decide (n < 0) = false := by simp; omega
      have h8 : size < n := by omega
      go_enter Try.func14, Try.ntmps14
      go_wp2_with (go_at_call 17; refine (isPosition_yes _ _ _ hp).mono ?_; rintro e w' ⟨rfl, rfl⟩)
      go_ret2
      exact ⟨rfl, rfl⟩
  · clear h
    go_enter Try.func14, Try.ntmps14
    go_wp2_with (go_at_call 17; refine (isPosition_no _ _ _ hp).mono ?_; rintro e w' ⟨rfl, rfl⟩)
    go_ret2
    exact ⟨rfl, rfl⟩

/-- The n places from one on. -/
def places (size from_ : Int) (n : Nat) : List Value := (List.range n).map fun (k : Nat) => .int .i64 ((from_ + (k : Int)) % size)

theorem places_length (size from_ : Int) (n : Nat) : (places size from_ n).length = n := by simp [places]
theorem places_at (size from_ : Int) (n i : Nat) (h : i < (places size from_ n).length) : (places size from_ n)[i] = .int .i64 ((from_ + (i : Int)) % size) := by simp [places]
theorem places_snoc (size from_ : Int) (n : Nat) : places size from_ n ++ [.int .i64 ((from_ + (n : Int)) % size)] = places size from_ (n + 1) := by simp [places, List.range_succ]

def PlacesEnd (size from_ : Int) (n : Nat) (w : World) (e : Ending) (w' : World) : Prop :=
  ∃ A c, e = .returned (.slice A n c) ∧ Lies w' w'.heap.size A (places size from_ n) ∧ Below w.heap.size w w'

theorem placesEnd_of {size from_ : Int} {n : Nat} {w w' : World} {v : Value} (h : w'.ownsRow w.heap.size 3 1 v n (places size from_ n)) (hb : Below w.heap.size w w') : PlacesEnd size from_ n w (.returned v) w' := by
  obtain ⟨A, c, rfl, _, hl⟩ := own_lies h
  exact ⟨A, c, rfl, hl, hb⟩

set_option maxHeartbeats 800000 in
theorem Places_any (size from_ : Int) (n : Nat) (w : World) (hp : Place size from_) (h6 : n ≤ 4096) :
    Calls Try.prog 16 #[.int .i64 size, .int .i64 from_, .int .i64 n] w (PlacesEnd size from_ n w) := by
  obtain ⟨h1, h2, h3, h4⟩ := hp
  obtain ⟨i0, hi0, hz0, hz1, hz2⟩ := info_parts Try.infoInt
  go_enter Try.func16, Try.ntmps16
  go_wp2
  go_loopw [7, 8, 9] (fun v a i wr => ∃ k : Nat, k ≤ n ∧ i = .int .i64 k ∧ a = .int .i64 ((from_ + k) % size) ∧ wr.ownsRow w.heap.size 3 1 v k (places size from_ k) ∧ Below w.heap.size w wr) (fun _ _ i _ => n - (intOf i).toNat)
  case atStart => exact ⟨0, Nat.zero_le _, rfl, by rw [Int.emod_eq_of_lt (by omega) (by omega)]; simp, World.ownsRow_nil _ _ _ _, Below.refl _ _⟩
  case round =>
    obtain ⟨k, hk, rfl, rfl, hown, hbel⟩ := hrel
    obtain ⟨x, HX⟩ : ∃ x, Hid ((from_ + k) % size = x) := ⟨_, Lib.hid rfl⟩
    have hx : Place size x := ⟨h1, h2, by rw [← HX.out]; exact Int.emod_nonneg _ (by omega), by rw [← HX.out]; exact Int.emod_lt_of_pos _ (by omega)⟩
    have HY : Hid (nextP size x = (from_ + (k + 1 : Nat)) % size) := Lib.hid (by rw [← HX.out]; exact nextP_mod k h1)
    rw [HX.out]
    by_cases hlt : k < n
    · go_wp2_with (at_builtin; refine wpList_append_own_at _ rfl (.tmp 16) (.tmp 18) 33 rfl w.heap.size 3 i0 (.int .i64 0) 1 8 Try.underlying33 hi0 hz0 hz1 hz2 rfl (by decide) _ k (places size from_ k) rfl (hown.alloc _) ⟨wr.heap.size, 0, none⟩ 1 1 [.int .i64 x] rfl rfl ?c1 ?c2 ?c3 ?c4 ?c5 ?_)
      case c1 => exact cell_one_new _ _ _
      case c2 => intro u hu; simp at hu; subst hu; rfl
      case c3 => unfold maxLen; omega
      case c4 => omega
      case c5 => have := hbel.size; simp; omega
      intro v3 w3 hown3 hg3 _ _
      rw [← HX.out, places_snoc] at hown3
      have hbel2 : Below w.heap.size w (wr.alloc (.cells #[.int .i64 x] 3)) := hbel.alloc hbel.size _
      have hbel3 : Below w.heap.size w w3 := hbel2.grown hg3 hbel2.size (fun g hg => (hown.lt g hg).1)
      clear hg3 hown hbel hbel2
      go_wp2_with (go_at_call 18; refine (next_any _ _ _ hx).mono ?_; rintro e w' ⟨rfl, rfl⟩)
      go_roundw
      case rel => exact ⟨k + 1, by omega, by go_num, by rw [HY.out], hown3, hbel3⟩
      case measure => simp [intOf]; omega
    · have HK : Hid (k = n) := Lib.hid (by omega)
      go_wp2
      go_ret
      rw [HK.out] at hown
      exact placesEnd_of hown hbel
end Go.Proofs.Ytndclhccfelghaa
