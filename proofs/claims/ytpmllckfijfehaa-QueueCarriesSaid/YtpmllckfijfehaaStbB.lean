/- A sort by blocks, plain: what lies in order behind each step ('InsInv', 'MrgInv'), and at the end. No program in sight. -/
import Derived.Test.YtpmllckfijfehaaStbP
namespace Go.Proofs.Ytpmllckfijfehaa
open Go.Sort
variable {α : Type} [Inhabited α]

theorem sort_kept {lt : α → α → Bool} {d d' : Array α} {a b x y : Nat} (M : Merged lt a b d d') (h : sortF lt (getF d) x y) (hd : y ≤ a ∨ b ≤ x) : sortF lt (getF d') x y := fun i j g1 g2 g3 => by
  rw [M.out i (by omega), M.out j (by omega)]; exact h i j g1 g2 g3
omit [Inhabited α] in
theorem sort_part {lt : α → α → Bool} {f : Nat → α} {a b a' b' : Nat} (h : sortF lt f a b) (h1 : a ≤ a') (h2 : b' ≤ b) : sortF lt f a' b' := fun i j g1 g2 g3 => h i j (by omega) g2 (by omega)
theorem mul_next {u c B : Nat} (h : u < c) : u * B + B ≤ c * B := by have := Nat.mul_le_mul_right B (show u + 1 ≤ c from h); rwa [Nat.add_mul, Nat.one_mul] at this

def InsInv (lt : α → α → Bool) (f : Nat → α) (t : Nat) : Prop := ∀ u, u < t → sortF lt f (u * 20) (u * 20 + 20)
def Blk (lt : α → α → Bool) (f : Nat → α) (B n : Nat) : Prop := ∀ u, sortF lt f (u * B) (min (u * B + B) n)
def MrgInv (lt : α → α → Bool) (f : Nat → α) (B c n : Nat) : Prop := (∀ u, u < c → sortF lt f (u * (2 * B)) (u * (2 * B) + 2 * B)) ∧ ∀ u, 2 * c ≤ u → sortF lt f (u * B) (min (u * B + B) n)

theorem ins_step {lt : α → α → Bool} {d d' : Array α} {t : Nat} (h : InsInv lt (getF d) t) (M : Merged lt (t * 20) (t * 20 + 20) d d') : InsInv lt (getF d') (t + 1) := fun u hu => by
  by_cases e : u = t
  · subst e; exact M.sorted
  · exact sort_kept M (h u (by omega)) (Or.inl (by omega))
theorem ins_fin {lt : α → α → Bool} {d d' : Array α} {t n : Nat} (h : InsInv lt (getF d) t) (M : Merged lt (t * 20) n d d') (h1 : t * 20 ≤ n) (h2 : n < t * 20 + 20) : Blk lt (getF d') 20 n := fun u => by
  rcases Nat.lt_trichotomy u t with e | e | e
  · rw [Nat.min_eq_left (by omega)]; exact sort_kept M (h u e) (Or.inl (by omega))
  · subst e; rw [Nat.min_eq_right (by omega)]; exact M.sorted
  · intro i j g1 g2 g3; omega
omit [Inhabited α] in
theorem mrg_start {lt : α → α → Bool} {f : Nat → α} {B n : Nat} (h : Blk lt f B n) : MrgInv lt f B 0 n := ⟨fun u hu => by omega, fun u _ => h u⟩
theorem dbl {c B x : Nat} (hx : x = c * (2 * B)) : 2 * c * B = x ∧ (2 * c + 1) * B = x + B ∧ (c + 1) * (2 * B) = x + 2 * B ∧ (2 * c + 2) * B = x + 2 * B := by
  subst hx
  have h1 : 2 * c * B = c * (2 * B) := by rw [Nat.mul_comm 2 c, Nat.mul_assoc]
  refine ⟨h1, by rw [Nat.add_mul, h1, Nat.one_mul], by rw [Nat.add_mul, Nat.one_mul], by rw [Nat.add_mul, h1]⟩
omit [Inhabited α] in
theorem mrg_pre {lt : α → α → Bool} {f : Nat → α} {B c n x y : Nat} (hx : x = c * (2 * B)) (h : MrgInv lt f B c n) (hy : y ≤ x + 2 * B) (hyn : y ≤ n) : sortF lt f x (min (x + B) y) ∧ sortF lt f (x + B) y := by
  obtain ⟨e1, e2, _, _⟩ := dbl hx
  have h1 := h.2 (2 * c) (Nat.le_refl _)
  have h2 := h.2 (2 * c + 1) (by omega)
  rw [e1] at h1
  rw [e2] at h2
  exact ⟨sort_part h1 (Nat.le_refl _) (by omega), sort_part h2 (Nat.le_refl _) (by omega)⟩
theorem mrg_step {lt : α → α → Bool} {d d' : Array α} {B c n x : Nat} (hx : x = c * (2 * B)) (h : MrgInv lt (getF d) B c n) (M : Merged lt x (x + 2 * B) d d') : MrgInv lt (getF d') B (c + 1) n := by
  obtain ⟨e1, e2, e3, e4⟩ := dbl hx
  refine ⟨fun u hu => ?_, fun u hu => ?_⟩
  · by_cases e : u = c
    · subst e; rw [← hx]; exact M.sorted
    · exact sort_kept M (h.1 u (by omega)) (Or.inl (by rw [hx]; exact mul_next (by omega)))
  · refine sort_kept M (h.2 u (by omega)) (Or.inr ?_)
    rw [← e4]; exact Nat.mul_le_mul_right B (by omega)
theorem mrg_fin {lt : α → α → Bool} {d d' : Array α} {B c n x : Nat} (hx : x = c * (2 * B)) (h : MrgInv lt (getF d) B c n) (M : Merged lt x n d d') (h1 : x ≤ n) (h2 : n < x + 2 * B) : Blk lt (getF d') (2 * B) n := fun u => by
  obtain ⟨e1, e2, e3, e4⟩ := dbl hx
  rcases Nat.lt_trichotomy u c with e | e | e
  · have := mul_next (B := 2 * B) e
    rw [← hx] at this
    rw [Nat.min_eq_left (by omega)]; exact sort_kept M (h.1 u e) (Or.inl this)
  · subst e; rw [← hx, Nat.min_eq_right (by omega)]; exact M.sorted
  · have := Nat.mul_le_mul_right (2 * B) (show c + 1 ≤ u from e)
    rw [e3] at this
    intro i j g1 g2 g3; omega
theorem mrg_none {lt : α → α → Bool} {d : Array α} {B c n x : Nat} (hx : x = c * (2 * B)) (h : MrgInv lt (getF d) B c n) (h1 : x ≤ n) (h2 : n ≤ x + B) (hB : 0 < B) : Blk lt (getF d) (2 * B) n := by
  obtain ⟨e1, _, _, _⟩ := dbl hx
  have h3 := h.2 (2 * c) (Nat.le_refl _)
  rw [e1, Nat.min_eq_right h2] at h3
  exact mrg_fin hx h (Merged.none_ h3) h1 (by omega)
omit [Inhabited α] in
theorem blk_all {lt : α → α → Bool} {f : Nat → α} {B n : Nat} (h : Blk lt f B n) (hn : n ≤ B) : sortF lt f 0 n := by
  have := h 0
  rw [Nat.zero_mul, Nat.zero_add, Nat.min_eq_right hn] at this
  exact this
end Go.Proofs.Ytpmllckfijfehaa
