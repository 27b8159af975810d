/- A region in one order, whose operations read and whose calls leave a later world, walked as one that draws: each operation's value is the same in every later world. No program in sight. -/
import Derived.Test.YtkpoeigoocbgeaaMem
namespace Go.Proofs.Ytkpoeigoocbgeaa
open Go.RowKit

theorem wpList_of_quiet {P : Program} {ops : Array Oper} {C : World → Prop} {Q : Exit → Act → World → Prop} : ∀ (l : List Oper) (a : Act) (w : World), C w → wpQuiet P ops C (fun a' => ∀ w', C w' → Q .normal a' w') l a → wpList P ops Q l a w
  | [], _, w, hC, h => h w hC
  | o :: rest, a, w, hC, h => by
    unfold wpQuiet at h
    unfold wpList
    split at h
    · rename_i hw
      rw [if_pos hw]
      exact .inl (Oper.wp_of_quiet hC (fun a w' hC' hK => wpList_of_quiet rest a w' hC' hK) h)
    · rename_i hw
      rw [if_neg hw]
      exact wpList_of_quiet rest _ w hC h
theorem wp_region_seq {P : Program} {id : Nat} {Q : Exit → Act → World → Prop} {a : Act} {w : World} {l : List Oper}
    (h : wpQuiet P l.toArray (fun w' => ∃ p : LatW w, w' = p.wd) (fun a' => ∀ w', (∃ p : LatW w, w' = p.wd) → Q .normal a' w') l a) : (Code.region id l.toArray false).wp P Q a w :=
  wp_region_lit (wpList_of_quiet l a w ⟨⟨w, Below.refl _ _⟩, rfl⟩ h)
end Go.Proofs.Ytkpoeigoocbgeaa
