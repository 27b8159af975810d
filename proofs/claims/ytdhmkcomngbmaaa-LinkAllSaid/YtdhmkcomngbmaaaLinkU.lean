/- The line at its beginning, and an act on it, plain. No program in sight. -/
import Derived.Test.YtdhmkcomngbmaaaLinkT
namespace Go.Proofs.Ytdhmkcomngbmaaa

def siteNew (i : Nat) : Site := ⟨⟨(i : Int) + 3, 0, 1, 1, []⟩, [], []⟩
def lineNew : Line := ⟨siteNew, []⟩
theorem siteNew_ok (i j : Nat) (hi : i < 2) : SiteOk (siteNew i) i (siteNew j) :=
  ⟨⟨by show 1 ≤ (i : Int) + 3; omega, by show (i : Int) + 3 ≤ _; omega, show (0 : Int) ≤ 0 by decide, show (0 : Int) ≤ 1099511627776 by decide, show (1 : Int) ≤ 1 by decide, show (1 : Int) ≤ 1099511627776 by decide, show (1 : Int) ≤ 1 by decide, show (1 : Int) ≤ 1099511627776 by decide, show 0 ≤ 64 by decide, fun p hp => (by cases hp)⟩, rfl, .inl rfl, fun _ => ⟨rfl, rfl⟩, rfl, by show (1 : Int) ≤ ((0 : Nat) : Int) + 1; omega, rfl, by show (1 : Int) - 1 ≤ ((0 : Nat) : Int); omega, rfl, fun p hp => (by cases hp), Nat.zero_le _⟩
theorem lineNew_ok : LineOk lineNew 0 := ⟨siteNew_ok 0 1 (by omega), siteNew_ok 1 0 (by omega), fun p hp => (by cases hp), Nat.zero_le _, Nat.le_refl _, Nat.le_refl _⟩

/-- One thing done: the kind (below 12), its number, its piece. -/
noncomputable def actL (l : Line) (kind n : Nat) (piece : List UInt8) : Line :=
  if kind = 0 ∨ kind = 1 then l.puts 0 piece else if kind = 2 then l.puts 1 piece else if kind = 3 ∨ kind = 4 then l.tick (n % 2) else
  match l.net[n % l.net.length]? with
  | none => l
  | some p => if kind = 10 then l.send p else if kind = 11 then l.turn (n % l.net.length) piece.length else if kind = 9 then l.gone (n % l.net.length) else (l.gone (n % l.net.length)).comes p
theorem LineOk.act {l : Line} {N : Nat} (h : LineOk l N) (kind n : Nat) (piece : List UInt8) (hN : N < 1000000) : LineOk (actL l kind n piece) (N + 1) := by
  unfold actL
  split
  · exact h.puts (by omega) piece hN
  split
  · exact h.puts (by omega) piece hN
  split
  · exact (h.tick (Nat.mod_lt _ (by omega))).more (by omega)
  split
  · exact h.more (by omega)
  · rename_i p hp
    have hpo := h.net p (List.mem_of_getElem? hp)
    split
    · exact (h.send fun _ => hpo).more (by omega)
    split
    · exact (h.turn _ _).more (by omega)
    split
    · exact (h.gone _).more (by omega)
    · exact ((h.gone _).comes (p := p) hpo).more (by omega)
end Go.Proofs.Ytdhmkcomngbmaaa
