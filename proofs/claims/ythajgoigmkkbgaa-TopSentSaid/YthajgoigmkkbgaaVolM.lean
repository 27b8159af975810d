/- Volumes and writes in memory: where they lie ('VolsAt', 'WrsAt'). -/
import Derived.Test.YthajgoigmkkbgaaRows
import Derived.WalkKit
import Derived.WalkSpells
import Derived.WalkLawsBesides
import Derived.Lib.Hide
import Derived.PlainAid
import Derived.Deep.OwnRows
import Derived.Deep.MidRow
import Derived.Deep.AppendLies
import Derived.Deep.RegionHeld3
import Derived.Deep.QuietTactic
import Derived.BigQuiet
import Derived.Lib.LazyBuf
import Derived.Test.YthajgoigmkkbgaaPlain
import Derived.Test.YthajgoigmkkbgaaMem
import Derived.Test.YthajgoigmkkbgaaVolP
namespace Go.Proofs.Ythajgoigmkkbgaa
open Go.RowKit

/-- One volume lies at two cells of block b, its blocks below block B. -/
def VolCells (w : World) (B b o : Nat) (v : Vl) : Prop :=
  ∃ a c, w.cell? ⟨b, o, none⟩ = some (.int .i64 v.1) ∧ w.cell? ⟨b, o + 1, none⟩ = some (.slice a v.2.length c) ∧ Lies w B a (v.2.map Value.string)

/-- The volumes vs lie where a slice's address says, below block B. -/
def VolsAt (w : World) (B : Nat) (A : Option Addr) (vs : List Vl) : Prop :=
  vs = [] ∨ ∃ b off, A = some ⟨b, off, none⟩ ∧ b < B ∧ ∀ i, (h : i < vs.length) → VolCells w B b (off + i * 2) vs[i]

/-- No list is longer than a slice can be. -/
def VolsFit (vs : List Vl) : Prop := vs.length ≤ 9223372036854775807 ∧ ∀ v ∈ vs, v.2.length ≤ 9223372036854775807

theorem VolCells.below {w w' : World} {B b o : Nat} {v : Vl} (h : VolCells w B b o v) (hb : Below B w w') (hlt : b < B) : VolCells w' B b o v := by
  obtain ⟨a, c, h1, h2, h3⟩ := h
  exact ⟨a, c, (hb.cell (p := ⟨b, o, none⟩) hlt).trans h1, (hb.cell (p := ⟨b, o + 1, none⟩) hlt).trans h2, h3.below hb⟩
theorem VolCells.more {w : World} {B B' b o : Nat} {v : Vl} (h : VolCells w B b o v) (hB : B ≤ B') : VolCells w B' b o v := by
  obtain ⟨a, c, h1, h2, h3⟩ := h
  exact ⟨a, c, h1, h2, h3.more hB⟩
theorem VolsAt.below {w w' : World} {B : Nat} {A : Option Addr} {vs : List Vl} (h : VolsAt w B A vs) (hb : Below B w w') : VolsAt w' B A vs := by
  rcases h with h | ⟨b, off, hA, hlt, hc⟩
  · exact .inl h
  · exact .inr ⟨b, off, hA, hlt, fun i hi => (hc i hi).below hb hlt⟩
theorem VolsAt.more {w : World} {B B' : Nat} {A : Option Addr} {vs : List Vl} (h : VolsAt w B A vs) (hB : B ≤ B') : VolsAt w B' A vs := by
  rcases h with h | ⟨b, off, hA, hlt, hc⟩
  · exact .inl h
  · exact .inr ⟨b, off, hA, by omega, fun i hi => (hc i hi).more hB⟩
theorem VolsAt.next {w w' : World} {A : Option Addr} {vs : List Vl} (h : VolsAt w w.heap.size A vs) (hb : Below w.heap.size w w') : VolsAt w' w'.heap.size A vs := (h.below hb).more hb.size
theorem VolsAt.nil (w : World) (B : Nat) (A : Option Addr) : VolsAt w B A [] := .inl rfl

/-- One volume, in a later world. -/
theorem VolsAt.at_ {w w' : World} {B : Nat} {A : Option Addr} {vs : List Vl} (h : VolsAt w B A vs) (hb : Below B w w') {i : Nat} (hi : i < vs.length) :
    ∃ b off a c, A = some ⟨b, off, none⟩ ∧ b < B ∧ w'.cell? ⟨b, off + i * 2, none⟩ = some (.int .i64 vs[i].1) ∧ w'.cell? ⟨b, off + i * 2 + 1, none⟩ = some (.slice a vs[i].2.length c) ∧ Lies w' B a (vs[i].2.map Value.string) := by
  rcases h with rfl | ⟨b, off, hA, hlt, hc⟩
  · simp at hi
  · obtain ⟨a, c, h1, h2, h3⟩ := (hc i hi).below hb hlt
    exact ⟨b, off, a, c, hA, hlt, h1, h2, h3⟩

/-- One text of a row of texts, in a later world. -/
theorem Lies.text {w w' : World} {B : Nat} {a : Option Addr} {bs : List ByteArray} (h : Lies w B a (bs.map Value.string)) (hb : Below B w w') {k : Nat} (hk : k < bs.length) :
    ∃ b off, a = some ⟨b, off, none⟩ ∧ b < B ∧ w'.cell? ⟨b, off + k, none⟩ = some (.string bs[k]) := by
  obtain ⟨b, off, hA, hlt, hc⟩ := h.at_ (by intro e; simp at e; subst e; simp at hk)
  refine ⟨b, off, hA, hlt, ?_⟩
  rw [hb.cell (p := ⟨b, off + k, none⟩) hlt, hc k (by simpa using hk)]
  simp

def WrCells (w : World) (b o : Nat) (x : Wr) : Prop :=
  w.cell? ⟨b, o, none⟩ = some (.int .i64 x.vol) ∧ w.cell? ⟨b, o + 1, none⟩ = some (.int .i64 x.block) ∧ w.cell? ⟨b, o + 2, none⟩ = some (.string x.data)
def WrsAt (w : World) (B : Nat) (A : Option Addr) (ws : List Wr) : Prop :=
  ws = [] ∨ ∃ b off, A = some ⟨b, off, none⟩ ∧ b < B ∧ ∀ i, (h : i < ws.length) → WrCells w b (off + i * 3) ws[i]
theorem WrsAt.at_ {w w' : World} {B : Nat} {A : Option Addr} {ws : List Wr} (h : WrsAt w B A ws) (hb : Below B w w') {i : Nat} (hi : i < ws.length) :
    ∃ b off, A = some ⟨b, off, none⟩ ∧ b < B ∧ w'.cell? ⟨b, off + i * 3, none⟩ = some (.int .i64 ws[i].vol) ∧ w'.cell? ⟨b, off + i * 3 + 1, none⟩ = some (.int .i64 ws[i].block) ∧ w'.cell? ⟨b, off + i * 3 + 2, none⟩ = some (.string ws[i].data) := by
  rcases h with rfl | ⟨b, off, hA, hlt, hc⟩
  · simp at hi
  · obtain ⟨h1, h2, h3⟩ := hc i hi
    exact ⟨b, off, hA, hlt, (hb.cell (p := ⟨b, off + i * 3, none⟩) hlt).trans h1, (hb.cell (p := ⟨b, off + i * 3 + 1, none⟩) hlt).trans h2, (hb.cell (p := ⟨b, off + i * 3 + 2, none⟩) hlt).trans h3⟩
theorem WrsAt.below {w w' : World} {B : Nat} {A : Option Addr} {ws : List Wr} (h : WrsAt w B A ws) (hb : Below B w w') : WrsAt w' B A ws := by
  rcases h with h | ⟨b, off, hA, hlt, hc⟩
  · exact .inl h
  · exact .inr ⟨b, off, hA, hlt, fun i hi => ⟨(hb.cell (p := ⟨b, off + i * 3, none⟩) hlt).trans (hc i hi).1, (hb.cell (p := ⟨b, off + i * 3 + 1, none⟩) hlt).trans (hc i hi).2.1, (hb.cell (p := ⟨b, off + i * 3 + 2, none⟩) hlt).trans (hc i hi).2.2⟩⟩
theorem WrsAt.more {w : World} {B B' : Nat} {A : Option Addr} {ws : List Wr} (h : WrsAt w B A ws) (hB : B ≤ B') : WrsAt w B' A ws := by
  rcases h with h | ⟨b, off, hA, hlt, hc⟩
  · exact .inl h
  · exact .inr ⟨b, off, hA, by omega, hc⟩
theorem WrsAt.next {w w' : World} {A : Option Addr} {ws : List Wr} (h : WrsAt w w.heap.size A ws) (hb : Below w.heap.size w w') : WrsAt w' w'.heap.size A ws := (h.below hb).more hb.size

/-- What a call that hands back volumes and an error leaves. -/
def VolsEnd (vs : List Vl) (n : Int) (w : World) (e : Ending) (w' : World) : Prop :=
  ∃ A c, e = .returned (.tuple #[.slice A vs.length c, .int .i64 n]) ∧ VolsAt w' w'.heap.size A vs ∧ Below w.heap.size w w'
theorem VolsEnd.none_ (n : Int) {w w' : World} (hb : Below w.heap.size w w') : VolsEnd [] n w (.returned (.tuple #[.slice none 0 0, .int .i64 n])) w' := ⟨none, 0, rfl, .inl rfl, hb⟩

end Go.Proofs.Ythajgoigmkkbgaa
