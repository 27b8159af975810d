/- A log on a disk whose power may go, in memory: the log, its disk, two kept answers beside them. behind: what must be there behind an append: the records that are kept, joined with one more, in a row of their own. The walk of WalKeeps. -/
import Derived.Test.YtgnijpjdkipaaaaGreatDoorWalKeepA
import Derived.Test.YtgnijpjdkipaaaaGreatDoorWalNum
import Derived.Test.YtgnijpjdkipaaaaGreatDoorDiskA
import Derived.Test.YtgnijpjdkipaaaaGreatDoorDiskK
import Derived.Test.YtgnijpjdkipaaaaGreatDoorDiskG
import Derived.Deep.RegionHeld3
import Derived.Deep.AppendLies
import Derived.Test.YtgnijpjdkipaaaaGreatDoorWalAct
namespace Go.Proofs.YtgnijpjdkipaaaaGreatDoor
open Go.RowKit

/-- The cells of a slice lie in a block of their own, apart from G. -/
def Aside (w : World) (G : Nat → Prop) (A : Option Addr) (cs : List Value) : Prop :=
  cs = [] ∨ ∃ b off, A = some ⟨b, off, none⟩ ∧ b < w.heap.size ∧ ¬ G b ∧ ∀ i, (h : i < cs.length) → w.cell? ⟨b, off + i, none⟩ = some cs[i]
theorem Aside.lies {w : World} {G : Nat → Prop} {A : Option Addr} {cs : List Value} (h : Aside w G A cs) : Lies w w.heap.size A cs := by
  rcases h with h | ⟨b, off, h1, h2, _, h4⟩
  · exact .inl h
  · exact .inr ⟨b, off, h1, h2, h4⟩
theorem Aside.of {w : World} {G : Nat → Prop} {A : Option Addr} {cs : List Value} (h : Lies w w.heap.size A cs) (hg : ∀ p, A = some p → ¬ G p.block) : Aside w G A cs := by
  rcases h with h | ⟨b, off, h1, h2, h3⟩
  · exact .inl h
  · exact .inr ⟨b, off, h1, h2, hg _ h1, h3⟩
theorem Aside.moves {w w' : World} {G G' M : Nat → Prop} {A : Option Addr} {cs : List Value} (h : Aside w G A cs) (hm : Moves M w w') (hM : ∀ j, M j → G j ∨ w.heap.size ≤ j) (hG : ∀ j, G' j → G j ∨ w.heap.size ≤ j) : Aside w' G' A cs := by
  rcases h with h | ⟨b, off, h1, h2, h3, h4⟩
  · exact .inl h
  · refine .inr ⟨b, off, h1, Nat.lt_of_lt_of_le h2 hm.size, fun hg => ?_, fun i hi => ?_⟩
    · rcases hG b hg with e | e
      · exact h3 e
      · omega
    · refine (World.cell?_of_block (a := ⟨b, off + i, none⟩) (hm.block b h2 (fun e => ?_))).trans (h4 i hi)
      rcases hM b e with e | e
      · exact h3 e
      · omega
theorem Aside.later {w w' : World} {G : Nat → Prop} {A : Option Addr} {cs : List Value} (h : Aside w G A cs) (hb : Below w.heap.size w w') : Aside w' G A cs :=
  h.moves (M := fun _ => False) (Moves.of_below hb) (fun _ e => e.elim) (fun _ e => .inl e)

/-- What the answers that are kept lie apart from: the disk, the log, the two cells. -/
def Own4 (F : Nat → Prop) (b g1 g2 : Nat) (j : Nat) : Prop := F j ∨ j = b ∨ j = g1 ∨ j = g2

/-- One answer that is kept. -/
structure KeptAt (w wr : World) (F : Nat → Prop) (b g1 g2 : Nat) (st : List UInt8) (rs : List (List UInt8)) (A : Option Addr) (c : Nat) : Prop where
  lg : w.heap.size ≤ g1
  ng : ¬ F g1
  gb : g1 ≠ b
  cell : wr.heap[g1]? = some (.cells #[.string (str st), .slice A rs.length c] 70 (0, 0))
  row : Aside wr (Own4 F b g1 g2) A (rs.map secV)
  nilc : A = none → c = 0

theorem KeptAt.moves {w wr w' : World} {F F' M : Nat → Prop} {b b' g1 g2 : Nat} {st : List UInt8} {rs : List (List UInt8)} {A : Option Addr} {c : Nat} (h : KeptAt w wr F b g1 g2 st rs A c) (hm : Moves M wr w')
    (hM : ∀ j, M j → F j ∨ j = b ∨ j = g2 ∨ wr.heap.size ≤ j) (hF : ∀ j, F' j → F j ∨ wr.heap.size ≤ j) (hb : b' = b ∨ wr.heap.size ≤ b') (hn : g1 ≠ g2) : KeptAt w w' F' b' g1 g2 st rs A c := by
  have hgl := heap_lt h.cell
  refine ⟨h.lg, fun hf => ?_, ?_, ?_, h.row.moves hm (fun j hj => ?_) (fun j hj => ?_), h.nilc⟩
  · rcases hF g1 hf with e | e
    · exact h.ng e
    · omega
  · rcases hb with e | e
    · rw [e]; exact h.gb
    · omega
  · refine (hm.block g1 hgl (fun e => ?_)).trans h.cell
    rcases hM g1 e with e | e | e | e
    · exact h.ng e
    · exact h.gb e
    · exact hn e
    · omega
  · rcases hM j hj with e | e | e | e
    · exact .inl (.inl e)
    · exact .inl (.inr (.inl e))
    · exact .inl (.inr (.inr (.inr e)))
    · exact .inr e
  · rcases hj with e | e | e | e
    · exact (hF j e).imp .inl id
    · rcases hb with e2 | e2
      · exact .inl (.inr (.inl (e.trans e2)))
      · exact .inr (by omega)
    · exact .inl (.inr (.inr (.inl e)))
    · exact .inl (.inr (.inr (.inr e)))

structure KeepAt (w wr : World) (F : Nat → Prop) (b g1 g2 : Nat) (v : WalV) (d : DSt) (st1 : List UInt8) (rs1 : List (List UInt8)) (A1 : Option Addr) (c1 : Nat) (st2 : List UInt8) (rs2 : List (List UInt8)) (A2 : Option Addr) (c2 : Nat) : Prop where
  log : LogAt wr F b v d
  nb : ¬ F b
  low : ∀ j, F j → w.heap.size ≤ j
  lb : w.heap.size ≤ b
  ne : g1 ≠ g2
  k1 : KeptAt w wr F b g1 g2 st1 rs1 A1 c1
  k2 : KeptAt w wr F b g2 g1 st2 rs2 A2 c2
  bel : Below w.heap.size w wr

theorem KeepAt.later {w wr w' : World} {F : Nat → Prop} {b g1 g2 : Nat} {v : WalV} {d : DSt} {st1 st2 : List UInt8} {rs1 rs2 : List (List UInt8)} {A1 A2 : Option Addr} {c1 c2 : Nat} (h : KeepAt w wr F b g1 g2 v d st1 rs1 A1 c1 st2 rs2 A2 c2) (hb : Below wr.heap.size wr w') : KeepAt w w' F b g1 g2 v d st1 rs1 A1 c1 st2 rs2 A2 c2 :=
  ⟨h.log.later hb, h.nb, h.low, h.lb, h.ne, h.k1.moves (M := fun _ => False) (Moves.of_below hb) (fun _ e => e.elim) (fun _ e => .inl e) (.inl rfl) h.ne, h.k2.moves (M := fun _ => False) (Moves.of_below hb) (fun _ e => e.elim) (fun _ e => .inl e) (.inl rfl) h.ne.symm, h.bel.trans (hb.mono h.bel.size)⟩
theorem KeepAt.swap {w wr : World} {F : Nat → Prop} {b g1 g2 : Nat} {v : WalV} {d : DSt} {st1 st2 : List UInt8} {rs1 rs2 : List (List UInt8)} {A1 A2 : Option Addr} {c1 c2 : Nat} (h : KeepAt w wr F b g1 g2 v d st1 rs1 A1 c1 st2 rs2 A2 c2) : KeepAt w wr F b g2 g1 v d st2 rs2 A2 c2 st1 rs1 A1 c1 :=
  ⟨h.log, h.nb, h.low, h.lb, h.ne.symm, h.k2, h.k1, h.bel⟩
/-- Behind a call on the log. -/
theorem KeepAt.call {w wr w' : World} {F F' : Nat → Prop} {b g1 g2 : Nat} {v v' : WalV} {d d' : DSt} {st1 st2 : List UInt8} {rs1 rs2 : List (List UInt8)} {A1 A2 : Option Addr} {c1 c2 : Nat} (h : KeepAt w wr F b g1 g2 v d st1 rs1 A1 c1 st2 rs2 A2 c2)
    (hL : LogAt w' F' b v' d') (hn : ¬ F' b) (hm : Moves (fun q => F q ∨ q = b) wr w') (hF : ∀ j, F' j → F j ∨ wr.heap.size ≤ j) : KeepAt w w' F' b g1 g2 v' d' st1 rs1 A1 c1 st2 rs2 A2 c2 := by
  refine ⟨hL, hn, fun j hj => ?_, h.lb, h.ne, h.k1.moves hm (fun j hj => ?_) hF (.inl rfl) h.ne, h.k2.moves hm (fun j hj => ?_) hF (.inl rfl) h.ne.symm, ?_⟩
  · rcases hF j hj with e | e
    · exact h.low j e
    · exact Nat.le_trans h.bel.size e
  · rcases hj with e | e
    · exact .inl e
    · exact .inr (.inl e)
  · rcases hj with e | e
    · exact .inl e
    · exact .inr (.inl e)
  · exact h.bel.trans (hm.below (B := w.heap.size) h.bel.size (fun j hj => by
      rcases hj with e | e
      · exact h.low j e
      · rw [e]; exact h.lb))
/-- Behind a call on the disk alone. -/
theorem KeepAt.disk {w wr w' : World} {F : Nat → Prop} {b g1 g2 a : Nat} {v : WalV} {d d' : DSt} {st1 st2 : List UInt8} {rs1 rs2 : List (List UInt8)} {A1 A2 : Option Addr} {c1 c2 : Nat} {r : Value} {e : Ending} (h : KeepAt w wr F b g1 g2 v d st1 rs1 A1 c1 st2 rs2 A2 c2)
    (hv : v.disk = a) (hl : d'.seen.length = d.seen.length) (hd : DiskEnd wr F a d' r e w') : ∃ F', KeepAt w w' F' b g1 g2 v d' st1 rs1 A1 c1 st2 rs2 A2 c2 := by
  obtain ⟨_, hm, F', hD, hF⟩ := hd
  have hbl := heap_lt h.log.wal
  refine ⟨F', h.call ⟨(hm.block b hbl h.nb).trans h.log.wal, by rw [hv]; exact hD, by rw [hl]; exact h.log.ok⟩ (fun hf => ?_) (hm.mono (fun j hj => .inl hj)) hF⟩
  rcases hF b hf with e | e
  · exact h.nb e
  · omega
/-- The log is opened anew; what it gives lies apart from all. -/
theorem KeepAt.opened {w wr w' : World} {F : Nat → Prop} {b b' g1 g2 : Nat} {v v' : WalV} {d : DSt} {st1 st2 : List UInt8} {rs1 rs2 rs : List (List UInt8)} {A1 A2 A : Option Addr} {c1 c2 : Nat} (h : KeepAt w wr F b g1 g2 v d st1 rs1 A1 c1 st2 rs2 A2 c2)
    (hL : LogAt w' F b' v' d) (hb : Below wr.heap.size wr w') (hl : wr.heap.size ≤ b') (hA : Lies w' w'.heap.size A (rs.map secV)) (hf : ∀ p, A = some p → wr.heap.size ≤ p.block ∧ p.block ≠ b') :
    KeepAt w w' F b' g1 g2 v' d st1 rs1 A1 c1 st2 rs2 A2 c2 ∧ Aside w' (Own4 F b' g1 g2) A (rs.map secV) := by
  have q1 := heap_lt h.k1.cell
  have q2 := heap_lt h.k2.cell
  refine ⟨⟨hL, fun hf => ?_, h.low, Nat.le_trans h.bel.size hl, h.ne, h.k1.moves (M := fun _ => False) (Moves.of_below hb) (fun _ e => e.elim) (fun _ e => .inl e) (.inr hl) h.ne, h.k2.moves (M := fun _ => False) (Moves.of_below hb) (fun _ e => e.elim) (fun _ e => .inl e) (.inr hl) h.ne.symm, h.bel.trans (hb.mono h.bel.size)⟩, Aside.of hA (fun p hp hg => ?_)⟩
  · have := h.log.disk.low b' hf; omega
  · obtain ⟨f1, f2⟩ := hf p hp
    rcases hg with e | e | e | e
    · have := h.log.disk.low _ e; omega
    · exact f2 e
    · omega
    · omega
/-- What is kept is set anew. -/
theorem KeepAt.setNow {w wr : World} {F : Nat → Prop} {b g1 g2 : Nat} {v : WalV} {d : DSt} {st1 st2 st : List UInt8} {rs1 rs2 rs : List (List UInt8)} {A1 A2 A : Option Addr} {c1 c2 c : Nat} (h : KeepAt w wr F b g1 g2 v d st1 rs1 A1 c1 st2 rs2 A2 c2)
    (hA : Aside wr (Own4 F b g1 g2) A (rs.map secV)) (hz : A = none → c = 0) : KeepAt w ((wr.setCell ⟨g1, 0, none⟩ (.string (str st))).setCell ⟨g1, 1, none⟩ (.slice A rs.length c)) F b g1 g2 v d st rs A c st2 rs2 A2 c2 := by
  have hbl := heap_lt h.log.wal
  have m0 : Moves (fun q => q = g1) wr wr := Moves.refl _ _
  have hm : Moves (fun q => q = g1) wr ((wr.setCell ⟨g1, 0, none⟩ (.string (str st))).setCell ⟨g1, 1, none⟩ (.slice A rs.length c)) := (m0.setCell (p := ⟨g1, 0, none⟩) rfl _).setCell (p := ⟨g1, 1, none⟩) rfl _
  refine ⟨⟨(hm.block b hbl (fun e => h.k1.gb e.symm)).trans h.log.wal, h.log.disk.kept hm (fun k hk hf => h.k1.ng (by rw [← hk]; exact hf)), h.log.ok⟩, h.nb, h.low, h.lb, h.ne, ⟨h.k1.lg, h.k1.ng, h.k1.gb, row_set (row_set h.k1.cell 0 (.string (str st))) 1 (.slice A rs.length c), hA.moves hm (fun j e => .inl (.inr (.inr (.inl e)))) (fun j e => .inl e), hz⟩,
    h.k2.moves hm (fun j e => .inr (.inr (.inl e))) (fun _ e => .inl e) (.inl rfl) h.ne.symm, h.bel.trans (hm.below (B := w.heap.size) h.bel.size (fun j hj => by rw [hj]; exact h.k1.lg))⟩

/-- In a round of the walk: all that, and the act in a block of its own. -/
structure RoundAt (w wr : World) (F : Nat → Prop) (b g1 g2 q : Nat) (O : Array Value) (v : WalV) (d : DSt) (st1 : List UInt8) (rs1 : List (List UInt8)) (A1 : Option Addr) (c1 : Nat) (st2 : List UInt8) (rs2 : List (List UInt8)) (A2 : Option Addr) (c2 : Nat) : Prop where
  keep : KeepAt w wr F b g1 g2 v d st1 rs1 A1 c1 st2 rs2 A2 c2
  act : wr.heap[q]? = some (.cells O 44 (0, 0))
  nq : ¬ Own4 F b g1 g2 q
theorem KeepAt.round {w wr w' : World} {F : Nat → Prop} {b g1 g2 : Nat} {O : Array Value} {v : WalV} {d : DSt} {st1 st2 : List UInt8} {rs1 rs2 : List (List UInt8)} {A1 A2 : Option Addr} {c1 c2 : Nat} (h : KeepAt w wr F b g1 g2 v d st1 rs1 A1 c1 st2 rs2 A2 c2)
    (hb : Below (wr.alloc (.cells O 44)).heap.size (wr.alloc (.cells O 44)) w') : RoundAt w w' F b g1 g2 wr.heap.size O v d st1 rs1 A1 c1 st2 rs2 A2 c2 := by
  have q1 := heap_lt h.k1.cell
  have q2 := heap_lt h.k2.cell
  have q3 := heap_lt h.log.wal
  have h1 : Below wr.heap.size wr w' := ((Below.refl _ _).alloc (Nat.le_refl _) _).trans (hb.mono (by simp))
  refine ⟨h.later h1, (hb.block _ (by simp)).trans (heap_alloc_new _ _), fun hq => ?_⟩
  rcases hq with e | e | e | e
  · have := h.log.disk.low _ e; omega
  · omega
  · omega
  · omega
section
variable {w wr w' : World} {F F' : Nat → Prop} {b g1 g2 q a slot : Nat} {O : Array Value} {v v' : WalV} {d d' : DSt} {st1 st2 : List UInt8} {rs1 rs2 : List (List UInt8)} {A1 A2 : Option Addr} {c1 c2 : Nat}
theorem RoundAt.later (h : RoundAt w wr F b g1 g2 q O v d st1 rs1 A1 c1 st2 rs2 A2 c2) (hb : Below wr.heap.size wr w') : RoundAt w w' F b g1 g2 q O v d st1 rs1 A1 c1 st2 rs2 A2 c2 :=
  ⟨h.keep.later hb, (hb.block q (heap_lt h.act)).trans h.act, h.nq⟩
theorem RoundAt.call (h : RoundAt w wr F b g1 g2 q O v d st1 rs1 A1 c1 st2 rs2 A2 c2)
    (hL : LogAt w' F' b v' d') (hn : ¬ F' b) (hm : Moves (fun q => F q ∨ q = b) wr w') (hF : ∀ j, F' j → F j ∨ wr.heap.size ≤ j) : RoundAt w w' F' b g1 g2 q O v' d' st1 rs1 A1 c1 st2 rs2 A2 c2 := by
  have hq := heap_lt h.act
  refine ⟨h.keep.call hL hn hm hF, (hm.block q hq (fun e => h.nq ?_)).trans h.act, fun e => ?_⟩
  · rcases e with e | e
    · exact .inl e
    · exact .inr (.inl e)
  · rcases e with e | e
    · rcases hF q e with e2 | e2
      · exact h.nq (.inl e2)
      · omega
    · exact h.nq (.inr e)
theorem RoundAt.disk {r : Value} {e : Ending} (h : RoundAt w wr F b g1 g2 q O v d st1 rs1 A1 c1 st2 rs2 A2 c2)
    (hv : v.disk = a) (hl : d'.seen.length = d.seen.length) (hd : DiskEnd wr F a d' r e w') : ∃ F', RoundAt w w' F' b g1 g2 q O v d' st1 rs1 A1 c1 st2 rs2 A2 c2 := by
  obtain ⟨_, hm, F', hD, hF⟩ := hd
  have hbl := heap_lt h.keep.log.wal
  refine ⟨F', h.call ⟨(hm.block b hbl h.keep.nb).trans h.keep.log.wal, by rw [hv]; exact hD, by rw [hl]; exact h.keep.log.ok⟩ (fun hf => ?_) (hm.mono (fun j hj => .inl hj)) hF⟩
  rcases hF b hf with e | e
  · exact h.keep.nb e
  · omega
theorem RoundAt.setNow {st : List UInt8} {rs : List (List UInt8)} {A : Option Addr} {c : Nat} (h : RoundAt w wr F b g1 g2 q O v d st1 rs1 A1 c1 st2 rs2 A2 c2)
    (hA : Aside wr (Own4 F b g1 g2) A (rs.map secV)) (hz : A = none → c = 0) : RoundAt w ((wr.setCell ⟨g1, 0, none⟩ (.string (str st))).setCell ⟨g1, 1, none⟩ (.slice A rs.length c)) F b g1 g2 q O v d st rs A c st2 rs2 A2 c2 :=
  ⟨h.keep.setNow hA hz, by
    have hn : q ≠ g1 := fun e => h.nq (.inr (.inr (.inl e)))
    rw [Below.heap_setCell _ _ _ _ (by simpa using hn), Below.heap_setCell _ _ _ _ (by simpa using hn)]
    exact h.act, h.nq⟩
theorem RoundAt.swap (h : RoundAt w wr F b g1 g2 q O v d st1 rs1 A1 c1 st2 rs2 A2 c2) : RoundAt w wr F b g2 g1 q O v d st2 rs2 A2 c2 st1 rs1 A1 c1 :=
  ⟨h.keep.swap, h.act, fun e => h.nq (by
    rcases e with e | e | e | e
    · exact .inl e
    · exact .inr (.inl e)
    · exact .inr (.inr (.inr e))
    · exact .inr (.inr (.inl e)))⟩
theorem RoundAt.opened {b' : Nat} {rs : List (List UInt8)} {A : Option Addr} (h : RoundAt w wr F b g1 g2 q O v d st1 rs1 A1 c1 st2 rs2 A2 c2)
    (hL : LogAt w' F b' v' d) (hb : Below wr.heap.size wr w') (hl : wr.heap.size ≤ b') (hA : Lies w' w'.heap.size A (rs.map secV)) (hf : ∀ p, A = some p → wr.heap.size ≤ p.block ∧ p.block ≠ b') :
    RoundAt w w' F b' g1 g2 q O v' d st1 rs1 A1 c1 st2 rs2 A2 c2 ∧ Aside w' (Own4 F b' g1 g2) A (rs.map secV) := by
  obtain ⟨k1, k2⟩ := h.keep.opened hL hb hl hA hf
  have hq := heap_lt h.act
  refine ⟨⟨k1, (hb.block q hq).trans h.act, fun e => ?_⟩, k2⟩
  rcases e with e | e | e
  · exact h.nq (.inl e)
  · omega
  · exact h.nq (.inr (.inr e))

/-- What a call on the log answers: nil, or a fault whose number is known. -/
def AnsIs (w : World) (e : Ending) (k : Int) : Prop := (k = 0 ∧ e = .returned .nilIface) ∨ (k ≠ 0 ∧ ∃ p, e = .returned (.iface 74 (.pointer (some ⟨p, 0, none⟩))) ∧ Calls Tryz.prog 17 #[.iface 74 (.pointer (some ⟨p, 0, none⟩))] w (NumEnd w k))
theorem add_round {l : List UInt8} (h : RoundAt w wr F b g1 g2 q O v d st1 rs1 A1 c1 st2 rs2 A2 c2) (hg : ErrCell w) (hl : l.length ≤ 100000) (hlo : d.loose.length ≤ 100000) :
    Calls Tryz.prog 24 #[.pointer (some ⟨b, 0, none⟩), .string (str l)] wr fun e w' => AnsIs w' e (addE v d l) ∧ ∃ F', RoundAt w w' F' b g1 g2 q O (if addE v d l = 7 then { addV v d l with down := true } else addV v d l) (addD v d l) st1 rs1 A1 c1 st2 rs2 A2 c2 := by
  refine (Append_any h.keep.log h.keep.nb l hl hlo).mono ?_
  rintro e w' ⟨he, F', hL, hn, hm, hF⟩
  have h' := h.call hL hn hm hF
  refine ⟨?_, F', h'⟩
  by_cases hk : addE v d l = 0
  · rw [if_pos hk] at he
    exact .inl ⟨hk, he⟩
  · rw [if_neg hk] at he
    obtain ⟨p, he, hf⟩ := he
    exact .inr ⟨hk, p, he, num_fault p _ _ (hg.below h'.keep.bel hg.pos) hf⟩
theorem ck_round {l : List UInt8} (h : RoundAt w wr F b g1 g2 q O v d st1 rs1 A1 c1 st2 rs2 A2 c2) (hg : ErrCell w) (hl : l.length ≤ 100000) (hlo : d.loose.length ≤ 100000) :
    Calls Tryz.prog 18 #[.pointer (some ⟨b, 0, none⟩), .string (str l)] wr fun e w' => AnsIs w' e (ckE v d l) ∧ ∃ F', RoundAt w w' F' b g1 g2 q O (if ckE v d l = 7 then { ckV v d l with down := true } else ckV v d l) (ckD v d l) st1 rs1 A1 c1 st2 rs2 A2 c2 := by
  refine (Checkpoint_any h.keep.log h.keep.nb l hl hlo).mono ?_
  rintro e w' ⟨he, F', hL, hn, hm, hF⟩
  have h' := h.call hL hn hm hF
  refine ⟨?_, F', h'⟩
  by_cases hk : ckE v d l = 0
  · rw [if_pos hk] at he
    exact .inl ⟨hk, he⟩
  · rw [if_neg hk] at he
    obtain ⟨p, he, hf⟩ := he
    exact .inr ⟨hk, p, he, num_fault p _ _ (hg.below h'.keep.bel hg.pos) hf⟩
end
end Go.Proofs.YtgnijpjdkipaaaaGreatDoor

namespace Go.Proofs.YtgnijpjdkipaaaaGreatDoor
open Go.RowKit Lib

/-- append of a whole slice, nil or not, onto a row of the call's own: a step of a region that draws. -/
theorem step_append_rows6 {P : Program} {w : World} {ops : Array Oper} {o : Oper} {a : Act} {K : Act → World → Prop} {Q : Exit → Act → World → Prop} {E : Prop} (hgd : o.guard = none) (s x : Operand) (t : TypeId)
    (ho : o.op = .call { callee := .builtin .append, args := #[s, x], argTypes := #[t, t] })
    (base : Nat) (e : TypeId) (i : TypeInfo) (z : Value) (size bytes : Nat) (ht : P.underlying t = some (.slice e)) (hi : P.info? e = some i) (hz : i.zero = some z)
    (hsize : i.size = size) (hby : i.bytes = bytes) (hzs : z.cells.size = size) (hsz : 0 < size)
    (v : Value) (n : Nat) (xs : List Value) (hs : a.eval s = v) (hown : w.ownsRow base e size v n xs)
    (A : Option Addr) (m c : Nat) (news : List Value) (hx : a.eval x = .slice A m c) (hl : news.length = m * size) (B : Nat) (hlies : Lies w B A news) (hnil : A = none → c = 0) (h1 : ∀ u ∈ news, u.oneCell' = true)
    (h63 : n + m ≤ maxLen) (hbytes : (n + m) * bytes ≤ 140737488355328) (hbase : base ≤ w.heap.size)
    (h : ∀ v' w', w'.ownsRow base e size v' (n + m) (xs ++ news) → w.grownBy w' v.ownBlock → K (a.put o.dst v') w') : if Region.wanted o (yielded ops a.tmps) = true then Oper.wp P o a w K Q else E := by
  have hw : Region.wanted o (yielded ops a.tmps) = true := by simp [Region.wanted, hgd]
  rw [if_pos hw]
  cases A with
  | none =>
    have hne : news = [] := by
      rcases hlies with h | ⟨b, off, hA, _⟩
      · exact h
      · cases hA
    subst hne
    have hm0 : m = 0 := by
      have : m * size = 0 := by simpa using hl.symm
      rcases Nat.mul_eq_zero.1 this with h | h
      · exact h
      · omega
    subst hm0
    have hc := hnil rfl
    subst hc
    have hrun := run_append_owned_none (P := P) (w := w) base t o.type e i size ht hi v n xs hown
    unfold Oper.wp
    simp [execOp, ho, resolve, invoke, builtin, hs, hx, hrun, Result.andThen]
    exact h v w (by simpa using hown) ⟨rfl, rfl, rfl, Nat.le_refl _, fun _ _ _ => rfl⟩
  | some ad =>
    refine wp_append_own w s x t ho base e i z size bytes ht hi hz hsize hby hzs hsz v n xs hs hown ad m c news hx hl ?_ h1 h63 hbytes hbase (fun v' w' h2 h3 _ => h v' w' h2 h3)
    intro j u hu
    rcases hlies with h | ⟨b, off, hA, _, hc⟩
    · rw [h] at hu; simp at hu
    · cases hA
      obtain ⟨hj1, hj2⟩ := List.getElem?_eq_some_iff.1 hu
      rw [WideShapes.add_plain, hc j hj1, hj2]

/-- What the two boxes hold. -/
def KSee (w : World) (st s : ByteArray) (A : Option Addr) (n c : Nat) (w' : World) : Prop :=
  w'.cell? ⟨w.heap.size, 0, none⟩ = some (.string st) ∧ w'.cell? ⟨w.heap.size, 1, none⟩ = some (.slice A n c) ∧ w'.cell? ⟨w.heap.size + 1, 2, none⟩ = some (.string s)
theorem KSee_set {w w' : World} {st s : ByteArray} {A : Option Addr} {n c : Nat} (h : KSee w st s A n c w') (u v : Value) : KSee w st s A n c ((w'.setCell ⟨w.heap.size + 1 + 1, 0, none⟩ u).setCell ⟨w.heap.size + 1 + 1, 1, none⟩ v) := by
  obtain ⟨h0, h1, h2⟩ := h
  refine ⟨?_, ?_, ?_⟩
  · rw [World.cell?_setCell_far _ _ _ _ (by show w.heap.size + 1 + 1 ≠ w.heap.size; omega), World.cell?_setCell_far _ _ _ _ (by show w.heap.size + 1 + 1 ≠ w.heap.size; omega)]; exact h0
  · rw [World.cell?_setCell_far _ _ _ _ (by show w.heap.size + 1 + 1 ≠ w.heap.size; omega), World.cell?_setCell_far _ _ _ _ (by show w.heap.size + 1 + 1 ≠ w.heap.size; omega)]; exact h1
  · rw [World.cell?_setCell_far _ _ _ _ (by show w.heap.size + 1 + 1 ≠ w.heap.size + 1; omega), World.cell?_setCell_far _ _ _ _ (by show w.heap.size + 1 + 1 ≠ w.heap.size + 1; omega)]; exact h2
/-- What behind leaves. -/
def BehEnd (w : World) (st : ByteArray) (cs : List Value) (e : Ending) (w' : World) : Prop :=
  ∃ A c, e = .returned (.agg #[.string st, .slice A cs.length c]) ∧ Lies w' w'.heap.size A cs ∧ (A = none → c = 0) ∧ (∀ p, A = some p → w.heap.size ≤ p.block) ∧ Below w.heap.size w w'
theorem behEnd_of {w w1 w7 : World} {st : ByteArray} {rs : List (List UInt8)} {s : ByteArray} {g n cap : Nat} {u v : Value} {e : Ending} (he : e = .returned (.agg #[.string st, .slice (some ⟨g, 0, none⟩) (n + 1) cap])) (hrs : rs.length = n) (hb : Below w.heap.size w w1) (h1 : w.heap.size + 1 + 1 < w1.heap.size) (h7 : Below w1.heap.size w1 w7)
    (ho : w7.ownsRow w1.heap.size 9 1 (.slice (some ⟨g, 0, none⟩) (n + 1) cap) (n + 1) (rs.map secV ++ [.string s])) :
    BehEnd w st (rs.map secV ++ [.string s]) e ((w7.setCell ⟨w.heap.size + 1 + 1, 0, none⟩ u).setCell ⟨w.heap.size + 1 + 1, 1, none⟩ v) := by
  obtain ⟨q1, q2⟩ := ho.lt g rfl
  have hB : Below w.heap.size w w7 := hb.trans (h7.mono hb.size)
  obtain ⟨A, c, e1, _, hl⟩ := own_lies ho
  cases e1
  refine ⟨some ⟨g, 0, none⟩, cap, ?_, ?_, fun h => (by cases h), fun p hp => ?_, (hB.setCell (p := ⟨w.heap.size + 1 + 1, 0, none⟩) (by show w.heap.size ≤ w.heap.size + 1 + 1; omega) _).setCell (p := ⟨w.heap.size + 1 + 1, 1, none⟩) (by show w.heap.size ≤ w.heap.size + 1 + 1; omega) _⟩
  · rw [he, List.length_append, List.length_map, hrs]; rfl
  · rcases hl with h | ⟨b, off, hA, hlt, hc⟩
    · simp at h
    · cases hA
      refine .inr ⟨g, 0, rfl, by simpa [World.setCell] using hlt, fun i hi => ?_⟩
      rw [World.cell?_setCell_far _ _ _ _ (by show w.heap.size + 1 + 1 ≠ g; omega), World.cell?_setCell_far _ _ _ _ (by show w.heap.size + 1 + 1 ≠ g; omega)]
      exact hc i hi
  · cases hp
    show w.heap.size ≤ g
    omega

set_option linter.unusedSimpArgs false in
set_option maxHeartbeats 4000000 in
set_option maxRecDepth 100000 in
theorem behind_add {w : World} (st s : ByteArray) (A xA : Option Addr) (n c xc : Nat) (xk xn : Int) (xb : Nat) (kq : Nat) (hk : kq ≠ 3) (rs : List (List UInt8)) (hrs : rs.length = n) (hn : n ≤ 1000) (hz : A = none → c = 0) (hA : Lies w w.heap.size A (rs.map secV)) (HK : Hid (∀ w', Calls Tryz.prog 16 #[.agg #[.int .i64 xk, .int .i64 xn, .string s, .slice xA xb xc]] w' fun e w'' => e = .returned (.int .i64 kq) ∧ Below w'.heap.size w' w'')) :
    Calls Tryz.prog 41 #[.agg #[.string st, .slice A n c], .agg #[.int .i64 xk, .int .i64 xn, .string s, .slice xA xb xc]] w (BehEnd w st (rs.map secV ++ [.string s])) := by
  have hkz : ¬ (kq : Int) = 3 := by omega
  have HA := Lib.hid hA
  obtain ⟨i0, hi0, hz0, hz1, hz2⟩ := info_parts Tryz.infoStr5
  clear hA
  go_enter Tryz.func41, Tryz.ntmps41
  go_wp2_with fail
  refine (HK.out _).mono ?_
  rintro e w1 ⟨rfl, hb⟩
  obtain ⟨b1, b2, h0, h1, h2⟩ := wBh_is w st s A xA n c xc xk xn xb hb
  have HB := Lib.hid b1
  have hlt1 := b2
  have HSee : Hid (∀ w', Below w1.heap.size w1 w' → KSee w st s A n c w') := Lib.hid (fun w' hb' => by
    refine ⟨?_, ?_, ?_⟩
    · rw [hb'.cell (p := ⟨w.heap.size, 0, none⟩) (by show w.heap.size < _; omega), Lib.cell_of_heap h0]; rfl
    · rw [hb'.cell (p := ⟨w.heap.size, 1, none⟩) (by show w.heap.size < _; omega), Lib.cell_of_heap h0]; rfl
    · rw [hb'.cell (p := ⟨w.heap.size + 1, 2, none⟩) (by show w.heap.size + 1 < _; omega), Lib.cell_of_heap h1]; rfl)
  have HZ : Hid (∀ w', Below w1.heap.size w1 w' → w'.heap[w.heap.size + 1 + 1]? = some (.cells #[.string ⟨#[]⟩, .slice none 0 0] 70 (0, 0))) := Lib.hid (fun w' hb' => (hb'.block _ b2).trans h2)
  have HLs : Hid (∀ w', Below w1.heap.size w1 w' → Lies w' w'.heap.size A (rs.map secV)) := Lib.hid (fun w' hb' => HA.out.next (below_next b1 hb'))
  clear hb b1 h0 h1 h2 HA b2
  go_wp2_with fail
  refine wp_region_held_drew (S := KSee w st s A n c) (by kernel_rfl) (HSee.out _ (Below.refl _ _).drew) (fun hHeld => ?_)
  refine wpAnyH_take (i := 0) (oi := _) (v := .pointer (some ⟨w.heap.size, 0, none⟩)) rfl (by kernel_rfl) (by kernel_rfl) (by kernel_rfl) (fun _ _ _ h => h) (Or.inl ⟨by rfl, fun w _ => by go_simp⟩) hHeld ?_
  try simp only [Act.put, List.setIfInBounds_toArray, List.set_cons_zero, List.set_cons_succ]
  refine wpAnyH_take (i := 1) (oi := _) (v := .string st) rfl (by kernel_rfl) (by kernel_rfl) (by kernel_rfl) (fun _ _ _ h => h) (Or.inl ⟨by rfl, fun w hS => by obtain ⟨s0, s1, s2⟩ := hS; go_simp⟩) hHeld ?_
  try simp only [Act.put, List.setIfInBounds_toArray, List.set_cons_zero, List.set_cons_succ]
  refine wpAnyH_take (i := 2) (oi := _) (v := .slice none 0 0) rfl (by kernel_rfl) (by kernel_rfl) (by kernel_rfl) (fun _ _ _ h => h) (Or.inl ⟨by rfl, fun w _ => by go_simp⟩) hHeld ?_
  try simp only [Act.put, List.setIfInBounds_toArray, List.set_cons_zero, List.set_cons_succ]
  refine wpAnyH_take (i := 3) (oi := _) (v := .pointer (some ⟨w.heap.size, 1, none⟩)) rfl (by kernel_rfl) (by kernel_rfl) (by kernel_rfl) (fun _ _ _ h => h) (Or.inl ⟨by rfl, fun w _ => by go_simp⟩) hHeld ?_
  try simp only [Act.put, List.setIfInBounds_toArray, List.set_cons_zero, List.set_cons_succ]
  refine wpAnyH_take (i := 4) (oi := _) (v := .slice A n c) rfl (by kernel_rfl) (by kernel_rfl) (by kernel_rfl) (fun _ _ _ h => h) (Or.inl ⟨by rfl, fun w hS => by obtain ⟨s0, s1, s2⟩ := hS; go_simp⟩) hHeld ?_
  try simp only [Act.put, List.setIfInBounds_toArray, List.set_cons_zero, List.set_cons_succ]
  refine wpAnyH_take (i := 6) (oi := _) (v := .pointer (some ⟨w.heap.size + 1, 2, none⟩)) rfl (by kernel_rfl) (by kernel_rfl) (by kernel_rfl) (fun _ _ _ h => h) (Or.inl ⟨by rfl, fun w _ => by go_simp⟩) hHeld ?_
  try simp only [Act.put, List.setIfInBounds_toArray, List.set_cons_zero, List.set_cons_succ]
  refine wpAnyH_take (i := 7) (oi := _) (v := .string s) rfl (by kernel_rfl) (by kernel_rfl) (by kernel_rfl) (fun _ _ _ h => h) (Or.inl ⟨by rfl, fun w hS => by obtain ⟨s0, s1, s2⟩ := hS; go_simp⟩) hHeld ?_
  try simp only [Act.put, List.setIfInBounds_toArray, List.set_cons_zero, List.set_cons_succ]
  have HBd : Below w1.heap.size w1 w1.drew := (Below.refl _ _).drew
  have hLd := HLs.out _ HBd
  have hsd : w1.heap.size ≤ w1.drew.heap.size := Nat.le_refl _
  generalize w1.drew = W at *
  refine wpAnyH_ready (rs := [5, 8]) (by kernel_rfl) (by simp) ?_
  refine AllReadyH.cons (o := _) rfl (fun K hK => ?_) (AllReadyH.cons (o := _) rfl (fun K hK => ?_) AllReadyH.nil)
  · refine step_append_rows6 rfl (.tmp 14) (.tmp 16) 27 rfl w1.heap.size 9 i0 (.string ByteArray.empty) 1 16 Tryz.underlying27 hi0 hz0 hz1 hz2 rfl (by decide) (.slice none 0 0) 0 [] rfl (World.ownsRow_nil _ _ _ _) A n c (rs.map secV) rfl (by rw [List.length_map, hrs, Nat.mul_one]) W.heap.size hLd hz (secV_one _) (by unfold maxLen; omega) (by omega) (by omega) ?_
    intro v5 w5 ho5 hg5
    rw [Nat.zero_add, List.nil_append] at ho5
    obtain ⟨A5, c5, rfl, _, _⟩ := own_lies ho5
    have HB5 : Below w1.heap.size w1 w5 := HBd.grown hg5 (by omega) (fun k hk => by simp [Value.ownBlock] at hk)
    have hsz5 := HB5.size
    refine hK.out _ _ (HSee.out _ HB5) (fun hHeld2 => ?_)
    clear hK K
    try simp only [Nat.zero_add]
    try simp only [Act.put, List.setIfInBounds_toArray, List.set_cons_zero, List.set_cons_succ]
    refine wpAnyH_ready (rs := [8]) (by kernel_rfl) (by simp) ?_
    refine AllReadyH.cons (o := _) rfl (fun K hK => ?_) AllReadyH.nil
    rw [if_pos (by rfl)]
    go_simp
    have HBV : Below w1.heap.size w1 (w5.alloc (.cells #[.string s] 9)) := HB5.alloc hsz5 _
    have HOV : (w5.alloc (.cells #[.string s] 9)).ownsRow w1.heap.size 9 1 (.slice A5 n c5) n (rs.map secV) := ho5.alloc _
    have hnewV : ∀ j u, ([.string s] : List Value)[j]? = some u → (w5.alloc (.cells #[.string s] 9)).cell? ((⟨w5.heap.size, 0, none⟩ : Addr).add j) = some u := World.news_of_block (cs := #[.string s]) (t := 9) (fr := (0, 0)) (heap_alloc_new w5 _)
    refine hK.out _ _ (HSee.out _ HBV) (fun hHeld3 => ?_)
    clear hK K
    try simp only [Act.put, List.setIfInBounds_toArray, List.set_cons_zero, List.set_cons_succ]
    generalize w5.alloc (.cells #[.string s] 9) = V at *
    generalize w5.heap.size = q at *
    have hszV := HBV.size
    refine wpAnyH_ready (rs := [9]) (by kernel_rfl) (by simp) ?_
    refine AllReadyH.cons (o := _) rfl (fun K hK => ?_) AllReadyH.nil
    refine step_append_lies _ (by rfl) _ _ _ (by rfl) w1.heap.size 9 i0 (.string ByteArray.empty) 1 16 Tryz.underlying27 hi0 hz0 hz1 hz2 rfl (by decide) (.slice A5 n c5) n (rs.map secV) (by rfl) HOV ⟨q, 0, none⟩ 1 1 [.string s] (by rfl) (by rfl) hnewV (by simp [Value.oneCell']) (by omega) (by unfold maxLen; omega) (by omega) hszV V.heap.size rfl ?_
    intro g cap w7 hown hg hat hlt
    have HB7 : Below w1.heap.size w1 w7 := HBV.grown hg hszV (fun k hk => (HOV.lt k hk).1)
    refine hK.out _ _ (HSee.out _ HB7) (fun hHeld4 => ?_)
    clear hK K
    try simp only [Act.put, List.setIfInBounds_toArray, List.set_cons_zero, List.set_cons_succ]
    refine wpAnyH_take (i := 10) (oi := _) (v := .agg #[.string st, .slice (some ⟨g, 0, none⟩) (n + 1) cap]) rfl (by kernel_rfl) (by kernel_rfl) (by kernel_rfl) (fun _ _ _ h => h) (Or.inl ⟨by rfl, fun w _ => by go_simp⟩) hHeld4 ?_
    try simp only [Act.put, List.setIfInBounds_toArray, List.set_cons_zero, List.set_cons_succ]
    have hz7 := HZ.out _ HB7
    have z0 : w7.cell? ⟨w.heap.size + 1 + 1, 0, none⟩ = some (.string ⟨#[]⟩) := by rw [Lib.cell_of_heap hz7]; rfl
    have z1 : w7.cell? ⟨w.heap.size + 1 + 1, 1, none⟩ = some (.slice none 0 0) := by rw [Lib.cell_of_heap hz7]; rfl
    have zf : ∀ j, w7.frozen? ⟨w.heap.size + 1 + 1, j, none⟩ = false := fun j => Lib.frozen_of_heap hz7 j
    refine wpAnyH_ready (rs := [11]) (by kernel_rfl) (by simp) ?_
    refine AllReadyH.cons (o := _) rfl (fun K hK => ?_) AllReadyH.nil
    rw [if_pos (by rfl)]
    go_simp
    refine hK.out _ _ (KSee_set (HSee.out _ HB7) _ _) (fun hHeld5 => ?_)
    clear hK K
    try simp only [Act.put, List.setIfInBounds_toArray, List.set_cons_zero, List.set_cons_succ]
    refine wpAnyH_done (by kernel_rfl) ?_ _
    go_wp2_with fail
    (try simp only [Exit.inBlock, Exit.then])
    have HR := row_set (row_set hz7 0 (.string st)) 1 (.slice (some ⟨g, 0, none⟩) (n + 1) cap)
    refine bodyPost_ret (v := .agg #[.string st, .slice (some ⟨g, 0, none⟩) (n + 1) cap]) (results_cell_row rfl _ _ (w.heap.size + 1 + 1) 70 #[.string st, .slice (some ⟨g, 0, none⟩) (n + 1) cap] (0, 0) _ rfl HR kept_desc rfl (by kernel_rfl)) rfl ?_
    exact behEnd_of rfl hrs HB.out hlt1 HB7 hown
  · rw [if_pos (by rfl)]
    go_simp
    have HB5 : Below w1.heap.size w1 (W.alloc (.cells #[.string s] 9)) := HBd.alloc (by omega) _
    have hnew5 := heap_alloc_new W (.cells #[.string s] 9)
    have hl5 : Lies (W.alloc (.cells #[.string s] 9)) W.heap.size A (rs.map secV) := hLd.below ((Below.refl _ _).alloc (Nat.le_refl _) _)
    have hq5 : W.heap.size < (W.alloc (.cells #[.string s] 9)).heap.size := by simp
    refine hK.out _ _ (HSee.out _ HB5) (fun hHeld2 => ?_)
    clear hK K
    try simp only [Act.put, List.setIfInBounds_toArray, List.set_cons_zero, List.set_cons_succ]
    generalize W.alloc (.cells #[.string s] 9) = w5 at *
    generalize W.heap.size = q at *
    have hsz5 := HB5.size
    refine wpAnyH_ready (rs := [5]) (by kernel_rfl) (by simp) ?_
    refine AllReadyH.cons (o := _) rfl (fun K hK => ?_) AllReadyH.nil
    refine step_append_rows6 rfl (.tmp 14) (.tmp 16) 27 rfl w1.heap.size 9 i0 (.string ByteArray.empty) 1 16 Tryz.underlying27 hi0 hz0 hz1 hz2 rfl (by decide) (.slice none 0 0) 0 [] rfl (World.ownsRow_nil _ _ _ _) A n c (rs.map secV) rfl (by rw [List.length_map, hrs, Nat.mul_one]) q hl5 hz (secV_one _) (by unfold maxLen; omega) (by omega) hsz5 ?_
    intro v5 V ho5 hg5
    rw [Nat.zero_add, List.nil_append] at ho5
    obtain ⟨A5, c5, rfl, _, _⟩ := own_lies ho5
    have HBV : Below w1.heap.size w1 V := HB5.grown hg5 hsz5 (fun k hk => by simp [Value.ownBlock] at hk)
    have HOV := ho5
    have hnewV : ∀ j u, ([.string s] : List Value)[j]? = some u → V.cell? ((⟨q, 0, none⟩ : Addr).add j) = some u := World.news_of_block (cs := #[.string s]) (t := 9) (fr := (0, 0)) ((hg5.block q hq5 (fun e => by simp [Value.ownBlock] at e)).trans hnew5)
    refine hK.out _ _ (HSee.out _ HBV) (fun hHeld3 => ?_)
    clear hK K
    try simp only [Nat.zero_add]
    try simp only [Act.put, List.setIfInBounds_toArray, List.set_cons_zero, List.set_cons_succ]
    have hszV := HBV.size
    refine wpAnyH_ready (rs := [9]) (by kernel_rfl) (by simp) ?_
    refine AllReadyH.cons (o := _) rfl (fun K hK => ?_) AllReadyH.nil
    refine step_append_lies _ (by rfl) _ _ _ (by rfl) w1.heap.size 9 i0 (.string ByteArray.empty) 1 16 Tryz.underlying27 hi0 hz0 hz1 hz2 rfl (by decide) (.slice A5 n c5) n (rs.map secV) (by rfl) HOV ⟨q, 0, none⟩ 1 1 [.string s] (by rfl) (by rfl) hnewV (by simp [Value.oneCell']) (by omega) (by unfold maxLen; omega) (by omega) hszV V.heap.size rfl ?_
    intro g cap w7 hown hg hat hlt
    have HB7 : Below w1.heap.size w1 w7 := HBV.grown hg hszV (fun k hk => (HOV.lt k hk).1)
    refine hK.out _ _ (HSee.out _ HB7) (fun hHeld4 => ?_)
    clear hK K
    try simp only [Act.put, List.setIfInBounds_toArray, List.set_cons_zero, List.set_cons_succ]
    refine wpAnyH_take (i := 10) (oi := _) (v := .agg #[.string st, .slice (some ⟨g, 0, none⟩) (n + 1) cap]) rfl (by kernel_rfl) (by kernel_rfl) (by kernel_rfl) (fun _ _ _ h => h) (Or.inl ⟨by rfl, fun w _ => by go_simp⟩) hHeld4 ?_
    try simp only [Act.put, List.setIfInBounds_toArray, List.set_cons_zero, List.set_cons_succ]
    have hz7 := HZ.out _ HB7
    have z0 : w7.cell? ⟨w.heap.size + 1 + 1, 0, none⟩ = some (.string ⟨#[]⟩) := by rw [Lib.cell_of_heap hz7]; rfl
    have z1 : w7.cell? ⟨w.heap.size + 1 + 1, 1, none⟩ = some (.slice none 0 0) := by rw [Lib.cell_of_heap hz7]; rfl
    have zf : ∀ j, w7.frozen? ⟨w.heap.size + 1 + 1, j, none⟩ = false := fun j => Lib.frozen_of_heap hz7 j
    refine wpAnyH_ready (rs := [11]) (by kernel_rfl) (by simp) ?_
    refine AllReadyH.cons (o := _) rfl (fun K hK => ?_) AllReadyH.nil
    rw [if_pos (by rfl)]
    go_simp
    refine hK.out _ _ (KSee_set (HSee.out _ HB7) _ _) (fun hHeld5 => ?_)
    clear hK K
    try simp only [Act.put, List.setIfInBounds_toArray, List.set_cons_zero, List.set_cons_succ]
    refine wpAnyH_done (by kernel_rfl) ?_ _
    go_wp2_with fail
    (try simp only [Exit.inBlock, Exit.then])
    have HR := row_set (row_set hz7 0 (.string st)) 1 (.slice (some ⟨g, 0, none⟩) (n + 1) cap)
    refine bodyPost_ret (v := .agg #[.string st, .slice (some ⟨g, 0, none⟩) (n + 1) cap]) (results_cell_row rfl _ _ (w.heap.size + 1 + 1) 70 #[.string st, .slice (some ⟨g, 0, none⟩) (n + 1) cap] (0, 0) _ rfl HR kept_desc rfl (by kernel_rfl)) rfl ?_
    exact behEnd_of rfl hrs HB.out hlt1 HB7 hown
end Go.Proofs.YtgnijpjdkipaaaaGreatDoor

namespace Go.Proofs.YtgnijpjdkipaaaaGreatDoor
open Go.RowKit

/-- A log on its disk: the power is on and all stands firm, or it has gone in the midst of a call. -/
def LiveSt (ct : Bool) (d : DSt) (slot a : Nat) (v : WalV) (st1 : List UInt8) (rs1 : List (List UInt8)) (st2 : List UInt8) (rs2 : List (List UInt8)) : Prop :=
  if ct = true then CutSt d slot a v st1 rs1 st2 rs2 else KeepSt d slot a v st1 rs1
section
variable {ct : Bool} {d : DSt} {slot a : Nat} {v : WalV} {st1 st2 : List UInt8} {rs1 rs2 : List (List UInt8)}
theorem CutSt.downed (h : CutSt d slot a v st1 rs1 st2 rs2) : LiveSt true d slot a { v with down := true } st1 rs1 st2 rs2 := by
  show CutSt d slot a { v with down := true } st1 rs1 st2 rs2
  exact CutSt.mk h.off rfl h.disk h.loose h.opens
theorem LiveSt.cut (h : LiveSt true d slot a v st1 rs1 st2 rs2) : CutSt d slot a v st1 rs1 st2 rs2 := h
theorem LiveSt.on (h : LiveSt false d slot a v st1 rs1 st2 rs2) : KeepSt d slot a v st1 rs1 := h
theorem LiveSt.disk (h : LiveSt ct d slot a v st1 rs1 st2 rs2) : v.disk = a := by
  cases ct with
  | true => exact h.cut.disk
  | false => exact h.on.found.disk
theorem LiveSt.loose (h : LiveSt ct d slot a v st1 rs1 st2 rs2) : d.loose.length ≤ 100000 := by
  cases ct with
  | true => exact h.cut.loose
  | false => rw [h.on.loose]; simp
theorem LiveSt.arm (h : LiveSt ct d slot a v st1 rs1 st2 rs2) (n : Int) : LiveSt ct (d.armD n) slot a v st1 rs1 st2 rs2 := by
  cases ct with
  | true => exact h.cut.arm n
  | false => exact h.on.arm n
theorem LiveSt.crash (h : LiveSt ct d slot a v st1 rs1 st2 rs2) (keep : List Bool) : ∃ st rs v', KeepSt (d.crashD keep) slot a v' st rs ∧ ((st = st1 ∧ rs = rs1) ∨ (ct = true ∧ st = st2 ∧ rs = rs2)) := by
  cases ct with
  | true =>
    rcases h.cut.opens keep with e | e
    · obtain ⟨v', hv⟩ := KeepSt.of_opens e
      exact ⟨st1, rs1, v', hv, .inl ⟨rfl, rfl⟩⟩
    · obtain ⟨v', hv⟩ := KeepSt.of_opens e
      exact ⟨st2, rs2, v', hv, .inr ⟨rfl, rfl, rfl⟩⟩
  | false =>
    obtain ⟨v', hv⟩ := KeepSt.of_opens (h.on.crash keep)
    exact ⟨st1, rs1, v', hv, .inl ⟨rfl, rfl⟩⟩
end
section
variable {w wr : World} {F : Nat → Prop} {b g1 g2 q a slot : Nat} {O : Array Value} {v v' : WalV} {d : DSt} {st1 st2 st : List UInt8} {rs1 rs2 rs : List (List UInt8)} {A1 A2 : Option Addr} {c1 c2 : Nat} {keep : List Bool}
theorem RoundAt.cells {xk xn : Int} {S : ByteArray} {xA : Option Addr} {xl xc : Nat} (h : RoundAt w wr F b g1 g2 q #[.int .i64 xk, .int .i64 xn, .string S, .slice xA xl xc] v d st1 rs1 A1 c1 st2 rs2 A2 c2) :
    wr.cell? ⟨q, 0, none⟩ = some (.int .i64 xk) ∧ wr.cell? ⟨q, 1, none⟩ = some (.int .i64 xn) ∧ wr.cell? ⟨q, 2, none⟩ = some (.string S) ∧ wr.cell? ⟨q, 3, none⟩ = some (.slice xA xl xc) ∧
    wr.cell? ⟨g1, 0, none⟩ = some (.string (str st1)) ∧ wr.cell? ⟨g1, 1, none⟩ = some (.slice A1 rs1.length c1) ∧ (∀ j, wr.frozen? ⟨g1, j, none⟩ = false) ∧
    wr.cell? ⟨g2, 0, none⟩ = some (.string (str st2)) ∧ wr.cell? ⟨g2, 1, none⟩ = some (.slice A2 rs2.length c2) ∧ (∀ j, wr.frozen? ⟨g2, j, none⟩ = false) := by
  have h1 := h.act
  have h2 := h.keep.k1.cell
  have h3 := h.keep.k2.cell
  refine ⟨?_, ?_, ?_, ?_, ?_, ?_, fun j => Lib.frozen_of_heap h2 j, ?_, ?_, fun j => Lib.frozen_of_heap h3 j⟩
  · rw [Lib.cell_of_heap h1]; rfl
  · rw [Lib.cell_of_heap h1]; rfl
  · rw [Lib.cell_of_heap h1]; rfl
  · rw [Lib.cell_of_heap h1]; rfl
  · rw [Lib.cell_of_heap h2]; rfl
  · rw [Lib.cell_of_heap h2]; rfl
  · rw [Lib.cell_of_heap h3]; rfl
  · rw [Lib.cell_of_heap h3]; rfl
/-- The log is opened anew behind a crash. -/
theorem open_round (h : RoundAt w wr F b g1 g2 q O v (d.crashD keep) st1 rs1 A1 c1 st2 rs2 A2 c2) (hv : v.disk = a) (hs : KeepSt (d.crashD keep) slot a v' st rs) :
    Calls Tryz.prog 12 #[.pointer (some ⟨a, 0, none⟩), .int .i64 slot] wr fun e w' => ∃ b' A c, e = .returned (.tuple #[.pointer (some ⟨b', 0, none⟩), .string (str st), .slice A rs.length c, .nilIface]) ∧ (A = none → c = 0) ∧ RoundAt w w' F b' g1 g2 q O v' (d.crashD keep) st1 rs1 A1 c1 st2 rs2 A2 c2 ∧ Aside w' (Own4 F b' g1 g2) A (rs.map secV) ∧ Below wr.heap.size wr w' := by
  have hD := h.keep.log.disk
  rw [hv] at hD
  refine (Open_st hD (hs.log rfl)).mono ?_
  rintro e w' ⟨b', A, c, he, hl, ⟨hz, hf⟩, hL, hb, hle⟩
  obtain ⟨k1, k2⟩ := h.opened hL hb hle hl hf
  exact ⟨b', A, c, he, hz, k1, k2, hb⟩
theorem RoundAt.aside {A : Option Addr} {w' : World} (h : RoundAt w wr F b g1 g2 q O v d st1 rs1 A1 c1 st2 rs2 A2 c2) (hl : Lies w' w'.heap.size A (rs.map secV)) (hf : ∀ p, A = some p → wr.heap.size ≤ p.block) : Aside w' (Own4 F b g1 g2) A (rs.map secV) := by
  have q1 := heap_lt h.keep.k1.cell
  have q2 := heap_lt h.keep.k2.cell
  have q3 := heap_lt h.keep.log.wal
  refine Aside.of hl (fun p hp hg => ?_)
  have := hf p hp
  rcases hg with e | e | e | e
  · have := h.keep.log.disk.low _ e; omega
  · omega
  · omega
  · omega
theorem secV_more (rs : List (List UInt8)) (L : List UInt8) : rs.map secV ++ [.string (str L)] = (rs ++ [L]).map secV := by rw [List.map_append]; rfl
/-- What must be there behind the call. -/
def nextS (kq : Nat) (st : List UInt8) (L : List UInt8) : List UInt8 := if kq = 3 then L else st
def nextR (kq : Nat) (rs : List (List UInt8)) (L : List UInt8) : List (List UInt8) := if kq = 3 then [] else rs ++ [L]
theorem nextR_le {kq k : Nat} {rs : List (List UInt8)} {L : List UInt8} (h : rs.length ≤ k) : (nextR kq rs L).length ≤ k + 1 := by
  unfold nextR
  split
  · simp
  · rw [List.length_append]; simp; omega
theorem behind_round {xk xn : Int} {L : List UInt8} {xA : Option Addr} {xl xc kq : Nat} (h : RoundAt w wr F b g1 g2 q #[.int .i64 xk, .int .i64 xn, .string (str L), .slice xA xl xc] v d st1 rs1 A1 c1 st2 rs2 A2 c2) (hn : rs1.length ≤ 1000)
    (HK : Hid (∀ w', Calls Tryz.prog 16 #[.agg #[.int .i64 xk, .int .i64 xn, .string (str L), .slice xA xl xc]] w' fun e w'' => e = .returned (.int .i64 kq) ∧ Below w'.heap.size w' w'')) :
    Calls Tryz.prog 41 #[.agg #[.string (str st1), .slice A1 rs1.length c1], .agg #[.int .i64 xk, .int .i64 xn, .string (str L), .slice xA xl xc]] wr fun e w' => ∃ A c, e = .returned (.agg #[.string (str (nextS kq st1 L)), .slice A (nextR kq rs1 L).length c]) ∧ (A = none → c = 0) ∧ RoundAt w w' F b g1 g2 q #[.int .i64 xk, .int .i64 xn, .string (str L), .slice xA xl xc] v d st1 rs1 A1 c1 st2 rs2 A2 c2 ∧ Aside w' (Own4 F b g1 g2) A ((nextR kq rs1 L).map secV) := by
  by_cases hk : kq = 3
  · refine (behind_ck _ _ _ _ _ _ _ _ _ _ kq hk HK).mono ?_
    rintro e w' ⟨he, hb⟩
    unfold nextS nextR
    rw [if_pos hk, if_pos hk]
    exact ⟨none, 0, he, fun _ => rfl, h.later hb, .inl rfl⟩
  · refine (behind_add _ _ _ _ _ _ _ _ _ _ kq hk rs1 rfl hn h.keep.k1.nilc h.keep.k1.row.lies HK).mono ?_
    rintro e w' ⟨A, c, he, hl, hz, hf, hb⟩
    rw [secV_more] at he hl
    unfold nextS nextR
    rw [if_neg hk, if_neg hk]
    rw [List.length_map] at he
    exact ⟨A, c, he, hz, h.later hb, h.aside hl hf⟩
end

set_option maxHeartbeats 16000000 in
set_option maxRecDepth 100000 in
theorem WalKeeps_walk {w : World} {A : Option Addr} {c : Nat} {l : List Act6} (x y : Int) (h : ActsAt w w.heap.size A l) (ho : ∀ x ∈ l, Act6Ok w x) (hg : ErrCell w) :
    Calls Tryz.prog 5 #[.int .i64 x, .int .i64 y, .slice A l.length c] w fun e w' => e = .returned (.bool true) ∧ Below w.heap.size w w' := by
  have HV := Lib.hid h
  have HG := Lib.hid hg
  have HOk := Lib.hid ho
  obtain ⟨hs1, hs2⟩ := szS_lt x
  obtain ⟨hm1, hm2⟩ := szM_lt y
  have HSz : Hid (Calls Tryz.prog 9 #[.int .i64 x, .int .i64 y] w fun e w' => e = .returned (.tuple #[.int .i64 (szS x), .int .i64 (szM y)]) ∧ w = w') := Lib.hid (sizes_any x y w)
  generalize szS x = s at *
  generalize szM y = m at *
  obtain ⟨n, hn⟩ : ∃ n, 2 * s + m = n := ⟨_, rfl⟩
  have hn4 : n ≤ 4096 := by omega
  have hnI : 2 * (s : Int) + (m : Int) = (n : Int) := by omega
  have HNew : Hid (Calls Tryz.prog 10 #[.int .i64 (2 * (s : Int) + (m : Int))] w (NewEnd n w)) := Lib.hid (by rw [hnI]; exact New_ok n w (by omega) hn4)
  have HNs : Hid (∀ a, LogSt (DSt.new n) s a ⟨a, s, 0, 1, 0, 0, false⟩ [] [] ∧ (DSt.new n).seen.length = n) := Lib.hid (fun a => by
    have := new_st s m a hs1 hm1 (by omega)
    rw [hn] at this
    exact this)
  obtain ⟨ln, hln⟩ : ∃ ln, l.length = ln := ⟨_, rfl⟩
  have HLn := Lib.hid hln
  have HFew : Hid (∀ w1 c, Below w.heap.size w w1 → Calls Tryz.prog 15 #[.slice A ln c, .int .i64 40] w1 (FewEnd l 40 w1)) := Lib.hid (fun w1 c hb => by
    rw [← hln]
    have hv := HV.out
    have : ActsAt w1 w1.heap.size A l := by
      rcases hv with e | ⟨b, off, hA, hlt, hc⟩
      · exact .inl e
      · refine .inr ⟨b, off, hA, Nat.lt_of_lt_of_le hlt hb.size, fun i hi => ?_⟩
        obtain ⟨h0, h1, h2, h3⟩ := hc i hi
        exact ⟨(hb.cell (p := ⟨b, off + i * 4, none⟩) hlt).trans h0, (hb.cell (p := ⟨b, off + i * 4 + 1, none⟩) hlt).trans h1, (hb.cell (p := ⟨b, off + i * 4 + 2, none⟩) hlt).trans h2, (hb.cell (p := ⟨b, off + i * 4 + 3, none⟩) hlt).trans h3⟩
    exact few_any this 40 (by omega))
  rw [hln]
  clear h hn hnI hln ho hg
  go_enter Tryz.func5, Tryz.ntmps5
  go_wp2_with fail
  refine HSz.out.mono ?_
  rintro e w' ⟨rfl, rfl⟩
  go_wp2_with fail
  refine HNew.out.mono ?_
  rintro e w1 ⟨a, F, rfl, hd, hF, hb1⟩
  have HD := Lib.hid hd
  have HFl := Lib.hid hF
  have HB1 := Lib.hid hb1
  clear hd hF hb1 HNew HSz
  go_wp2_with fail
  refine (Open_st HD.out (HNs.out a).1).mono ?_
  rintro e w2 ⟨b, A2, c2, rfl, _, _, hL2, hb2, hw2⟩
  simp only [List.length_nil]
  have HK0 : Hid (∀ w', Below ((w2.alloc (.cells #[.string ⟨#[]⟩, .slice none 0 0] 70)).alloc (.cells #[.string ⟨#[]⟩, .slice none 0 0] 70)).heap.size ((w2.alloc (.cells #[.string ⟨#[]⟩, .slice none 0 0] 70)).alloc (.cells #[.string ⟨#[]⟩, .slice none 0 0] 70)) w' → KeepAt w w' F b w2.heap.size (w2.heap.size + 1) ⟨a, s, 0, 1, 0, 0, false⟩ (DSt.new n) [] [] none 0 [] [] none 0) := Lib.hid (fun w' hb' => by
    have k1 := HB1.out.size
    have k2 := hb2.size
    have k5 := heap_lt hL2.wal
    have hsz : ((w2.alloc (.cells #[.string ⟨#[]⟩, .slice none 0 0] 70)).alloc (.cells #[.string ⟨#[]⟩, .slice none 0 0] 70)).heap.size = w2.heap.size + 1 + 1 := by simp
    have hb3 : Below w2.heap.size w2 w' := ((((Below.refl _ _).alloc (Nat.le_refl _) _).alloc (by simp) _)).trans (hb'.mono (by rw [hsz]; omega))
    rw [hsz] at hb'
    have hlow : ∀ j, F j → j < w2.heap.size := fun j hj => hL2.disk.low j hj
    have e0 : str ([] : List UInt8) = ⟨#[]⟩ := rfl
    refine ⟨hL2.later hb3, fun hf => by have := HD.out.low _ hf; omega, HFl.out, by omega, by omega, ⟨by omega, fun hf => by have := hlow _ hf; omega, by omega, ?_, .inl rfl, fun _ => rfl⟩, ⟨by omega, fun hf => by have := hlow _ hf; omega, by omega, ?_, .inl rfl, fun _ => rfl⟩,
      HB1.out.trans ((hb2.mono k1).trans (hb3.mono (by omega)))⟩
    · rw [e0, hb'.block _ (by omega), Below.heap_alloc _ _ _ (by simp)]
      exact heap_alloc_new _ _
    · rw [e0, hb'.block _ (by omega)]
      have := heap_alloc_new (w2.alloc (.cells #[.string ⟨#[]⟩, .slice none 0 0] 70)) (.cells #[.string ⟨#[]⟩, .slice none 0 0] 70)
      simpa using this)
  have HB12 : Hid (Below w.heap.size w w2) := Lib.hid (HB1.out.trans (hb2.mono HB1.out.size))
  clear hL2 hb2 hw2 HD HFl HB1
  go_wp2_with fail
  refine (HFew.out _ _ ?hfb).mono ?_
  case hfb => exact (HK0.out _ (Below.refl _ _)).bel
  rintro e w' ⟨nn, rfl, hnl, hn40, hfw, rfl⟩
  have HFw := Lib.hid hfw
  rw [show l.length = ln from HLn.out] at hnl
  have HKA := Lib.hid (HK0.out _ (Below.refl _ _))
  clear hfw HFew HK0 HB12
  generalize (w2.alloc (.cells #[.string ⟨#[]⟩, .slice none 0 0] 70)).alloc (.cells #[.string ⟨#[]⟩, .slice none 0 0] 70) = w3 at *
  obtain ⟨g1, hg1⟩ : ∃ g, w2.heap.size = g := ⟨_, rfl⟩
  rw [hg1] at HKA ⊢
  obtain ⟨g2, hg2⟩ : ∃ g, g1 + 1 = g := ⟨_, rfl⟩
  rw [hg2] at HKA
  rw [hg2]
  clear hg1 hg2
  go_wp2_with fail
  go_loopg [10, 16, 18] nn (fun kx s10 s16 s18 wr => ∃ (k b : Nat) (d : DSt) (v : WalV) (F : Nat → Prop) (st1 : List UInt8) (rs1 : List (List UInt8)) (A1 : Option Addr) (c1 : Nat) (st2 : List UInt8) (rs2 : List (List UInt8)) (A2 : Option Addr) (c2 : Nat) (ct : Bool), s10 = .pointer (some ⟨b, 0, none⟩) ∧ s16 = .bool ct ∧ s18 = .int .i64 k ∧ k ≤ nn ∧ nn - k ≤ kx ∧ rs1.length ≤ k ∧ rs2.length ≤ k ∧ Hid (LiveSt ct d s a v st1 rs1 st2 rs2) ∧ Hid (KeepAt w wr F b g1 g2 v d st1 rs1 A1 c1 st2 rs2 A2 c2))
  case atStart => exact ⟨0, b, DSt.new n, ⟨a, s, 0, 1, 0, 0, false⟩, F, [], [], none, 0, [], [], none, 0, false, rfl, rfl, rfl, Nat.zero_le _, by omega, Nat.zero_le _, Nat.zero_le _, Lib.hid (KeepSt.of_log (HNs.out a).1 rfl), HKA⟩
  case round =>
    clear HKA
    obtain ⟨k, b, d, v, F, st1, rs1, A1, c1, st2, rs2, A2, c2, ct, rfl, rfl, rfl, hk, hkx, hr1, hr2, HLv, HKp⟩ := hrel
    by_cases hlt : k < nn
    · have hltz : (k : Int) < (nn : Int) := by omega
      have hkl : k < l.length := by rw [HLn.out]; omega
      obtain ⟨bb, off, hA, hbl, x0, x1, x2, x3⟩ := HV.out.at_ HKp.out.bel hkl
      have hX6 := (HFw.out k hkl hlt).1
      have hXok := HOk.out _ (List.getElem_mem hkl)
      subst hA
      generalize l[k] = X at x0 x1 x2 x3 hX6 hXok
      obtain ⟨xk, xn, xs, xA, xc, xb⟩ := X
      simp only at x0 x1 x2 x3 hX6
      obtain ⟨L, rfl⟩ : ∃ L, xs = str L := ⟨xs.data.toList, (str_of xs).symm⟩
      rw [str_size] at hX6
      have hL5 : L.length ≤ 100000 := by omega
      have HXk := Lib.hid hXok.keep
      have hxn1 : -9223372036854775808 ≤ xn := hXok.n1
      have hxn2 : xn ≤ 9223372036854775807 := hXok.n2
      have hxl : xb.length ≤ 9223372036854775807 := hXok.len
      have HKd : Hid (∀ w', Calls Tryz.prog 16 #[.agg #[.int .i64 xk, .int .i64 xn, .string (str L), .slice xA xb.length xc]] w' fun e w'' => e = .returned (.int .i64 (kind6 xk : Nat)) ∧ Below w'.heap.size w' w'') := Lib.hid (fun w' => kind6_any ⟨xk, xn, str L, xA, xc, xb⟩ w')
      have hk0 : (0 : Int) ≤ (k : Int) := Int.natCast_nonneg _
      have hkn : (k : Int) < (ln : Int) := by have := HLn.out; omega
      obtain ⟨S, hS⟩ : ∃ S, str L = S := ⟨_, rfl⟩
      have HS := Lib.hid hS
      rw [hS] at x2 HKd
      generalize kind6 xk = kq at *
      clear hS hXok
      go_wp2_with fail
      refine (HKd.out _).mono ?_
      rintro e wB ⟨rfl, hbB⟩
      have HR := Lib.hid (HKp.out.round hbB)
      generalize wr.heap.size = q at *
      clear hbB x0 x1 x2 x3 HKp
      obtain ⟨y0, y1, y2, y3, m0, m1, mf, p0, p1, pf⟩ := HR.out.cells
      by_cases hq4 : kq = 4
      · have hq4z : (kq : Int) = 4 := by omega
        have HAr : Hid (Calls Tryz.prog 20 #[.pointer (some ⟨a, 0, none⟩), .int .i64 xn] wB fun e w' => e = .returned (.tuple #[]) ∧ ∃ F', RoundAt w w' F' b g1 g2 q #[.int .i64 xk, .int .i64 xn, .string S, .slice xA xb.length xc] v (d.armD xn) st1 rs1 A1 c1 st2 rs2 A2 c2) := Lib.hid (by
          have hD := HR.out.keep.log.disk
          rw [HLv.out.disk] at hD
          refine (Arm_any hD xn hxn1 hxn2).mono ?_
          intro e w' he
          exact ⟨he.1, HR.out.disk HLv.out.disk rfl he⟩)
        go_wp2_with fail
        refine HAr.out.mono ?_
        rintro e wC ⟨rfl, F', hR'⟩
        have HLv' := Lib.hid (HLv.out.arm xn)
        have HKp' := Lib.hid hR'.keep
        clear hR' HAr y0 y1 y2 y3 m0 m1 mf p0 p1 pf
        go_wp2_with fail
        go_roundg (nn - (k + 1))
        case measure => omega
        case rel => exact ⟨k + 1, b, d.armD xn, v, F', st1, rs1, A1, c1, st2, rs2, A2, c2, ct, rfl, rfl, by go_num, by omega, Nat.le_refl _, by omega, by omega, HLv', HKp'⟩
      · have hq4z : ¬ (kq : Int) = 4 := by omega
        by_cases hq56 : kq = 5 ∨ kq = 6
        · obtain ⟨st, rs, v', hks, hor⟩ := HLv.out.crash xb
          have HKs := Lib.hid hks
          have HCr : Hid (Calls Tryz.prog 22 #[.pointer (some ⟨a, 0, none⟩), .slice xA xb.length xc] wB fun e w' => e = .returned (.tuple #[]) ∧ ∃ F', RoundAt w w' F' b g1 g2 q #[.int .i64 xk, .int .i64 xn, .string S, .slice xA xb.length xc] v (d.crashD xb) st1 rs1 A1 c1 st2 rs2 A2 c2) := Lib.hid (by
            have hD := HR.out.keep.log.disk
            rw [HLv.out.disk] at hD
            refine (Crash_any hD (by have := HLv.out.loose; omega) (HXk.out.is HR.out.keep.bel HR.out.keep.low) rfl hxl).mono ?_
            intro e w' he
            refine ⟨he.1, HR.out.disk HLv.out.disk ?_ he⟩
            show (d.crashF xb).length = _
            rw [DSt.crashF_length, hD.1.len])
          have HOp : Hid (∀ w5 F', RoundAt w w5 F' b g1 g2 q #[.int .i64 xk, .int .i64 xn, .string S, .slice xA xb.length xc] v (d.crashD xb) st1 rs1 A1 c1 st2 rs2 A2 c2 → Calls Tryz.prog 12 #[.pointer (some ⟨a, 0, none⟩), .int .i64 s] w5 fun e w' => ∃ b' A c, e = .returned (.tuple #[.pointer (some ⟨b', 0, none⟩), .string (str st), .slice A rs.length c, .nilIface]) ∧ (A = none → c = 0) ∧ RoundAt w w' F' b' g1 g2 q #[.int .i64 xk, .int .i64 xn, .string S, .slice xA xb.length xc] v' (d.crashD xb) st1 rs1 A1 c1 st2 rs2 A2 c2 ∧ Aside w' (Own4 F' b' g1 g2) A (rs.map secV) ∧ Below w5.heap.size w5 w') := Lib.hid (fun w5 F' h5 => open_round h5 HLv.out.disk HKs.out)
          have HOp2 : Hid (∀ w5 F' b', RoundAt w w5 F' b' g1 g2 q #[.int .i64 xk, .int .i64 xn, .string S, .slice xA xb.length xc] v' (d.crashD xb) st1 rs1 A1 c1 st2 rs2 A2 c2 → Calls Tryz.prog 12 #[.pointer (some ⟨a, 0, none⟩), .int .i64 s] w5 fun e w' => ∃ b' A c, e = .returned (.tuple #[.pointer (some ⟨b', 0, none⟩), .string (str st), .slice A rs.length c, .nilIface]) ∧ Lies w' w'.heap.size A (rs.map secV) ∧ Below w5.heap.size w5 w') := Lib.hid (fun w5 F' b' h5 => (open_round h5 HKs.out.found.disk HKs.out).mono (fun e w' ⟨b', A, c, he, _, _, h1, h2⟩ => ⟨b', A, c, he, h1.lies, h2⟩))
          have hrk : rs.length ≤ k := by
            rcases hor with ⟨_, e⟩ | ⟨_, _, e⟩
            · rw [e]; exact hr1
            · rw [e]; exact hr2
          obtain ⟨x1, hx1⟩ : ∃ x1, sameK st1 st rs1 rs = x1 := ⟨_, rfl⟩
          have HSm : Hid (∀ w' A' c', Lies w' w'.heap.size A1 (rs1.map secV) → Lies w' w'.heap.size A' (rs.map secV) → Calls Tryz.prog 39 #[.agg #[.string (str st1), .slice A1 rs1.length c1], .string (str st), .slice A' rs.length c'] w' fun e w'' => e = .returned (.bool x1) ∧ Below w'.heap.size w' w'') := Lib.hid (fun w' A' c' h1 h2 => by
            have := same_any (c1 := c1) (c2 := c') (st := st1) (s := st) h1 h2 (by omega)
            rw [hx1] at this
            exact this)
          have HX2 : Hid (x1 = false → ct = true ∧ ∀ w' A' c', Lies w' w'.heap.size A2 (rs2.map secV) → Lies w' w'.heap.size A' (rs.map secV) → Calls Tryz.prog 39 #[.agg #[.string (str st2), .slice A2 rs2.length c2], .string (str st), .slice A' rs.length c'] w' fun e w'' => e = .returned (.bool true) ∧ Below w'.heap.size w' w'') := Lib.hid (fun hf => by
            rcases hor with ⟨e1, e2⟩ | ⟨e0, e1, e2⟩
            · rw [← hx1, e1, e2] at hf
              unfold sameK at hf
              rw [if_pos rfl, eqR_self] at hf
              cases hf
            · refine ⟨e0, fun w' A' c' h1 h2 => ?_⟩
              subst e1 e2
              have := same_any (c1 := c2) (c2 := c') (st := st) (s := st) h1 h2 (by omega)
              rw [show sameK st st rs rs = true from by unfold sameK; rw [if_pos rfl, eqR_self]] at this
              exact this)
          have HSr : Hid (∀ w' A' A'' c' c'', Lies w' w'.heap.size A' (rs.map secV) → Lies w' w'.heap.size A'' (rs.map secV) → Calls Tryz.prog 40 #[.slice A' rs.length c', .slice A'' rs.length c''] w' fun e w'' => e = .returned (.bool true) ∧ Below w'.heap.size w' w'') := Lib.hid (fun w' A' A'' c' c'' h1 h2 => by
            have := Same6_any (c1 := c') (c2 := c'') h1 h2 (by omega)
            rw [eqR_self] at this
            exact this)
          have HLo : Hid (∀ w' F' b', RoundAt w w' F' b' g1 g2 q #[.int .i64 xk, .int .i64 xn, .string S, .slice xA xb.length xc] v' (d.crashD xb) st1 rs1 A1 c1 st2 rs2 A2 c2 → Calls Tryz.prog 38 #[.pointer (some ⟨a, 0, none⟩)] w' fun e w'' => e = .returned (.int .i64 0) ∧ w' = w'') := Lib.hid (fun w' F' b' h5 => by
            have hD := h5.keep.log.disk
            rw [HKs.out.found.disk] at hD
            exact Loose_any hD)
          have HFin : Hid (∀ w' F' b' A c, RoundAt w w' F' b' g1 g2 q #[.int .i64 xk, .int .i64 xn, .string S, .slice xA xb.length xc] v' (d.crashD xb) st1 rs1 A1 c1 st2 rs2 A2 c2 → Aside w' (Own4 F' b' g1 g2) A (rs.map secV) → (A = none → c = 0) → KeepAt w ((w'.setCell ⟨g1, 0, none⟩ (.string (str st))).setCell ⟨g1, 1, none⟩ (.slice A rs.length c)) F' b' g1 g2 v' (d.crashD xb) st rs A c st2 rs2 A2 c2) := Lib.hid (fun w' F' b' A c h1 h2 h3 => (h1.setNow h2 h3).keep)
          have HLv' : Hid (LiveSt false (d.crashD xb) s a v' st rs st2 rs2) := Lib.hid HKs.out
          obtain ⟨T, hT⟩ : ∃ T, str st = T := ⟨_, rfl⟩
          rw [hT] at HOp HOp2 HSm HX2 HFin
          clear hks hor hT hx1 HKd
          have hq56z : (kq : Int) = 5 ∨ (kq : Int) = 6 := by omega
          rcases hq56z with hqz | hqz
          · go_wp2_with fail
            refine HCr.out.mono ?_
            rintro e w5 ⟨rfl, F5, hR5⟩
            have HR5 := Lib.hid hR5
            clear hR5 HCr y0 y1 y2 y3 m0 m1 mf p0 p1 pf HR
            go_wp2_with fail
            refine (HOp.out _ _ HR5.out).mono ?_
            rintro e w6 ⟨b6, A6, c6, rfl, hz6, hR6, hA6, _⟩
            have HR6 := Lib.hid hR6
            have HAs6 := Lib.hid hA6
            clear hR6 hA6
            obtain ⟨y0, y1, y2, y3, m0, m1, mf, p0, p1, pf⟩ := HR6.out.cells
            go_wp2_with fail
            refine (HSm.out _ _ _ HR6.out.keep.k1.row.lies HAs6.out.lies).mono ?_
            rintro e w7 ⟨rfl, hb7⟩
            have HR7 := Lib.hid (HR6.out.later hb7)
            have HAs7 := Lib.hid (HAs6.out.later hb7)
            clear hb7 y0 y1 y2 y3 m0 m1 mf p0 p1 pf
            cases x1 with
            | true =>
              go_wp2_with fail
              refine (HOp2.out _ _ _ HR7.out).mono ?_
              rintro e w8 ⟨b8, A8, c8, rfl, hl8, hb8⟩
              have HL8 := Lib.hid hl8
              have HR8 := Lib.hid (HR7.out.later hb8)
              have HAs8 := Lib.hid (HAs7.out.later hb8)
              clear hl8 hb8
              go_wp2_with fail
              refine (HSr.out _ _ _ _ _ HAs8.out.lies HL8.out).mono ?_
              rintro e w9 ⟨rfl, hb9⟩
              have HR9 := Lib.hid (HR8.out.later hb9)
              have HAs9 := Lib.hid (HAs8.out.later hb9)
              clear hb9
              go_wp2_with fail
              refine (HLo.out _ _ _ HR9.out).mono ?_
              rintro e w' ⟨rfl, rfl⟩
              obtain ⟨y0, y1, y2, y3, m0, m1, mf, p0, p1, pf⟩ := HR9.out.cells
              have HKp' := Lib.hid (HFin.out _ _ _ _ _ HR9.out HAs9.out hz6)
              go_wp2_with fail
              go_roundg (nn - (k + 1))
              case measure => omega
              case rel => exact ⟨k + 1, b6, d.crashD xb, v', F5, st, rs, A6, c6, st2, rs2, A2, c2, false, rfl, rfl, by go_num, by omega, Nat.le_refl _, by omega, by omega, HLv', HKp'⟩
            | false =>
              obtain ⟨hct, hs2⟩ := HX2.out rfl
              subst hct
              have HS2 := Lib.hid hs2
              clear hs2
              obtain ⟨y0, y1, y2, y3, m0, m1, mf, p0, p1, pf⟩ := HR7.out.cells
              go_wp2_with fail
              refine (HS2.out _ _ _ HR7.out.keep.k2.row.lies HAs7.out.lies).mono ?_
              rintro e w71 ⟨rfl, hb7⟩
              replace HR7 := Lib.hid (HR7.out.later hb7)
              replace HAs7 := Lib.hid (HAs7.out.later hb7)
              clear hb7 y0 y1 y2 y3 m0 m1 mf p0 p1 pf
              go_wp2_with fail
              refine (HOp2.out _ _ _ HR7.out).mono ?_
              rintro e w8 ⟨b8, A8, c8, rfl, hl8, hb8⟩
              have HL8 := Lib.hid hl8
              have HR8 := Lib.hid (HR7.out.later hb8)
              have HAs8 := Lib.hid (HAs7.out.later hb8)
              clear hl8 hb8
              go_wp2_with fail
              refine (HSr.out _ _ _ _ _ HAs8.out.lies HL8.out).mono ?_
              rintro e w9 ⟨rfl, hb9⟩
              have HR9 := Lib.hid (HR8.out.later hb9)
              have HAs9 := Lib.hid (HAs8.out.later hb9)
              clear hb9
              go_wp2_with fail
              refine (HLo.out _ _ _ HR9.out).mono ?_
              rintro e w' ⟨rfl, rfl⟩
              obtain ⟨y0, y1, y2, y3, m0, m1, mf, p0, p1, pf⟩ := HR9.out.cells
              have HKp' := Lib.hid (HFin.out _ _ _ _ _ HR9.out HAs9.out hz6)
              go_wp2_with fail
              go_roundg (nn - (k + 1))
              case measure => omega
              case rel => exact ⟨k + 1, b6, d.crashD xb, v', F5, st, rs, A6, c6, st2, rs2, A2, c2, false, rfl, rfl, by go_num, by omega, Nat.le_refl _, by omega, by omega, HLv', HKp'⟩
          · go_wp2_with fail
            refine HCr.out.mono ?_
            rintro e w5 ⟨rfl, F5, hR5⟩
            have HR5 := Lib.hid hR5
            clear hR5 HCr y0 y1 y2 y3 m0 m1 mf p0 p1 pf HR
            go_wp2_with fail
            refine (HOp.out _ _ HR5.out).mono ?_
            rintro e w6 ⟨b6, A6, c6, rfl, hz6, hR6, hA6, _⟩
            have HR6 := Lib.hid hR6
            have HAs6 := Lib.hid hA6
            clear hR6 hA6
            obtain ⟨y0, y1, y2, y3, m0, m1, mf, p0, p1, pf⟩ := HR6.out.cells
            go_wp2_with fail
            refine (HSm.out _ _ _ HR6.out.keep.k1.row.lies HAs6.out.lies).mono ?_
            rintro e w7 ⟨rfl, hb7⟩
            have HR7 := Lib.hid (HR6.out.later hb7)
            have HAs7 := Lib.hid (HAs6.out.later hb7)
            clear hb7 y0 y1 y2 y3 m0 m1 mf p0 p1 pf
            cases x1 with
            | true =>
              go_wp2_with fail
              refine (HOp2.out _ _ _ HR7.out).mono ?_
              rintro e w8 ⟨b8, A8, c8, rfl, hl8, hb8⟩
              have HL8 := Lib.hid hl8
              have HR8 := Lib.hid (HR7.out.later hb8)
              have HAs8 := Lib.hid (HAs7.out.later hb8)
              clear hl8 hb8
              go_wp2_with fail
              refine (HSr.out _ _ _ _ _ HAs8.out.lies HL8.out).mono ?_
              rintro e w9 ⟨rfl, hb9⟩
              have HR9 := Lib.hid (HR8.out.later hb9)
              have HAs9 := Lib.hid (HAs8.out.later hb9)
              clear hb9
              go_wp2_with fail
              refine (HLo.out _ _ _ HR9.out).mono ?_
              rintro e w' ⟨rfl, rfl⟩
              obtain ⟨y0, y1, y2, y3, m0, m1, mf, p0, p1, pf⟩ := HR9.out.cells
              have HKp' := Lib.hid (HFin.out _ _ _ _ _ HR9.out HAs9.out hz6)
              go_wp2_with fail
              go_roundg (nn - (k + 1))
              case measure => omega
              case rel => exact ⟨k + 1, b6, d.crashD xb, v', F5, st, rs, A6, c6, st2, rs2, A2, c2, false, rfl, rfl, by go_num, by omega, Nat.le_refl _, by omega, by omega, HLv', HKp'⟩
            | false =>
              obtain ⟨hct, hs2⟩ := HX2.out rfl
              subst hct
              have HS2 := Lib.hid hs2
              clear hs2
              obtain ⟨y0, y1, y2, y3, m0, m1, mf, p0, p1, pf⟩ := HR7.out.cells
              go_wp2_with fail
              refine (HS2.out _ _ _ HR7.out.keep.k2.row.lies HAs7.out.lies).mono ?_
              rintro e w71 ⟨rfl, hb7⟩
              replace HR7 := Lib.hid (HR7.out.later hb7)
              replace HAs7 := Lib.hid (HAs7.out.later hb7)
              clear hb7 y0 y1 y2 y3 m0 m1 mf p0 p1 pf
              go_wp2_with fail
              refine (HOp2.out _ _ _ HR7.out).mono ?_
              rintro e w8 ⟨b8, A8, c8, rfl, hl8, hb8⟩
              have HL8 := Lib.hid hl8
              have HR8 := Lib.hid (HR7.out.later hb8)
              have HAs8 := Lib.hid (HAs7.out.later hb8)
              clear hl8 hb8
              go_wp2_with fail
              refine (HSr.out _ _ _ _ _ HAs8.out.lies HL8.out).mono ?_
              rintro e w9 ⟨rfl, hb9⟩
              have HR9 := Lib.hid (HR8.out.later hb9)
              have HAs9 := Lib.hid (HAs8.out.later hb9)
              clear hb9
              go_wp2_with fail
              refine (HLo.out _ _ _ HR9.out).mono ?_
              rintro e w' ⟨rfl, rfl⟩
              obtain ⟨y0, y1, y2, y3, m0, m1, mf, p0, p1, pf⟩ := HR9.out.cells
              have HKp' := Lib.hid (HFin.out _ _ _ _ _ HR9.out HAs9.out hz6)
              go_wp2_with fail
              go_roundg (nn - (k + 1))
              case measure => omega
              case rel => exact ⟨k + 1, b6, d.crashD xb, v', F5, st, rs, A6, c6, st2, rs2, A2, c2, false, rfl, rfl, by go_num, by omega, Nat.le_refl _, by omega, by omega, HLv', HKp'⟩
        · have hq5z : ¬ (kq : Int) = 5 := by omega
          have hq6z : ¬ (kq : Int) = 6 := by omega
          clear HXk hxn1 hxn2 hxl
          go_wp2_with fail
          refine (HKd.out _).mono ?_
          rintro e wC ⟨rfl, hbC⟩
          have HRC := Lib.hid (HR.out.later hbC)
          clear hbC y0 y1 y2 y3 m0 m1 mf p0 p1 pf HR
          obtain ⟨y0, y1, y2, y3, m0, m1, mf, p0, p1, pf⟩ := HRC.out.cells
          by_cases hq3 : kq = 3
          · have hq3z : (kq : Int) = 3 := by omega
            obtain ⟨κ, hκ⟩ : ∃ κ, ckE v d L = κ := ⟨_, rfl⟩
            obtain ⟨v', hv'⟩ : ∃ v', (if κ = 7 then { ckV v d L with down := true } else ckV v d L) = v' := ⟨_, rfl⟩
            obtain ⟨d', hd'⟩ : ∃ d', ckD v d L = d' := ⟨_, rfl⟩
            have HCa : Hid (Calls Tryz.prog 18 #[.pointer (some ⟨b, 0, none⟩), .string S] wC fun e w' => AnsIs w' e κ ∧ ∃ F', RoundAt w w' F' b g1 g2 q #[.int .i64 xk, .int .i64 xn, .string S, .slice xA xb.length xc] v' d' st1 rs1 A1 c1 st2 rs2 A2 c2) := Lib.hid (by
              have := ck_round HRC.out HG.out hL5 HLv.out.loose
              rw [hκ, hv', hd', HS.out] at this
              exact this)
            have HWay : Hid ((κ = 0 ∧ ct = false ∧ LiveSt false d' s a v' (nextS kq st1 L) (nextR kq rs1 L) st2 rs2) ∨ (κ ≠ 0 ∧ κ ≠ 7 ∧ ct = false ∧ LiveSt false d' s a v' st1 rs1 st2 rs2) ∨ (κ = 7 ∧ ct = false ∧ LiveSt true d' s a v' st1 rs1 (nextS kq st1 L) (nextR kq rs1 L)) ∨ (κ = 7 ∧ ct = true ∧ LiveSt true d' s a v' st1 rs1 st2 rs2)) := Lib.hid (by
              have hnS : nextS kq st1 L = L := by unfold nextS; rw [if_pos hq3]
              have hnR : nextR kq rs1 L = [] := by unfold nextR; rw [if_pos hq3]
              rw [hnS, hnR]
              cases ct with
              | true =>
                obtain ⟨e1, e2, e3⟩ := ck_down (v := v) (d := d) (l := L) HLv.out.cut.down
                rw [hκ] at e1
                refine .inr (.inr (.inr ⟨e1, rfl, ?_⟩))
                rw [if_pos e1, e2] at hv'
                rw [← hd', e3, ← hv']
                have hc := HLv.out.cut
                exact CutSt.downed hc
              | false =>
                obtain ⟨_, hw⟩ := ck_keep HLv.out.on (l := L)
                rw [hκ, hd'] at hw
                rcases hw with ⟨e1, e2⟩ | ⟨e1, e2, e3⟩ | ⟨e1, e2⟩
                · rw [if_neg (by omega)] at hv'
                  exact .inl ⟨e1, rfl, by rw [← hv']; exact e2⟩
                · rw [if_neg e2] at hv'
                  exact .inr (.inl ⟨e1, e2, rfl, by rw [← hv']; exact e3⟩)
                · rw [if_pos e1] at hv'
                  exact .inr (.inr (.inl ⟨e1, rfl, by rw [← hv']; exact e2⟩)))
            clear hκ hv' hd' HLv
            go_wp2_with fail
            refine HCa.out.mono ?_
            rintro e w5 ⟨hans, F5, hR5⟩
            have HR5 := Lib.hid hR5
            have HAn := Lib.hid hans
            clear hR5 hans HCa HRC y0 y1 y2 y3 m0 m1 mf p0 p1 pf
            obtain ⟨y0, y1, y2, y3, m0, m1, mf, p0, p1, pf⟩ := HR5.out.cells
            have HBh : Hid (∀ w6, RoundAt w w6 F5 b g1 g2 q #[.int .i64 xk, .int .i64 xn, .string S, .slice xA xb.length xc] v' d' st1 rs1 A1 c1 st2 rs2 A2 c2 → Calls Tryz.prog 41 #[.agg #[.string (str st1), .slice A1 rs1.length c1], .agg #[.int .i64 xk, .int .i64 xn, .string S, .slice xA xb.length xc]] w6 fun e w' => ∃ A c, e = .returned (.agg #[.string (str (nextS kq st1 L)), .slice A (nextR kq rs1 L).length c]) ∧ (A = none → c = 0) ∧ RoundAt w w' F5 b g1 g2 q #[.int .i64 xk, .int .i64 xn, .string S, .slice xA xb.length xc] v' d' st1 rs1 A1 c1 st2 rs2 A2 c2 ∧ Aside w' (Own4 F5 b g1 g2) A ((nextR kq rs1 L).map secV)) := Lib.hid (fun w6 h6 => by
              rw [← HS.out] at h6 HKd ⊢
              exact behind_round h6 (by omega) HKd)
            have hnr := nextR_le (kq := kq) (L := L) hr1
            generalize nextS kq st1 L = stN at *
            generalize nextR kq rs1 L = rsN at *
            rcases HWay.out with ⟨e1, e2, hlv⟩ | ⟨e0, e1, e2, hlv⟩ | ⟨e1, e2, hlv⟩ | ⟨e1, e2, hlv⟩
            · subst e1 e2
              have HLv' := Lib.hid hlv
              rcases HAn.out with ⟨_, he⟩ | ⟨he, _⟩
              · subst he
                clear HWay HAn hlv
                go_wp2_with fail
                refine (HBh.out _ HR5.out).mono ?_
                rintro e w6 ⟨A6, c6, rfl, hz6, hR6, hA6⟩
                have HR6 := Lib.hid hR6
                have HAs6 := Lib.hid hA6
                clear hR6 hA6 y0 y1 y2 y3 m0 m1 mf p0 p1 pf
                obtain ⟨y0, y1, y2, y3, m0, m1, mf, p0, p1, pf⟩ := HR6.out.cells
                have HR7 := Lib.hid (HR6.out.setNow (st := stN) HAs6.out hz6)
                go_wp2_with fail
                refine (num_nil _).mono ?_
                rintro e w8 ⟨rfl, hb8⟩
                have HKp' := Lib.hid (HR7.out.later hb8).keep
                clear hb8 y0 y1 y2 y3 m0 m1 mf p0 p1 pf
                go_wp2_with fail
                go_roundg (nn - (k + 1))
                case measure => omega
                case rel => exact ⟨k + 1, b, d', v', F5, stN, rsN, A6, c6, st2, rs2, A2, c2, false, rfl, rfl, by go_num, by omega, Nat.le_refl _, hnr, by omega, HLv', HKp'⟩
              · exact absurd rfl he
            · subst e2
              have HLv' := Lib.hid hlv
              rcases HAn.out with ⟨he, _⟩ | ⟨_, p, he, hnum⟩
              · exact absurd he e0
              · subst he
                have HNm := Lib.hid hnum
                have hκ7 : (κ == 7) = false := by rw [beq_eq_false_iff_ne]; exact e1
                clear HWay HAn hlv hnum
                go_wp2_with fail
                refine HNm.out.mono ?_
                rintro e w8 ⟨rfl, hb8⟩
                have HKp' := Lib.hid (HR5.out.later hb8).keep
                clear hb8 y0 y1 y2 y3 m0 m1 mf p0 p1 pf
                go_wp2_with fail
                go_roundg (nn - (k + 1))
                case measure => omega
                case rel => exact ⟨k + 1, b, d', v', F5, st1, rs1, A1, c1, st2, rs2, A2, c2, false, rfl, rfl, by go_num, by omega, Nat.le_refl _, by omega, by omega, HLv', HKp'⟩
            · subst e1 e2
              have HLv' := Lib.hid hlv
              rcases HAn.out with ⟨he, _⟩ | ⟨_, p, he, hnum⟩
              · exact absurd he (by decide)
              · subst he
                have HNm := Lib.hid hnum
                clear HWay HAn hlv hnum
                go_wp2_with fail
                refine HNm.out.mono ?_
                rintro e w8 ⟨rfl, hb8⟩
                have HR8 := Lib.hid (HR5.out.later hb8)
                clear hb8 y0 y1 y2 y3 m0 m1 mf p0 p1 pf
                obtain ⟨y0, y1, y2, y3, m0, m1, mf, p0, p1, pf⟩ := HR8.out.cells
                go_wp2_with fail
                refine (HBh.out _ HR8.out).mono ?_
                rintro e w6 ⟨A6, c6, rfl, hz6, hR6, hA6⟩
                have HR6 := Lib.hid hR6
                have HAs6 : Hid (Aside w6 (Own4 F5 b g2 g1) A6 (rsN.map secV)) := Lib.hid (hA6.moves (M := fun _ => False) (Moves.refl _ _) (fun _ e => e.elim) (fun j e => .inl (by
                  rcases e with e | e | e | e
                  · exact .inl e
                  · exact .inr (.inl e)
                  · exact .inr (.inr (.inr e))
                  · exact .inr (.inr (.inl e)))))
                clear hR6 hA6 y0 y1 y2 y3 m0 m1 mf p0 p1 pf
                obtain ⟨y0, y1, y2, y3, m0, m1, mf, p0, p1, pf⟩ := HR6.out.cells
                have HKp' := Lib.hid ((HR6.out.swap.setNow (st := stN) HAs6.out hz6).swap).keep
                go_wp2_with fail
                go_roundg (nn - (k + 1))
                case measure => omega
                case rel => exact ⟨k + 1, b, d', v', F5, st1, rs1, A1, c1, stN, rsN, A6, c6, true, rfl, rfl, by go_num, by omega, Nat.le_refl _, by omega, hnr, HLv', HKp'⟩
            · subst e1 e2
              have HLv' := Lib.hid hlv
              rcases HAn.out with ⟨he, _⟩ | ⟨_, p, he, hnum⟩
              · exact absurd he (by decide)
              · subst he
                have HNm := Lib.hid hnum
                clear HWay HAn hlv hnum
                go_wp2_with fail
                refine HNm.out.mono ?_
                rintro e w8 ⟨rfl, hb8⟩
                have HKp' := Lib.hid (HR5.out.later hb8).keep
                clear hb8 y0 y1 y2 y3 m0 m1 mf p0 p1 pf
                go_wp2_with fail
                go_roundg (nn - (k + 1))
                case measure => omega
                case rel => exact ⟨k + 1, b, d', v', F5, st1, rs1, A1, c1, st2, rs2, A2, c2, true, rfl, rfl, by go_num, by omega, Nat.le_refl _, by omega, by omega, HLv', HKp'⟩
          · have hq3z : ¬ (kq : Int) = 3 := by omega
            obtain ⟨κ, hκ⟩ : ∃ κ, addE v d L = κ := ⟨_, rfl⟩
            obtain ⟨v', hv'⟩ : ∃ v', (if κ = 7 then { addV v d L with down := true } else addV v d L) = v' := ⟨_, rfl⟩
            obtain ⟨d', hd'⟩ : ∃ d', addD v d L = d' := ⟨_, rfl⟩
            have HCa : Hid (Calls Tryz.prog 24 #[.pointer (some ⟨b, 0, none⟩), .string S] wC fun e w' => AnsIs w' e κ ∧ ∃ F', RoundAt w w' F' b g1 g2 q #[.int .i64 xk, .int .i64 xn, .string S, .slice xA xb.length xc] v' d' st1 rs1 A1 c1 st2 rs2 A2 c2) := Lib.hid (by
              have := add_round HRC.out HG.out hL5 HLv.out.loose
              rw [hκ, hv', hd', HS.out] at this
              exact this)
            have HWay : Hid ((κ = 0 ∧ ct = false ∧ LiveSt false d' s a v' (nextS kq st1 L) (nextR kq rs1 L) st2 rs2) ∨ (κ ≠ 0 ∧ κ ≠ 7 ∧ ct = false ∧ LiveSt false d' s a v' st1 rs1 st2 rs2) ∨ (κ = 7 ∧ ct = false ∧ LiveSt true d' s a v' st1 rs1 (nextS kq st1 L) (nextR kq rs1 L)) ∨ (κ = 7 ∧ ct = true ∧ LiveSt true d' s a v' st1 rs1 st2 rs2)) := Lib.hid (by
              have hnS : nextS kq st1 L = st1 := by unfold nextS; rw [if_neg hq3]
              have hnR : nextR kq rs1 L = rs1 ++ [L] := by unfold nextR; rw [if_neg hq3]
              rw [hnS, hnR]
              cases ct with
              | true =>
                obtain ⟨e1, e2, e3⟩ := add_down (v := v) (d := d) (l := L) HLv.out.cut.down
                rw [hκ] at e1
                refine .inr (.inr (.inr ⟨e1, rfl, ?_⟩))
                rw [if_pos e1, e2] at hv'
                rw [← hd', e3, ← hv']
                have hc := HLv.out.cut
                exact CutSt.downed hc
              | false =>
                obtain ⟨_, hw⟩ := add_keep HLv.out.on hL5
                rw [hκ, hd'] at hw
                rcases hw with ⟨e1, e2⟩ | ⟨e1, e2, e3⟩ | ⟨e1, e2⟩
                · rw [if_neg (by omega)] at hv'
                  exact .inl ⟨e1, rfl, by rw [← hv']; exact e2⟩
                · rw [if_neg e2] at hv'
                  exact .inr (.inl ⟨e1, e2, rfl, by rw [← hv']; exact e3⟩)
                · rw [if_pos e1] at hv'
                  exact .inr (.inr (.inl ⟨e1, rfl, by rw [← hv']; exact e2⟩)))
            clear hκ hv' hd' HLv
            go_wp2_with fail
            refine HCa.out.mono ?_
            rintro e w5 ⟨hans, F5, hR5⟩
            have HR5 := Lib.hid hR5
            have HAn := Lib.hid hans
            clear hR5 hans HCa HRC y0 y1 y2 y3 m0 m1 mf p0 p1 pf
            obtain ⟨y0, y1, y2, y3, m0, m1, mf, p0, p1, pf⟩ := HR5.out.cells
            have HBh : Hid (∀ w6, RoundAt w w6 F5 b g1 g2 q #[.int .i64 xk, .int .i64 xn, .string S, .slice xA xb.length xc] v' d' st1 rs1 A1 c1 st2 rs2 A2 c2 → Calls Tryz.prog 41 #[.agg #[.string (str st1), .slice A1 rs1.length c1], .agg #[.int .i64 xk, .int .i64 xn, .string S, .slice xA xb.length xc]] w6 fun e w' => ∃ A c, e = .returned (.agg #[.string (str (nextS kq st1 L)), .slice A (nextR kq rs1 L).length c]) ∧ (A = none → c = 0) ∧ RoundAt w w' F5 b g1 g2 q #[.int .i64 xk, .int .i64 xn, .string S, .slice xA xb.length xc] v' d' st1 rs1 A1 c1 st2 rs2 A2 c2 ∧ Aside w' (Own4 F5 b g1 g2) A ((nextR kq rs1 L).map secV)) := Lib.hid (fun w6 h6 => by
              rw [← HS.out] at h6 HKd ⊢
              exact behind_round h6 (by omega) HKd)
            have hnr := nextR_le (kq := kq) (L := L) hr1
            generalize nextS kq st1 L = stN at *
            generalize nextR kq rs1 L = rsN at *
            rcases HWay.out with ⟨e1, e2, hlv⟩ | ⟨e0, e1, e2, hlv⟩ | ⟨e1, e2, hlv⟩ | ⟨e1, e2, hlv⟩
            · subst e1 e2
              have HLv' := Lib.hid hlv
              rcases HAn.out with ⟨_, he⟩ | ⟨he, _⟩
              · subst he
                clear HWay HAn hlv
                go_wp2_with fail
                refine (HBh.out _ HR5.out).mono ?_
                rintro e w6 ⟨A6, c6, rfl, hz6, hR6, hA6⟩
                have HR6 := Lib.hid hR6
                have HAs6 := Lib.hid hA6
                clear hR6 hA6 y0 y1 y2 y3 m0 m1 mf p0 p1 pf
                obtain ⟨y0, y1, y2, y3, m0, m1, mf, p0, p1, pf⟩ := HR6.out.cells
                have HR7 := Lib.hid (HR6.out.setNow (st := stN) HAs6.out hz6)
                go_wp2_with fail
                refine (num_nil _).mono ?_
                rintro e w8 ⟨rfl, hb8⟩
                have HKp' := Lib.hid (HR7.out.later hb8).keep
                clear hb8 y0 y1 y2 y3 m0 m1 mf p0 p1 pf
                go_wp2_with fail
                go_roundg (nn - (k + 1))
                case measure => omega
                case rel => exact ⟨k + 1, b, d', v', F5, stN, rsN, A6, c6, st2, rs2, A2, c2, false, rfl, rfl, by go_num, by omega, Nat.le_refl _, hnr, by omega, HLv', HKp'⟩
              · exact absurd rfl he
            · subst e2
              have HLv' := Lib.hid hlv
              rcases HAn.out with ⟨he, _⟩ | ⟨_, p, he, hnum⟩
              · exact absurd he e0
              · subst he
                have HNm := Lib.hid hnum
                have hκ7 : (κ == 7) = false := by rw [beq_eq_false_iff_ne]; exact e1
                clear HWay HAn hlv hnum
                go_wp2_with fail
                refine HNm.out.mono ?_
                rintro e w8 ⟨rfl, hb8⟩
                have HKp' := Lib.hid (HR5.out.later hb8).keep
                clear hb8 y0 y1 y2 y3 m0 m1 mf p0 p1 pf
                go_wp2_with fail
                go_roundg (nn - (k + 1))
                case measure => omega
                case rel => exact ⟨k + 1, b, d', v', F5, st1, rs1, A1, c1, st2, rs2, A2, c2, false, rfl, rfl, by go_num, by omega, Nat.le_refl _, by omega, by omega, HLv', HKp'⟩
            · subst e1 e2
              have HLv' := Lib.hid hlv
              rcases HAn.out with ⟨he, _⟩ | ⟨_, p, he, hnum⟩
              · exact absurd he (by decide)
              · subst he
                have HNm := Lib.hid hnum
                clear HWay HAn hlv hnum
                go_wp2_with fail
                refine HNm.out.mono ?_
                rintro e w8 ⟨rfl, hb8⟩
                have HR8 := Lib.hid (HR5.out.later hb8)
                clear hb8 y0 y1 y2 y3 m0 m1 mf p0 p1 pf
                obtain ⟨y0, y1, y2, y3, m0, m1, mf, p0, p1, pf⟩ := HR8.out.cells
                go_wp2_with fail
                refine (HBh.out _ HR8.out).mono ?_
                rintro e w6 ⟨A6, c6, rfl, hz6, hR6, hA6⟩
                have HR6 := Lib.hid hR6
                have HAs6 : Hid (Aside w6 (Own4 F5 b g2 g1) A6 (rsN.map secV)) := Lib.hid (hA6.moves (M := fun _ => False) (Moves.refl _ _) (fun _ e => e.elim) (fun j e => .inl (by
                  rcases e with e | e | e | e
                  · exact .inl e
                  · exact .inr (.inl e)
                  · exact .inr (.inr (.inr e))
                  · exact .inr (.inr (.inl e)))))
                clear hR6 hA6 y0 y1 y2 y3 m0 m1 mf p0 p1 pf
                obtain ⟨y0, y1, y2, y3, m0, m1, mf, p0, p1, pf⟩ := HR6.out.cells
                have HKp' := Lib.hid ((HR6.out.swap.setNow (st := stN) HAs6.out hz6).swap).keep
                go_wp2_with fail
                go_roundg (nn - (k + 1))
                case measure => omega
                case rel => exact ⟨k + 1, b, d', v', F5, st1, rs1, A1, c1, stN, rsN, A6, c6, true, rfl, rfl, by go_num, by omega, Nat.le_refl _, by omega, hnr, HLv', HKp'⟩
            · subst e1 e2
              have HLv' := Lib.hid hlv
              rcases HAn.out with ⟨he, _⟩ | ⟨_, p, he, hnum⟩
              · exact absurd he (by decide)
              · subst he
                have HNm := Lib.hid hnum
                clear HWay HAn hlv hnum
                go_wp2_with fail
                refine HNm.out.mono ?_
                rintro e w8 ⟨rfl, hb8⟩
                have HKp' := Lib.hid (HR5.out.later hb8).keep
                clear hb8 y0 y1 y2 y3 m0 m1 mf p0 p1 pf
                go_wp2_with fail
                go_roundg (nn - (k + 1))
                case measure => omega
                case rel => exact ⟨k + 1, b, d', v', F5, st1, rs1, A1, c1, st2, rs2, A2, c2, true, rfl, rfl, by go_num, by omega, Nat.le_refl _, by omega, by omega, HLv', HKp'⟩
    · have hltz : ¬ (k : Int) < (nn : Int) := by omega
      go_wp2_with fail
      refine (awake6_any _).mono ?_
      rintro e wz ⟨rfl, hbz⟩
      have HBz : Hid (Below w.heap.size w wz) := Lib.hid (HKp.out.bel.trans (hbz.mono HKp.out.bel.size))
      clear hbz
      go_wp2_with fail
      go_ret
      exact ⟨rfl, HBz.out⟩
end Go.Proofs.YtgnijpjdkipaaaaGreatDoor
