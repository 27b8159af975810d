/- The document's disk while a call of counterfoilref05 works on it: two blocks, three rows of the call's own ('St3'); what each store and append leaves of it. -/
import Derived.Test.YtjeabnlmanfplaaGreatDoorRefR
namespace Go.Proofs.YtjeabnlmanfplaaGreatDoor
open Go.RowKit

/-- The blocks and rows of a call under way: d at block H, the result at H + 1 (H: where the memory ended when the call began). -/
structure St3 (w wr : World) (fA : Option Addr) (n fc : Nat) (fs : List Value) (aA : Option Addr) (m ac : Nat) (ats : List Value) (wA : Option Addr) (k wc : Nat) (ws : List Value) (L : Int) (g : Bool) : Prop where
  d : Five wr w.heap.size (.slice fA n fc) (.slice aA m ac) (.slice wA k wc) (.int .i64 L) (.bool g)
  r : Five wr (w.heap.size + 1) (.slice none 0 0) (.slice none 0 0) (.slice none 0 0) (.int .i64 0) (.bool false)
  of : wr.ownsRow (w.heap.size + 2) 9 1 (.slice fA n fc) n fs
  oa : wr.ownsRow (w.heap.size + 2) 3 1 (.slice aA m ac) m ats
  ow : wr.ownsRow (w.heap.size + 2) 9 1 (.slice wA k wc) k ws
  fa : ∀ q, (Value.slice fA n fc).ownBlock = some q → (Value.slice aA m ac).ownBlock ≠ some q
  fw : ∀ q, (Value.slice fA n fc).ownBlock = some q → (Value.slice wA k wc).ownBlock ≠ some q
  aw : ∀ q, (Value.slice aA m ac).ownBlock = some q → (Value.slice wA k wc).ownBlock ≠ some q
  bel : Below w.heap.size w wr
  size : w.heap.size + 2 ≤ wr.heap.size

variable {w wr : World} {fA : Option Addr} {n fc : Nat} {fs : List Value} {aA : Option Addr} {m ac : Nat} {ats : List Value} {wA : Option Addr} {k wc : Nat} {ws : List Value} {L : Int} {g : Bool}

theorem St3.below (h : St3 w wr fA n fc fs aA m ac ats wA k wc ws L g) {w' : World} (hb : Below wr.heap.size wr w') : St3 w w' fA n fc fs aA m ac ats wA k wc ws L g :=
  ⟨h.d.below hb (heap_lt h.d), h.r.below hb (heap_lt h.r), own_kept h.of hb, own_kept h.oa hb, own_kept h.ow hb, h.fa, h.fw, h.aw, h.bel.trans (hb.mono h.bel.size), Nat.le_trans h.size hb.size⟩
theorem St3.drew (h : St3 w wr fA n fc fs aA m ac ats wA k wc ws L g) : St3 w wr.drew fA n fc fs aA m ac ats wA k wc ws L g := h.below (Below.refl _ _).drew

/-- A store to block H or H + 1 leaves the rows. -/
theorem own_low {base q : Nat} {W : World} {e : TypeId} {n : Nat} {v : Value} {xs : List Value} (h : W.ownsRow (base + 2) e 1 v n xs) (j : Nat) (u : Value) (hq : q < base + 2) : (W.setCell ⟨q, j, none⟩ u).ownsRow (base + 2) e 1 v n xs :=
  own_set h (p := ⟨q, j, none⟩) (fun e => by have h9 : base + 2 ≤ q := (own_lt h _ e).1; omega) u

theorem St3.store5 (h : St3 w wr fA n fc fs aA m ac ats wA k wc ws L g) (L' : Int) (g' : Bool) :
    St3 w (((((wr.setCell ⟨w.heap.size, 0, none⟩ (.slice fA n fc)).setCell ⟨w.heap.size, 1, none⟩ (.slice aA m ac)).setCell ⟨w.heap.size, 2, none⟩ (.slice wA k wc)).setCell ⟨w.heap.size, 3, none⟩ (.int .i64 L')).setCell ⟨w.heap.size, 4, none⟩ (.bool g')) fA n fc fs aA m ac ats wA k wc ws L' g' := by
  have hq : w.heap.size < w.heap.size + 2 := by omega
  have hz := h.size
  refine ⟨((((h.d.set0 _).set1 _).set2 _).set3 _).set4 _, ((((h.r.far (by simp) _).far (by simp) _).far (by simp) _).far (by simp) _).far (by simp) _, ?_, ?_, ?_, h.fa, h.fw, h.aw, ((((h.bel.setCell (by simp) _).setCell (by simp) _).setCell (by simp) _).setCell (by simp) _).setCell (by simp) _, by simp; omega⟩
  · exact own_low (own_low (own_low (own_low (own_low h.of 0 _ hq) 1 _ hq) 2 _ hq) 3 _ hq) 4 _ hq
  · exact own_low (own_low (own_low (own_low (own_low h.oa 0 _ hq) 1 _ hq) 2 _ hq) 3 _ hq) 4 _ hq
  · exact own_low (own_low (own_low (own_low (own_low h.ow 0 _ hq) 1 _ hq) 2 _ hq) 3 _ hq) 4 _ hq

/-- Behind Copy: its result is laid into d's block. -/
theorem st3_copy {F : List (List UInt8)} {l : List (Nat × List UInt8)} {W0 w1 : World} {x0 x1 x2 x3 x4 : Value} (hd : Five W0 w.heap.size x0 x1 x2 x3 x4) (hr : Five W0 (w.heap.size + 1) (.slice none 0 0) (.slice none 0 0) (.slice none 0 0) (.int .i64 0) (.bool false))
    (hb0 : Below w.heap.size w W0) (hz : w.heap.size + 2 = W0.heap.size) {fA aA wA : Option Addr} {fc ac wc : Nat} (ho : RefOwn w1 W0.heap.size F l fA fc aA ac wA wc) (hb : Below W0.heap.size W0 w1) (L : Int) (g : Bool) :
    St3 w (((((w1.setCell ⟨w.heap.size, 0, none⟩ (.slice fA F.length fc)).setCell ⟨w.heap.size, 1, none⟩ (.slice aA l.length ac)).setCell ⟨w.heap.size, 2, none⟩ (.slice wA l.length wc)).setCell ⟨w.heap.size, 3, none⟩ (.int .i64 L)).setCell ⟨w.heap.size, 4, none⟩ (.bool g)) fA F.length fc (F.map secV) aA l.length ac (l.map atV) wA l.length wc (l.map whatV) L g := by
  rw [← hz] at ho hb
  have hq : w.heap.size < w.heap.size + 2 := by omega
  have hs := hb.size
  refine ⟨(((((hd.below hb (by omega)).set0 _).set1 _).set2 _).set3 _).set4 _, (((((hr.below hb (by omega)).far (by simp) _).far (by simp) _).far (by simp) _).far (by simp) _).far (by simp) _, ?_, ?_, ?_, ho.fa, ho.fw, ho.aw, (((((hb0.trans (hb.mono (by omega))).setCell (by simp) _).setCell (by simp) _).setCell (by simp) _).setCell (by simp) _).setCell (by simp) _, by simp; omega⟩
  · exact own_low (own_low (own_low (own_low (own_low ho.firm 0 _ hq) 1 _ hq) 2 _ hq) 3 _ hq) 4 _ hq
  · exact own_low (own_low (own_low (own_low (own_low ho.at_ 0 _ hq) 1 _ hq) 2 _ hq) 3 _ hq) 4 _ hq
  · exact own_low (own_low (own_low (own_low (own_low ho.what 0 _ hq) 1 _ hq) 2 _ hq) 3 _ hq) 4 _ hq

/-- Behind an append to At, ahead of and behind the store. -/
theorem St3.appA (h : St3 w wr fA n fc fs aA m ac ats wA k wc ws L g) {b cap : Nat} {x : Value} {w3 : World} {o : Obj} (ho : w3.ownsRow (w.heap.size + 2) 3 1 (.slice (some ⟨b, 0, none⟩) (m + 1) cap) (m + 1) (ats ++ [x])) (hg : (wr.alloc o).grownBy w3 (Value.slice aA m ac).ownBlock) (hat : (Value.slice aA m ac).ownBlock = some b ∨ b = wr.heap.size + 1) :
    Five w3 w.heap.size (.slice fA n fc) (.slice aA m ac) (.slice wA k wc) (.int .i64 L) (.bool g) ∧ Five w3 (w.heap.size + 1) (.slice none 0 0) (.slice none 0 0) (.slice none 0 0) (.int .i64 0) (.bool false) ∧ St3 w (w3.setCell ⟨w.heap.size, 1, none⟩ (.slice (some ⟨b, 0, none⟩) (m + 1) cap)) fA n fc fs (some ⟨b, 0, none⟩) (m + 1) cap (ats ++ [x]) wA k wc ws L g := by
  have hlow : ∀ q, (Value.slice aA m ac).ownBlock = some q → w.heap.size + 2 ≤ q := fun q hq => (own_lt h.oa q hq).1
  have hz := h.size
  have hsz : (wr.alloc o).heap.size = wr.heap.size + 1 := by simp
  have hs3 := hg.size
  rw [hsz] at hs3
  have hq : w.heap.size < w.heap.size + 2 := by omega
  have kept : ∀ {e : TypeId} {v : Value} {c : Nat} {xs : List Value}, wr.ownsRow (w.heap.size + 2) e 1 v c xs → (∀ q, v.ownBlock = some q → (Value.slice aA m ac).ownBlock ≠ some q) → w3.ownsRow (w.heap.size + 2) e 1 v c xs := fun hv hn =>
    (hv.alloc o).kept hg (by
      rename_i v _ _
      cases hvb : v.ownBlock with
      | none => exact .inl rfl
      | some q => exact .inr (fun e => hn q hvb e.symm))
  have h5 : Five w3 w.heap.size (.slice fA n fc) (.slice aA m ac) (.slice wA k wc) (.int .i64 L) (.bool g) := (hg.block _ (by rw [hsz]; omega) (fun e => by have := hlow _ e.symm; omega)).trans (h.d.alloc _)
  have h6 : Five w3 (w.heap.size + 1) (.slice none 0 0) (.slice none 0 0) (.slice none 0 0) (.int .i64 0) (.bool false) := (hg.block _ (by rw [hsz]; omega) (fun e => by have := hlow _ e.symm; omega)).trans (h.r.alloc _)
  have hb3 : Below w.heap.size w w3 := (h.bel.alloc (by omega) _).grown hg (by rw [hsz]; omega) (fun q hq => by have := hlow q hq; omega)
  have hbn : ∀ q, (Value.slice (some ⟨b, 0, none⟩) (m + 1) cap).ownBlock = some q → (Value.slice aA m ac).ownBlock = some q ∨ wr.heap.size < q := by
    intro q hq
    have e : b = q := by simpa [Value.ownBlock] using hq
    subst e
    rcases hat with hh | hh
    · exact .inl hh
    · exact .inr (by omega)
  refine ⟨h5, h6, ⟨h5.set1 _, h6.far (by simp) _, own_low (kept h.of h.fa) 1 _ hq, own_low ho 1 _ hq, own_low (kept h.ow (fun q h1 h2 => h.aw q h2 h1)) 1 _ hq, fun q h1 h2 => ?_, h.fw, fun q h1 h2 => ?_, hb3.setCell (by simp) _, by simp; omega⟩⟩
  · rcases hbn q h2 with hh | hh
    · exact h.fa q h1 hh
    · have := (own_lt h.of q h1).2; omega
  · rcases hbn q h1 with hh | hh
    · exact h.aw q hh h2
    · have := (own_lt h.ow q h2).2; omega

/-- Likewise to What. -/
theorem St3.appW (h : St3 w wr fA n fc fs aA m ac ats wA k wc ws L g) {b cap : Nat} {x : Value} {w3 : World} {o : Obj} (ho : w3.ownsRow (w.heap.size + 2) 9 1 (.slice (some ⟨b, 0, none⟩) (k + 1) cap) (k + 1) (ws ++ [x])) (hg : (wr.alloc o).drew.grownBy w3 (Value.slice wA k wc).ownBlock) (hat : (Value.slice wA k wc).ownBlock = some b ∨ b = wr.heap.size + 1) :
    Five w3 w.heap.size (.slice fA n fc) (.slice aA m ac) (.slice wA k wc) (.int .i64 L) (.bool g) ∧ Five w3 (w.heap.size + 1) (.slice none 0 0) (.slice none 0 0) (.slice none 0 0) (.int .i64 0) (.bool false) ∧ St3 w (w3.setCell ⟨w.heap.size, 2, none⟩ (.slice (some ⟨b, 0, none⟩) (k + 1) cap)) fA n fc fs aA m ac ats (some ⟨b, 0, none⟩) (k + 1) cap (ws ++ [x]) L g := by
  have hlow : ∀ q, (Value.slice wA k wc).ownBlock = some q → w.heap.size + 2 ≤ q := fun q hq => (own_lt h.ow q hq).1
  have hz := h.size
  have hsz : (wr.alloc o).drew.heap.size = wr.heap.size + 1 := by show (wr.alloc o).heap.size = _; simp
  have hs3 := hg.size
  rw [hsz] at hs3
  have hq : w.heap.size < w.heap.size + 2 := by omega
  have kept : ∀ {e : TypeId} {v : Value} {c : Nat} {xs : List Value}, wr.ownsRow (w.heap.size + 2) e 1 v c xs → (∀ q, v.ownBlock = some q → (Value.slice wA k wc).ownBlock ≠ some q) → w3.ownsRow (w.heap.size + 2) e 1 v c xs := fun hv hn =>
    (hv.alloc o).drew.kept hg (by
      rename_i v _ _
      cases hvb : v.ownBlock with
      | none => exact .inl rfl
      | some q => exact .inr (fun e => hn q hvb e.symm))
  have h5 : Five w3 w.heap.size (.slice fA n fc) (.slice aA m ac) (.slice wA k wc) (.int .i64 L) (.bool g) := (hg.block _ (by rw [hsz]; omega) (fun e => by have := hlow _ e.symm; omega)).trans (h.d.alloc _)
  have h6 : Five w3 (w.heap.size + 1) (.slice none 0 0) (.slice none 0 0) (.slice none 0 0) (.int .i64 0) (.bool false) := (hg.block _ (by rw [hsz]; omega) (fun e => by have := hlow _ e.symm; omega)).trans (h.r.alloc _)
  have hb3 : Below w.heap.size w w3 := (h.bel.alloc (by omega) _).drew.grown hg (by rw [hsz]; omega) (fun q hq => by have := hlow q hq; omega)
  have hbn : ∀ q, (Value.slice (some ⟨b, 0, none⟩) (k + 1) cap).ownBlock = some q → (Value.slice wA k wc).ownBlock = some q ∨ wr.heap.size < q := by
    intro q hq
    have e : b = q := by simpa [Value.ownBlock] using hq
    subst e
    rcases hat with hh | hh
    · exact .inl hh
    · exact .inr (by omega)
  refine ⟨h5, h6, ⟨h5.set2 _, h6.far (by simp) _, own_low (kept h.of h.fw) 2 _ hq, own_low (kept h.oa h.aw) 2 _ hq, own_low ho 2 _ hq, h.fa, fun q h1 h2 => ?_, fun q h1 h2 => ?_, hb3.setCell (by simp) _, by simp; omega⟩⟩
  · rcases hbn q h2 with hh | hh
    · exact h.fw q h1 hh
    · have := (own_lt h.of q h1).2; omega
  · rcases hbn q h2 with hh | hh
    · exact h.aw q h1 hh
    · have := (own_lt h.oa q h1).2; omega

/-- The slices lie in blocks from B on, or where others did. -/
def RefFresh (B : Nat) (fA0 aA0 wA0 fA aA wA : Option Addr) : Prop :=
  ∀ b off, (fA = some ⟨b, off, none⟩ ∨ aA = some ⟨b, off, none⟩ ∨ wA = some ⟨b, off, none⟩) → B ≤ b ∨ (fA0 = some ⟨b, off, none⟩ ∨ aA0 = some ⟨b, off, none⟩ ∨ wA0 = some ⟨b, off, none⟩)
theorem own_new {w : World} {base : Nat} {e : TypeId} {n c : Nat} {A : Option Addr} {cs : List Value} (h : w.ownsRow base e 1 (.slice A n c) n cs) : ∀ b off, A = some ⟨b, off, none⟩ → base ≤ b := by
  intro b off hA
  subst hA
  rcases h.2 with ⟨h0, _⟩ | ⟨g, cap, cur, h0, hb, _⟩
  · cases h0
  · simp only [Value.slice.injEq, Option.some.injEq, Addr.mk.injEq] at h0
    omega
theorem St3.fresh {w wr : World} {fA : Option Addr} {n fc : Nat} {fs : List Value} {aA : Option Addr} {m ac : Nat} {ats : List Value} {wA : Option Addr} {k wc : Nat} {ws : List Value} {L : Int} {g : Bool} (h : St3 w wr fA n fc fs aA m ac ats wA k wc ws L g) (fA0 aA0 wA0 : Option Addr) : RefFresh w.heap.size fA0 aA0 wA0 fA aA wA := by
  rintro b off (e | e | e)
  · exact .inl (by have := own_new h.of b off e; omega)
  · exact .inl (by have := own_new h.oa b off e; omega)
  · exact .inl (by have := own_new h.ow b off e; omega)

/-- Behind the stores to the result's block. -/
theorem St3.last {F : List (List UInt8)} {l : List (Nat × List UInt8)} (h : St3 w wr fA F.length fc (F.map secV) aA l.length ac (l.map atV) wA l.length wc (l.map whatV) L g) (hn : l = [] → aA = none ∧ ac = 0 ∧ wA = none ∧ wc = 0) (u0 u1 u2 u3 u4 : Value) {w' : World}
    (hw : w' = ((((wr.setCell ⟨w.heap.size + 1, 0, none⟩ u0).setCell ⟨w.heap.size + 1, 1, none⟩ u1).setCell ⟨w.heap.size + 1, 2, none⟩ u2).setCell ⟨w.heap.size + 1, 3, none⟩ u3).setCell ⟨w.heap.size + 1, 4, none⟩ u4) : RefAt w' w'.heap.size F l fA aA ac wA wc ∧ Below w.heap.size w w' := by
  subst hw
  have hq : w.heap.size + 1 < w.heap.size + 2 := by omega
  have h1 := own_low (own_low (own_low (own_low (own_low h.of 0 u0 hq) 1 u1 hq) 2 u2 hq) 3 u3 hq) 4 u4 hq
  have h2 := own_low (own_low (own_low (own_low (own_low h.oa 0 u0 hq) 1 u1 hq) 2 u2 hq) 3 u3 hq) 4 u4 hq
  have h3 := own_low (own_low (own_low (own_low (own_low h.ow 0 u0 hq) 1 u1 hq) 2 u2 hq) 3 u3 hq) 4 u4 hq
  exact ⟨⟨own_lies_ h1, own_lies_ h2, own_lies_ h3, hn⟩, ((((h.bel.setCell (by simp) _).setCell (by simp) _).setCell (by simp) _).setCell (by simp) _).setCell (by simp) _⟩
end Go.Proofs.YtjeabnlmanfplaaGreatDoor
