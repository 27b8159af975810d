/- A disk and the document's disk, each holding a state of its own: what a call on the one or the other leaves. For WalOpens. -/
import Derived.Test.YtjeabnlmanfplaaGreatDoorDiskG
import Derived.Test.YtjeabnlmanfplaaGreatDoorRefF
import Derived.Test.YtjeabnlmanfplaaGreatDoorRefW
import Derived.Test.YtjeabnlmanfplaaGreatDoorRefR
import Derived.Test.YtjeabnlmanfplaaGreatDoorDiskX
namespace Go.Proofs.YtjeabnlmanfplaaGreatDoor
open Go.RowKit

/-- No block of the document's disk is the disk's. -/
def RefOff (F : Nat → Prop) (fA aA wA : Option Addr) : Prop := ∀ b off, (fA = some ⟨b, off, none⟩ ∨ aA = some ⟨b, off, none⟩ ∨ wA = some ⟨b, off, none⟩) → ¬ F b

theorem Lies.moves {w w' : World} {F : Nat → Prop} {A : Option Addr} {cs : List Value} (h : Lies w w.heap.size A cs) (hm : Moves F w w') (hn : ∀ b off, A = some ⟨b, off, none⟩ → ¬ F b) : Lies w' w'.heap.size A cs := by
  rcases h with h | ⟨b, off, hA, hlt, hc⟩
  · exact .inl h
  · exact .inr ⟨b, off, hA, Nat.lt_of_lt_of_le hlt hm.size, fun i hi => (World.cell?_of_block (a := ⟨b, off + i, none⟩) (hm.block b hlt (hn b off hA))).trans (hc i hi)⟩
theorem Lies.setOff {w : World} {B : Nat} {A : Option Addr} {cs : List Value} (h : Lies w B A cs) {p : Addr} (hn : ∀ b off, A = some ⟨b, off, none⟩ → b ≠ p.block) (u : Value) : Lies (w.setCell p u) B A cs := by
  rcases h with h | ⟨b, off, rfl, hlt, hc⟩
  · exact .inl h
  · exact (Lies.setFar (.inr ⟨b, off, rfl, hlt, hc⟩) (hn b off rfl) u)

section
variable {w w' : World} {F F' : Nat → Prop} {f : List (List UInt8)} {l : List (Nat × List UInt8)} {fA aA wA : Option Addr} {ac wc B : Nat}

theorem RefAt.lt (h : RefAt w B f l fA aA ac wA wc) (hf : 0 < f.length) : ∀ b off, (fA = some ⟨b, off, none⟩ ∨ aA = some ⟨b, off, none⟩ ∨ wA = some ⟨b, off, none⟩) → b < B := by
  have key : ∀ {A : Option Addr} {cs : List Value}, Lies w B A cs → cs ≠ [] → ∀ b off, A = some ⟨b, off, none⟩ → b < B := fun hl hn b off hA => by
    obtain ⟨b', off', h1, h2, _⟩ := hl.at_ hn
    rw [hA] at h1
    simp only [Option.some.injEq, Addr.mk.injEq, and_true] at h1
    omega
  by_cases hl : l = []
  · obtain ⟨h1, _, h3, _⟩ := h.none_ hl
    rintro b off (e | e | e)
    · exact key h.firm (fun e => by simp at e; subst e; simp at hf) b off e
    · rw [h1] at e; cases e
    · rw [h3] at e; cases e
  · rintro b off (e | e | e)
    · exact key h.firm (fun e => by simp at e; subst e; simp at hf) b off e
    · exact key h.at_ (by simpa using hl) b off e
    · exact key h.what (by simpa using hl) b off e
theorem RefAt.moves (h : RefAt w w.heap.size f l fA aA ac wA wc) (hm : Moves F w w') (ho : RefOff F fA aA wA) : RefAt w' w'.heap.size f l fA aA ac wA wc :=
  ⟨h.firm.moves hm (fun b off e => ho b off (.inl e)), h.at_.moves hm (fun b off e => ho b off (.inr (.inl e))), h.what.moves hm (fun b off e => ho b off (.inr (.inr e))), h.none_⟩
theorem RefAt.setOff (h : RefAt w B f l fA aA ac wA wc) {p : Addr} (hn : ∀ b off, (fA = some ⟨b, off, none⟩ ∨ aA = some ⟨b, off, none⟩ ∨ wA = some ⟨b, off, none⟩) → b ≠ p.block) (u : Value) : RefAt (w.setCell p u) B f l fA aA ac wA wc :=
  ⟨h.firm.setOff (fun b off e => hn b off (.inl e)) u, h.at_.setOff (fun b off e => hn b off (.inr (.inl e))) u, h.what.setOff (fun b off e => hn b off (.inr (.inr e))) u, h.none_⟩
theorem RefOff.next (ho : RefOff F fA aA wA) (hlt : ∀ b off, (fA = some ⟨b, off, none⟩ ∨ aA = some ⟨b, off, none⟩ ∨ wA = some ⟨b, off, none⟩) → b < w.heap.size) (hF : ∀ k, F' k → F k ∨ w.heap.size ≤ k) : RefOff F' fA aA wA := fun b off e hf => by
  rcases hF b hf with h | h
  · exact ho b off e h
  · have := hlt b off e; omega
theorem RefFresh.off {fA0 aA0 wA0 : Option Addr} (hfr : RefFresh B fA0 aA0 wA0 fA aA wA) (ho : RefOff F fA0 aA0 wA0) (hlow : ∀ k, F k → k < B) : RefOff F fA aA wA := fun b off e hf => by
  rcases hfr b off e with h | h
  · have := hlow b hf; omega
  · exact ho b off h hf
end
theorem IsDisk.setNew5 {F : Nat → Prop} {w : World} {a : Nat} {d : DSt} (h : IsDisk w F a d) {p : Addr} (hp : ¬ F p.block) (u : Value) : IsDisk (w.setCell p u) F a d :=
  h.kept (G := fun q => q = p.block) ((Moves.refl (fun q => q = p.block) w).setCell (p := p) rfl u) (fun q hq hf => hp (by subst hq; exact hf))

/-- A disk at block a holds d; the document's disk, its struct at block X, holds e. -/
structure OpSt (W wr : World) (F : Nat → Prop) (a X : Nat) (d e : DSt) (fA : Option Addr) (fc : Nat) (aA : Option Addr) (ac : Nat) (wA : Option Addr) (wc : Nat) : Prop where
  disk : IsDisk wr F a d
  ok : e.Ok
  tru : e.Tru
  ref : RefAt wr wr.heap.size e.firm e.loose fA aA ac wA wc
  off : RefOff F fA aA wA
  x : Five wr X (.slice fA e.firm.length fc) (.slice aA e.loose.length ac) (.slice wA e.loose.length wc) (.int .i64 e.leftR) (.bool e.off)
  xF : ¬ F X
  xr : ∀ b off, (fA = some ⟨b, off, none⟩ ∨ aA = some ⟨b, off, none⟩ ∨ wA = some ⟨b, off, none⟩) → b ≠ X
  xW : W.heap.size ≤ X
  new : ∀ k, F k → W.heap.size ≤ k
  bel : Below W.heap.size W wr
section
variable {W wr : World} {F : Nat → Prop} {a X : Nat} {d e : DSt} {fA aA wA : Option Addr} {fc ac wc : Nat}
theorem OpSt.later {w' : World} (h : OpSt W wr F a X d e fA fc aA ac wA wc) (hb : Below wr.heap.size wr w') : OpSt W w' F a X d e fA fc aA ac wA wc :=
  ⟨h.disk.below hb, h.ok, h.tru, h.ref.next hb, h.off, h.x.below hb (heap_lt h.x), h.xF, h.xr, h.xW, h.new, h.bel.trans (hb.mono h.bel.size)⟩
/-- Behind a call on the disk. -/
theorem OpSt.did {d' : DSt} {v : Value} {en : Ending} {w' : World} (h : OpSt W wr F a X d e fA fc aA ac wA wc) (hd : DiskEnd wr F a d' v en w') : en = .returned v ∧ ∃ F', OpSt W w' F' a X d' e fA fc aA ac wA wc := by
  obtain ⟨he, hm, F', hk, hF⟩ := hd
  have hX : X < wr.heap.size := heap_lt h.x
  have hlt := h.ref.lt h.ok.firm_pos.1
  exact ⟨he, F', hk, h.ok, h.tru, h.ref.moves hm h.off, h.off.next hlt hF, (hm.block X hX h.xF).trans h.x, fun hf => (hF X hf).elim h.xF (fun h' => by omega), h.xr, h.xW, fun q hq => (hF q hq).elim (h.new q) (fun h' => Nat.le_trans h.bel.size h'), h.bel.trans (hm.below h.bel.size h.new)⟩
/-- Behind a call of the document, its disk laid over. -/
theorem OpSt.ask {e' : DSt} {code : Int} {en : Ending} {w' : World} (h : OpSt W wr F a X d e fA fc aA ac wA wc) (ho : e'.Ok) (ht : e'.Tru) (hr : RefRet fA aA wA e' code wr en w') :
    ∃ fA' fc' aA' ac' wA' wc', en = .returned (.tuple #[.agg #[.slice fA' e'.firm.length fc', .slice aA' e'.loose.length ac', .slice wA' e'.loose.length wc', .int .i64 e'.leftR, .bool e'.off], .int .i64 code]) ∧ Below wr.heap.size wr w' ∧
      OpSt W (((((w'.setCell ⟨X, 0, none⟩ (.slice fA' e'.firm.length fc')).setCell ⟨X, 1, none⟩ (.slice aA' e'.loose.length ac')).setCell ⟨X, 2, none⟩ (.slice wA' e'.loose.length wc')).setCell ⟨X, 3, none⟩ (.int .i64 e'.leftR)).setCell ⟨X, 4, none⟩ (.bool e'.off)) F a X d e' fA' fc' aA' ac' wA' wc' := by
  obtain ⟨fA', fc', aA', ac', wA', wc', he, hr', hb, hfr⟩ := hr
  have hX : X < wr.heap.size := heap_lt h.x
  have hxr : ∀ b off, (fA' = some ⟨b, off, none⟩ ∨ aA' = some ⟨b, off, none⟩ ∨ wA' = some ⟨b, off, none⟩) → b ≠ X := fun b off q => by
    rcases hfr b off q with h' | h'
    · omega
    · exact h.xr b off h'
  have hx' := h.x.below hb hX
  have hd' := h.disk.below hb
  have hW : ∀ j, W.heap.size ≤ (⟨X, j, none⟩ : Addr).block := fun j => h.xW
  refine ⟨fA', fc', aA', ac', wA', wc', he, hb, ⟨((((hd'.setNew5 h.xF _).setNew5 h.xF _).setNew5 h.xF _).setNew5 h.xF _).setNew5 h.xF _, ho, ht, ?_, hfr.off h.off h.disk.low, ((((Five.set0 hx' _).set1 _).set2 _).set3 _).set4 _, h.xF, hxr, h.xW, h.new, (((((h.bel.trans (hb.mono h.bel.size)).setCell (hW _) _).setCell (hW _) _).setCell (hW _) _).setCell (hW _) _).setCell (hW _) _⟩⟩
  refine RefAt.more (B := w'.heap.size) ?_ (by simp)
  exact ((((hr'.setOff hxr _).setOff hxr _).setOff hxr _).setOff hxr _).setOff hxr _
end
theorem tru_new0 (n : Nat) : (DSt.new n).Tru := rfl
theorem op_first {W w1 w2 : World} {a n : Nat} {F : Nat → Prop} {fA : Option Addr} {fc : Nat} (h1 : 1 ≤ n) (hd : IsDisk w1 F a (DSt.new n)) (hF : ∀ k, F k → W.heap.size ≤ k) (hb : Below W.heap.size W w1) (hr : RefAt w2 w2.heap.size (zeroL n) [] fA none 0 none 0) (hb2 : Below w1.heap.size w1 w2) (hfr : ∀ b off, fA = some ⟨b, off, none⟩ → w1.heap.size ≤ b) :
    OpSt W (w2.alloc (.cells #[.slice fA n fc, .slice none 0 0, .slice none 0 0, .int .i64 (-1), .bool false] 30)) F a w2.heap.size (DSt.new n) (DSt.new n) fA fc none 0 none 0 := by
  have hlen : (DSt.new n).firm.length = n := by simp [DSt.new]
  have hba : Below w2.heap.size w2 (w2.alloc (.cells #[.slice fA n fc, .slice none 0 0, .slice none 0 0, .int .i64 (-1), .bool false] 30)) := (Below.refl _ _).alloc (Nat.le_refl _) _
  have hr' : RefAt w2 w2.heap.size (DSt.new n).firm (DSt.new n).loose fA none 0 none 0 := hr
  have hlt := hr'.lt (by rw [hlen]; exact h1)
  have hbw : Below W.heap.size W w2 := hb.trans (hb2.mono hb.size)
  refine ⟨(hd.below hb2).below hba, hd.1, tru_new0 n, hr'.next hba, ?_, ?_, ?_, ?_, hbw.size, hF, hbw.trans (hba.mono hbw.size)⟩
  · rintro b off (e | e | e) hf
    · have := hfr b off e; have := hd.low b hf; omega
    · cases e
    · cases e
  · rw [hlen]
    exact Five.new _ _ _ _ _ _
  · intro hf; have := hd.low _ hf; have := hb2.size; omega
  · intro b off e; have := hlt b off e; omega
end Go.Proofs.YtjeabnlmanfplaaGreatDoor
