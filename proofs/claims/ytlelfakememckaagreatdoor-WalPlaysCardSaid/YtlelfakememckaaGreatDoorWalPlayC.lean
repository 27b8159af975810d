/- In a round of WalPlays: both disks, both logs, and the act in a block of its own. -/
import Derived.Test.YtlelfakememckaaGreatDoorWalPlayA
import Derived.Test.YtlelfakememckaaGreatDoorWalKeepA
import Derived.Test.YtlelfakememckaaGreatDoorWalY
import Derived.Test.YtlelfakememckaaGreatDoorWalJ
import Derived.Test.YtlelfakememckaaGreatDoorDiskC
namespace Go.Proofs.YtlelfakememckaaGreatDoor
open Go.RowKit

/-- The log is opened anew. -/
theorem PlaySt.opened {W wr w' : World} {F : Nat → Prop} {a X b b' Y : Nat} {v v' : WalV} {d e : DSt} {fA aA wA : Option Addr} {fc ac wc : Nat} {G P K U : Int} {ST : ByteArray} {RV : Value} (h : PlaySt W wr F a X b Y v d e fA fc aA ac wA wc G P K U ST RV) (hL : LogAt w' F b' v' d) (hv : v'.disk = a) (hb : Below wr.heap.size wr w') (hl : wr.heap.size ≤ b') :
    PlaySt W w' F a X b' Y v' d e fA fc aA ac wA wc G P K U ST RV := by
  have hX : X < wr.heap.size := heap_lt h.op.x
  have hY : Y < wr.heap.size := heap_lt h.y
  have h2 := h.later hb
  exact ⟨h2.op, hL.wal, hv, hL.ok, fun hf => by have := h.op.disk.low b' hf; omega, by omega, fun c off e hq => by have := h.op.ref.lt h.op.ok.firm_pos.1 c off e; omega, by have := h.bW; have := heap_lt h.wal; omega, h2.y, h.yF, h.yX, by omega, h.yr, h.yW⟩
/-- As at the start: the log, and the document's told in a new block. -/
theorem PlaySt.first {W w4 w5 : World} {F : Nat → Prop} {a X b : Nat} {v : WalV} {d e : DSt} {fA aA wA : Option Addr} {fc ac wc : Nat} (h : OpSt W w4 F a X d e fA fc aA ac wA wc) (hL : LogAt w4 F b v d) (hv : v.disk = a) (hbF : ¬ F b) (hbX : b ≠ X) (hbr : RefOff (fun q => q = b) fA aA wA) (hbW : W.heap.size ≤ b) (G P K U : Int) (ST : ByteArray) (RV : Value) (hb : Below w4.heap.size w4 w5) :
    PlaySt W (w5.alloc (.cells #[.int .i64 G, .int .i64 P, .int .i64 K, .int .i64 U, .string ST, RV] 38)) F a X b w5.heap.size v d e fA fc aA ac wA wc G P K U ST RV := by
  have hX : X < w4.heap.size := heap_lt h.x
  have hb4 : b < w4.heap.size := heap_lt hL.wal
  have hs := hb.size
  have h1 : Below w4.heap.size w4 (w5.alloc (.cells #[.int .i64 G, .int .i64 P, .int .i64 K, .int .i64 U, .string ST, RV] 38)) := hb.alloc hs _
  refine ⟨h.later h1, (h1.block b hb4).trans hL.wal, hv, hL.ok, hbF, hbX, hbr, hbW, Six.new _ _ _ _ _ _ _, fun hf => ?_, by omega, by omega, fun c off e hq => ?_, ?_⟩
  · have := h.disk.low _ hf; omega
  · have := h.ref.lt h.ok.firm_pos.1 c off e; omega
  · have := h.bel.size; omega

structure PlayR (W wr : World) (F : Nat → Prop) (a X b Y q : Nat) (O : Array Value) (v : WalV) (d e : DSt) (fA : Option Addr) (fc : Nat) (aA : Option Addr) (ac : Nat) (wA : Option Addr) (wc : Nat) (G P K U : Int) (ST : ByteArray) (RV : Value) : Prop where
  st : PlaySt W wr F a X b Y v d e fA fc aA ac wA wc G P K U ST RV
  act : wr.heap[q]? = some (.cells O 44 (0, 0))
  qF : ¬ F q
  qX : q ≠ X
  qb : q ≠ b
  qY : q ≠ Y
section
variable {W wr w' : World} {F : Nat → Prop} {a X b Y q : Nat} {O : Array Value} {v : WalV} {d e : DSt} {fA aA wA : Option Addr} {fc ac wc : Nat} {G P K U : Int} {ST : ByteArray} {RV : Value}
theorem PlaySt.round (h : PlaySt W wr F a X b Y v d e fA fc aA ac wA wc G P K U ST RV) (hb : Below (wr.alloc (.cells O 44)).heap.size (wr.alloc (.cells O 44)) w') : PlayR W w' F a X b Y wr.heap.size O v d e fA fc aA ac wA wc G P K U ST RV := by
  have hX : X < wr.heap.size := heap_lt h.op.x
  have hY : Y < wr.heap.size := heap_lt h.y
  have hB : b < wr.heap.size := heap_lt h.wal
  have h1 : Below wr.heap.size wr w' := ((Below.refl _ _).alloc (Nat.le_refl _) _).trans (hb.mono (by simp))
  exact ⟨h.later h1, (hb.block _ (by simp)).trans (heap_alloc_new _ _), fun hf => by have := h.op.disk.low _ hf; omega, by omega, by omega, by omega⟩
theorem PlayR.later (h : PlayR W wr F a X b Y q O v d e fA fc aA ac wA wc G P K U ST RV) (hb : Below wr.heap.size wr w') : PlayR W w' F a X b Y q O v d e fA fc aA ac wA wc G P K U ST RV :=
  ⟨h.st.later hb, (hb.block q (heap_lt h.act)).trans h.act, h.qF, h.qX, h.qb, h.qY⟩
theorem PlayR.opened {b' : Nat} {v' : WalV} (h : PlayR W wr F a X b Y q O v d e fA fc aA ac wA wc G P K U ST RV) (hL : LogAt w' F b' v' d) (hv : v'.disk = a) (hb : Below wr.heap.size wr w') (hl : wr.heap.size ≤ b') :
    PlayR W w' F a X b' Y q O v' d e fA fc aA ac wA wc G P K U ST RV :=
  ⟨h.st.opened hL hv hb hl, (hb.block q (heap_lt h.act)).trans h.act, h.qF, h.qX, by have := heap_lt h.act; omega, h.qY⟩
theorem PlayR.did {d' : DSt} {u : Value} {en : Ending} (h : PlayR W wr F a X b Y q O v d e fA fc aA ac wA wc G P K U ST RV) (hd : DiskEnd wr F a d' u en w') (hl : d'.seen.length = d.seen.length) : en = .returned u ∧ ∃ F', PlayR W w' F' a X b Y q O v d' e fA fc aA ac wA wc G P K U ST RV := by
  obtain ⟨he, hm, F', hk, hF⟩ := hd
  have hq := heap_lt h.act
  exact ⟨he, F', h.st.step (hm.mono fun _ => .inl) hk hF ((hm.block b (heap_lt h.st.wal) h.st.bF).trans h.st.wal) h.st.dk (by rw [hl]; exact h.st.vok), (hm.block q hq h.qF).trans h.act, fun hf => (hF q hf).elim h.qF (fun e => by omega), h.qX, h.qb, h.qY⟩
theorem PlayR.call {d' : DSt} {v' : WalV} {name : ByteArray} {k : Int} {en : Ending} (h : PlayR W wr F a X b Y q O v d e fA fc aA ac wA wc G P K U ST RV) (hc : CallEnd wr F b v' d' name k en w') (hv : v'.disk = a) :
    (if k = 0 then en = .returned .nilIface else ∃ p, en = .returned (.iface 103 (.pointer (some ⟨p, 0, none⟩))) ∧ w'.heap[p]? = some (.cells (faultV name k) 105 (0, 0))) ∧ ∃ F', PlayR W w' F' a X b Y q O (if k = 7 then { v' with down := true } else v') d' e fA fc aA ac wA wc G P K U ST RV := by
  obtain ⟨he, F', hL, _, hm, hF⟩ := hc
  have hd : (if k = 7 then { v' with down := true } else v').disk = a := by split <;> exact hv
  have hk := hL.disk
  rw [hd] at hk
  have hq := heap_lt h.act
  exact ⟨he, F', h.st.step hm hk hF hL.wal hd hL.ok, (hm.block q hq (fun e => e.elim h.qF h.qb)).trans h.act, fun hf => (hF q hf).elim h.qF (fun e => by omega), h.qX, h.qb, h.qY⟩
theorem PlayR.laid {e' : DSt} {fA' aA' wA' : Option Addr} {fc' ac' wc' : Nat} (h : PlayR W wr F a X b Y q O v d e fA fc aA ac wA wc G P K U ST RV) (ho : e'.Ok) (ht : e'.Tru) (hr' : RefAt w' w'.heap.size e'.firm e'.loose fA' aA' ac' wA' wc') (hb : Below wr.heap.size wr w') (hfr : RefFresh wr.heap.size fA aA wA fA' aA' wA') :
    PlayR W (((((w'.setCell ⟨X, 0, none⟩ (.slice fA' e'.firm.length fc')).setCell ⟨X, 1, none⟩ (.slice aA' e'.loose.length ac')).setCell ⟨X, 2, none⟩ (.slice wA' e'.loose.length wc')).setCell ⟨X, 3, none⟩ (.int .i64 e'.leftR)).setCell ⟨X, 4, none⟩ (.bool e'.off)) F a X b Y q O v d e' fA' fc' aA' ac' wA' wc' G P K U ST RV := by
  refine ⟨h.st.laid ho ht hr' hb hfr, ?_, h.qF, h.qX, h.qb, h.qY⟩
  have hH := h.qX
  exact (Below.heap_setCell _ _ _ _ hH).trans ((Below.heap_setCell _ _ _ _ hH).trans ((Below.heap_setCell _ _ _ _ hH).trans ((Below.heap_setCell _ _ _ _ hH).trans ((Below.heap_setCell _ _ _ _ hH).trans ((hb.block q (heap_lt h.act)).trans h.act)))))
theorem PlayR.told (h : PlayR W wr F a X b Y q O v d e fA fc aA ac wA wc G P K U ST RV) (G2 P2 K2 U2 : Int) (ST2 : ByteArray) (RV2 : Value) :
    PlayR W ((((((wr.setCell ⟨Y, 0, none⟩ (.int .i64 G2)).setCell ⟨Y, 1, none⟩ (.int .i64 P2)).setCell ⟨Y, 2, none⟩ (.int .i64 K2)).setCell ⟨Y, 3, none⟩ (.int .i64 U2)).setCell ⟨Y, 4, none⟩ (.string ST2)).setCell ⟨Y, 5, none⟩ RV2) F a X b Y q O v d e fA fc aA ac wA wc G2 P2 K2 U2 ST2 RV2 := by
  refine ⟨h.st.told G2 P2 K2 U2 ST2 RV2, ?_, h.qF, h.qX, h.qb, h.qY⟩
  have hH := h.qY
  exact (Below.heap_setCell _ _ _ _ hH).trans ((Below.heap_setCell _ _ _ _ hH).trans ((Below.heap_setCell _ _ _ _ hH).trans ((Below.heap_setCell _ _ _ _ hH).trans ((Below.heap_setCell _ _ _ _ hH).trans ((Below.heap_setCell _ _ _ _ hH).trans h.act)))))
theorem PlayR.cells {xk xn : Int} {S : ByteArray} {xA : Option Addr} {xl xc : Nat} (h : PlayR W wr F a X b Y q #[.int .i64 xk, .int .i64 xn, .string S, .slice xA xl xc] v d e fA fc aA ac wA wc G P K U ST RV) :
    wr.cell? ⟨q, 0, none⟩ = some (.int .i64 xk) ∧ wr.cell? ⟨q, 1, none⟩ = some (.int .i64 xn) ∧ wr.cell? ⟨q, 2, none⟩ = some (.string S) ∧ wr.cell? ⟨q, 3, none⟩ = some (.slice xA xl xc) := by
  refine ⟨?_, ?_, ?_, ?_⟩ <;> rw [Lib.cell_of_heap h.act] <;> rfl
end
end Go.Proofs.YtlelfakememckaaGreatDoor
