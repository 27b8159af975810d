/- act over a disk and the document's disk, both holding the same: what it answers and leaves. The memory words, and Flush, Read, Arm. -/
import Derived.Test.YtocafhaakeflbaaDiskG
import Derived.Test.YtocafhaakeflbaaRefF
import Derived.Deep.RegionWith
namespace Go.Proofs.Ytocafhaakeflbaa
open Go.RowKit

/-- What an act does to a disk. -/
def actS (d : DSt) (x : ActV) : DSt :=
  if kindN x.k = 3 then d.flushD else if kindN x.k = 4 then d else if kindN x.k = 5 then d.armD x.n else if kindN x.k = 6 then d.crashD x.bs else d.writeD x.at_ x.s.data.toList

/-- No block of the document's disk is the disk's. -/
def RefOff (F : Nat → Prop) (fA aA wA : Option Addr) : Prop := ∀ b off, (fA = some ⟨b, off, none⟩ ∨ aA = some ⟨b, off, none⟩ ∨ wA = some ⟨b, off, none⟩) → ¬ F b

theorem Lies.moves {w w' : World} {F : Nat → Prop} {A : Option Addr} {cs : List Value} (h : Lies w w.heap.size A cs) (hm : Moves F w w') (hn : ∀ b off, A = some ⟨b, off, none⟩ → ¬ F b) : Lies w' w'.heap.size A cs := by
  rcases h with h | ⟨b, off, hA, hlt, hc⟩
  · exact .inl h
  · exact .inr ⟨b, off, hA, Nat.lt_of_lt_of_le hlt hm.size, fun i hi => (World.cell?_of_block (a := ⟨b, off + i, none⟩) (hm.block b hlt (hn b off hA))).trans (hc i hi)⟩
theorem Lies.setOff {w : World} {B : Nat} {A : Option Addr} {cs : List Value} (h : Lies w B A cs) {p : Addr} (hn : ∀ b off, A = some ⟨b, off, none⟩ → b ≠ p.block) (u : Value) : Lies (w.setCell p u) B A cs := by
  rcases h with h | ⟨b, off, rfl, hlt, hc⟩
  · exact .inl h
  · exact (Lies.setFar (.inr ⟨b, off, rfl, hlt, hc⟩) (hn b off rfl) u)

section
variable {w w' : World} {F F' : Nat → Prop} {f : List (List UInt8)} {l : List (Nat × List UInt8)} {fA aA wA : Option Addr} {ac wc B : Nat}

theorem RefAt.lt (h : RefAt w B f l fA aA ac wA wc) (hf : 0 < f.length) : ∀ b off, (fA = some ⟨b, off, none⟩ ∨ aA = some ⟨b, off, none⟩ ∨ wA = some ⟨b, off, none⟩) → b < B := by
  have key : ∀ {A : Option Addr} {cs : List Value}, Lies w B A cs → cs ≠ [] → ∀ b off, A = some ⟨b, off, none⟩ → b < B := fun hl hn b off hA => by
    obtain ⟨b', off', h1, h2, _⟩ := hl.at_ hn
    rw [hA] at h1
    simp only [Option.some.injEq, Addr.mk.injEq, and_true] at h1
    omega
  by_cases hl : l = []
  · obtain ⟨h1, _, h3, _⟩ := h.none_ hl
    rintro b off (e | e | e)
    · exact key h.firm (fun e => by simp at e; subst e; simp at hf) b off e
    · rw [h1] at e; cases e
    · rw [h3] at e; cases e
  · rintro b off (e | e | e)
    · exact key h.firm (fun e => by simp at e; subst e; simp at hf) b off e
    · exact key h.at_ (by simpa using hl) b off e
    · exact key h.what (by simpa using hl) b off e
theorem RefAt.moves (h : RefAt w w.heap.size f l fA aA ac wA wc) (hm : Moves F w w') (ho : RefOff F fA aA wA) : RefAt w' w'.heap.size f l fA aA ac wA wc :=
  ⟨h.firm.moves hm (fun b off e => ho b off (.inl e)), h.at_.moves hm (fun b off e => ho b off (.inr (.inl e))), h.what.moves hm (fun b off e => ho b off (.inr (.inr e))), h.none_⟩
theorem RefAt.setOff (h : RefAt w B f l fA aA ac wA wc) {p : Addr} (hn : ∀ b off, (fA = some ⟨b, off, none⟩ ∨ aA = some ⟨b, off, none⟩ ∨ wA = some ⟨b, off, none⟩) → b ≠ p.block) (u : Value) : RefAt (w.setCell p u) B f l fA aA ac wA wc :=
  ⟨h.firm.setOff (fun b off e => hn b off (.inl e)) u, h.at_.setOff (fun b off e => hn b off (.inr (.inl e))) u, h.what.setOff (fun b off e => hn b off (.inr (.inr e))) u, h.none_⟩
theorem RefOff.next (ho : RefOff F fA aA wA) (hlt : ∀ b off, (fA = some ⟨b, off, none⟩ ∨ aA = some ⟨b, off, none⟩ ∨ wA = some ⟨b, off, none⟩) → b < w.heap.size) (hF : ∀ k, F' k → F k ∨ w.heap.size ≤ k) : RefOff F' fA aA wA := fun b off e hf => by
  rcases hF b hf with h | h
  · exact ho b off e h
  · have := hlt b off e; omega
theorem RefFresh.off {fA0 aA0 wA0 : Option Addr} (hfr : RefFresh B fA0 aA0 wA0 fA aA wA) (ho : RefOff F fA0 aA0 wA0) (hlow : ∀ k, F k → k < B) : RefOff F fA aA wA := fun b off e hf => by
  rcases hfr b off e with h | h
  · have := hlow b hf; omega
  · exact ho b off h hf
end

def actCells (x : ActV) : Array Value := #[.int .i64 x.k, .int .i64 x.at_, .int .i64 x.n, .string x.s, .slice x.A x.len x.cap]

/-- The three blocks that act makes. -/
structure Blk (H : Nat) (x : ActV) (v0 v1 v2 v3 v4 : Value) (w : World) : Prop where
  d : Five w H v0 v1 v2 v3 v4
  a : w.heap[H + 1]? = some (.cells (actCells x) 39 (0, 0))
  r : Five w (H + 1 + 1) (.slice none 0 0) (.slice none 0 0) (.slice none 0 0) (.int .i64 0) (.bool false)
  size : H + 3 ≤ w.heap.size

section
variable {H : Nat} {x : ActV} {v0 v1 v2 v3 v4 : Value} {w w' : World} {F : Nat → Prop}
theorem Blk.moves (h : Blk H x v0 v1 v2 v3 v4 w) (hm : Moves F w w') (hF : ∀ q, F q → q < H) : Blk H x v0 v1 v2 v3 v4 w' := by
  have := hm.size
  have h3 := h.size
  have hn : ∀ q, H ≤ q → ¬ F q := fun q hq hf => by have := hF q hf; omega
  exact ⟨(hm.block H (by omega) (hn _ (by omega))).trans h.d, (hm.block (H + 1) (by omega) (hn _ (by omega))).trans h.a, (hm.block (H + 1 + 1) (by omega) (hn _ (by omega))).trans h.r, by omega⟩
theorem Blk.below (h : Blk H x v0 v1 v2 v3 v4 w) (hb : Below w.heap.size w w') : Blk H x v0 v1 v2 v3 v4 w' := h.moves (Moves.of_below (F := fun _ => False) hb) (fun _ h => h.elim)
theorem Blk.act (h : Blk H x v0 v1 v2 v3 v4 w) : w.cell? ⟨H + 1, 0, none⟩ = some (.int .i64 x.k) ∧ w.cell? ⟨H + 1, 1, none⟩ = some (.int .i64 x.at_) ∧ w.cell? ⟨H + 1, 2, none⟩ = some (.int .i64 x.n) ∧ w.cell? ⟨H + 1, 3, none⟩ = some (.string x.s) ∧ w.cell? ⟨H + 1, 4, none⟩ = some (.slice x.A x.len x.cap) := by
  refine ⟨?_, ?_, ?_, ?_, ?_⟩ <;> rw [Lib.cell_of_heap h.a] <;> rfl
end

theorem blk_first (w : World) (x : ActV) (v0 v1 v2 v3 v4 : Value) : Blk w.heap.size x v0 v1 v2 v3 v4 (((w.alloc (.cells #[v0, v1, v2, v3, v4] 35)).alloc (.cells (actCells x) 39)).alloc (.cells #[.slice none 0 0, .slice none 0 0, .slice none 0 0, .int .i64 0, .bool false] 35)) := by
  have h3 := heap_three w (.cells #[v0, v1, v2, v3, v4] 35) (.cells (actCells x) 39) (.cells #[.slice none 0 0, .slice none 0 0, .slice none 0 0, .int .i64 0, .bool false] 35)
  exact ⟨h3.1, h3.2.1, h3.2.2.1, Nat.le_of_eq h3.2.2.2.symm⟩

/-- What act leaves. -/
def ActRet (fA0 aA0 wA0 : Option Addr) (w : World) (F : Nat → Prop) (a : Nat) (d : DSt) (e : Ending) (w' : World) : Prop :=
  ∃ fA fc aA ac wA wc, e = .returned (.tuple #[.agg #[.slice fA d.firm.length fc, .slice aA d.loose.length ac, .slice wA d.loose.length wc, .int .i64 d.leftR, .bool d.off], .bool true]) ∧ Moves F w w' ∧
    RefAt w' w'.heap.size d.firm d.loose fA aA ac wA wc ∧ (∃ F', IsDisk w' F' a d ∧ (∀ k, F' k → F k ∨ w.heap.size ≤ k) ∧ RefOff F' fA aA wA) ∧ RefFresh w.heap.size fA0 aA0 wA0 fA aA wA

theorem Moves.setNew5 {F : Nat → Prop} {a w : World} (h : Moves F a w) {p : Addr} (hp : a.heap.size ≤ p.block) (u : Value) : Moves F a (w.setCell p u) :=
  ⟨h.os, h.tape, h.output, by simp [World.setCell]; exact h.size, fun k hk hn => by rw [Below.heap_setCell _ _ _ _ (by omega)]; exact h.block k hk hn⟩
theorem IsDisk.setNew5 {F : Nat → Prop} {w : World} {a : Nat} {d : DSt} (h : IsDisk w F a d) {p : Addr} (hp : ¬ F p.block) (u : Value) : IsDisk (w.setCell p u) F a d :=
  h.kept (G := fun q => q = p.block) ((Moves.refl (fun q => q = p.block) w).setCell (p := p) rfl u) (fun q hq hf => hp (by subst hq; exact hf))

/-- Behind act's last stores. -/
theorem actRet_end {w w5 : World} {F F' : Nat → Prop} {a H : Nat} {d : DSt} {fA aA wA fA0 aA0 wA0 : Option Addr} {fc ac wc : Nat} (hm : Moves F w w5) (hd : IsDisk w5 F' a d) (hF : ∀ k, F' k → F k ∨ w.heap.size ≤ k) (hH : w.heap.size ≤ H) (hn : ¬ F' H)
    (hr : RefAt w5 w5.heap.size d.firm d.loose fA aA ac wA wc) (ho : RefOff F' fA aA wA) (hx : ∀ b off, (fA = some ⟨b, off, none⟩ ∨ aA = some ⟨b, off, none⟩ ∨ wA = some ⟨b, off, none⟩) → b ≠ H) (hfr : RefFresh w.heap.size fA0 aA0 wA0 fA aA wA) (u0 u1 u2 u3 u4 : Value) :
    ActRet fA0 aA0 wA0 w F a d (.returned (.tuple #[.agg #[.slice fA d.firm.length fc, .slice aA d.loose.length ac, .slice wA d.loose.length wc, .int .i64 d.leftR, .bool d.off], .bool true])) (((((w5.setCell ⟨H, 0, none⟩ u0).setCell ⟨H, 1, none⟩ u1).setCell ⟨H, 2, none⟩ u2).setCell ⟨H, 3, none⟩ u3).setCell ⟨H, 4, none⟩ u4) := by
  refine ⟨fA, fc, aA, ac, wA, wc, rfl, ((((hm.setNew5 hH _).setNew5 hH _).setNew5 hH _).setNew5 hH _).setNew5 hH _, ?_, ⟨F', ((((hd.setNew5 hn _).setNew5 hn _).setNew5 hn _).setNew5 hn _).setNew5 hn _, hF, ho⟩, hfr⟩
  refine RefAt.more (B := w5.heap.size) ?_ (by simp)
  exact ((((hr.setOff hx _).setOff hx _).setOff hx _).setOff hx _).setOff hx _

/-- What act is called with. -/
structure ActIn (w W : World) (F : Nat → Prop) (a : Nat) (d : DSt) (x : ActV) (fA aA : Option Addr) (ac : Nat) (wA : Option Addr) (wc : Nat) : Prop where
  disk : IsDisk w F a d
  tru : d.Tru
  ref : RefAt w w.heap.size d.firm d.loose fA aA ac wA wc
  off : RefOff F fA aA wA
  act : ActOk W x
  bel : Below W.heap.size W w
  new : ∀ k, F k → W.heap.size ≤ k
  loose : d.loose.length ≤ 1000000

/-- Behind act's first call. -/
structure ActMid (w w4 W : World) (F : Nat → Prop) (a : Nat) (d : DSt) (x : ActV) (fA : Option Addr) (fc : Nat) (aA : Option Addr) (ac : Nat) (wA : Option Addr) (wc : Nat) : Prop where
  blk : Blk w.heap.size x (.slice fA d.firm.length fc) (.slice aA d.loose.length ac) (.slice wA d.loose.length wc) (.int .i64 d.leftR) (.bool d.off) w4
  disk : IsDisk w4 F a d
  mov : Moves F w w4
  bel : Below W.heap.size W w4
  ref : RefAt w4 w4.heap.size d.firm d.loose fA aA ac wA wc
  low : ∀ k, F k → k < w.heap.size
  lt : ∀ b off, (fA = some ⟨b, off, none⟩ ∨ aA = some ⟨b, off, none⟩ ∨ wA = some ⟨b, off, none⟩) → b < w.heap.size

theorem actMid {w w4 W : World} {F : Nat → Prop} {a : Nat} {d : DSt} {x : ActV} {fA aA wA : Option Addr} {fc ac wc : Nat} (h : ActIn w W F a d x fA aA ac wA wc)
    (hb4 : Below (((w.alloc (.cells #[.slice fA d.firm.length fc, .slice aA d.loose.length ac, .slice wA d.loose.length wc, .int .i64 d.leftR, .bool d.off] 35)).alloc (.cells (actCells x) 39)).alloc (.cells #[.slice none 0 0, .slice none 0 0, .slice none 0 0, .int .i64 0, .bool false] 35)).heap.size (((w.alloc (.cells #[.slice fA d.firm.length fc, .slice aA d.loose.length ac, .slice wA d.loose.length wc, .int .i64 d.leftR, .bool d.off] 35)).alloc (.cells (actCells x) 39)).alloc (.cells #[.slice none 0 0, .slice none 0 0, .slice none 0 0, .int .i64 0, .bool false] 35)) w4) :
    ActMid w w4 W F a d x fA fc aA ac wA wc := by
  have hbx : Below w.heap.size w w4 := ((((Below.refl _ _).alloc (Nat.le_refl _) _).alloc (by simp) _).alloc (by simp; omega) _).trans (hb4.mono (by simp; omega))
  exact ⟨(blk_first w x _ _ _ _ _).below hb4, h.disk.below hbx, Moves.of_below hbx, h.bel.trans (hbx.mono h.bel.size), h.ref.next hbx, h.disk.low, h.ref.lt h.disk.1.firm_pos.1⟩

set_option maxHeartbeats 4000000 in
set_option maxRecDepth 100000 in
theorem act_read {w W : World} {F : Nat → Prop} {a : Nat} {d : DSt} {x : ActV} {fA aA wA : Option Addr} {fc ac wc : Nat} (h : ActIn w W F a d x fA aA ac wA wc) (hq : kindN x.k = 4) :
    Calls Try.prog 18 #[.pointer (some ⟨a, 0, none⟩), .agg #[.slice fA d.firm.length fc, .slice aA d.loose.length ac, .slice wA d.loose.length wc, .int .i64 d.leftR, .bool d.off], .agg #[.int .i64 x.k, .int .i64 x.at_, .int .i64 x.n, .string x.s, .slice x.A x.len x.cap]] w (ActRet fA aA wA w F a (actS d x)) := by
  have HIn := Lib.hid h
  have hAD : actS d x = d := by unfold actS; rw [hq]; rfl
  rw [hAD]
  clear h hAD
  go_enter Try.func18, Try.ntmps18
  go_wp2_with fail
  refine (kind_any _ _ _ _ _ _).mono ?_
  rintro e w4 ⟨rfl, hb4⟩
  have HM := Lib.hid (actMid (fc := fc) HIn.out hb4)
  rw [hq]
  clear hb4 hq
  obtain ⟨c0, c1, c2, c3, c4, cf⟩ := HM.out.blk.d.cells
  obtain ⟨d0, d1, d2, d3, d4⟩ := HM.out.blk.act
  go_wp2_with fail
  refine (Read_any HM.out.disk x.at_).mono ?_
  rintro e w' ⟨rfl, rfl⟩
  go_wp2_with fail
  refine (RefRead_any HM.out.disk.1 HIn.out.tru HM.out.ref (by have := HIn.out.loose; omega) x.at_ _).mono ?_
  rintro e w5 ⟨rfl, hb5⟩
  have HB5 := Lib.hid (HM.out.blk.below hb5)
  have HD5 := Lib.hid (HM.out.disk.below hb5)
  have HM5 : Hid (Moves F w w5) := Lib.hid (HM.out.mov.trans (G := fun _ => False) (Moves.of_below hb5) (fun _ h => h.elim))
  have HR5 := Lib.hid (HM.out.ref.next hb5)
  clear c0 c1 c2 c3 c4 cf d0 d1 d2 d3 d4 hb5
  obtain ⟨c0, c1, c2, c3, c4, cf⟩ := HB5.out.d.cells
  obtain ⟨e0, e1, e2, e3, e4, ef⟩ := HB5.out.r.cells
  go_wp2_with fail
  exact bodyPost_ret (v := .tuple #[.agg #[.slice fA d.firm.length fc, .slice aA d.loose.length ac, .slice wA d.loose.length wc, .int .i64 d.leftR, .bool d.off], .bool true]) (by simp [results, Try.results18, go_sem, e0, e1, e2, e3, e4]) rfl
    (actRet_end HM5.out HD5.out (fun _ h => Or.inl h) (by omega) (fun hf => by have := HM.out.low _ hf; omega) HR5.out HIn.out.off (fun b off e => by have := HM.out.lt b off e; omega) (fun _ _ h => .inr h) _ _ _ _ _)

set_option maxHeartbeats 4000000 in
set_option maxRecDepth 100000 in
theorem act_arm {w W : World} {F : Nat → Prop} {a : Nat} {d : DSt} {x : ActV} {fA aA wA : Option Addr} {fc ac wc : Nat} (h : ActIn w W F a d x fA aA ac wA wc) (hq : kindN x.k = 5) :
    Calls Try.prog 18 #[.pointer (some ⟨a, 0, none⟩), .agg #[.slice fA d.firm.length fc, .slice aA d.loose.length ac, .slice wA d.loose.length wc, .int .i64 d.leftR, .bool d.off], .agg #[.int .i64 x.k, .int .i64 x.at_, .int .i64 x.n, .string x.s, .slice x.A x.len x.cap]] w (ActRet fA aA wA w F a (actS d x)) := by
  have HIn := Lib.hid h
  have hAD : actS d x = d.armD x.n := by unfold actS; rw [hq]; rfl
  rw [hAD]
  clear h hAD
  go_enter Try.func18, Try.ntmps18
  go_wp2_with fail
  refine (kind_any _ _ _ _ _ _).mono ?_
  rintro e w4 ⟨rfl, hb4⟩
  have HM := Lib.hid (actMid (fc := fc) HIn.out hb4)
  rw [hq]
  clear hb4 hq
  obtain ⟨c0, c1, c2, c3, c4, cf⟩ := HM.out.blk.d.cells
  obtain ⟨d0, d1, d2, d3, d4⟩ := HM.out.blk.act
  go_wp2_with fail
  refine (Arm_any HM.out.disk x.n HIn.out.act.n1 HIn.out.act.n2).mono ?_
  rintro e w6 ⟨rfl, hm6, F6, hd6, hF6⟩
  have HB6 := Lib.hid (HM.out.blk.moves hm6 HM.out.low)
  have HD6 := Lib.hid hd6
  have HM6 : Hid (Moves F w w6) := Lib.hid (HM.out.mov.trans hm6 (fun _ h => Or.inl h))
  have HF6 : Hid (∀ q, F6 q → F q ∨ w4.heap.size ≤ q) := Lib.hid hF6
  have HR6 := Lib.hid (HM.out.ref.moves hm6 HIn.out.off)
  clear c0 c1 c2 c3 c4 cf d0 d1 d2 d3 d4 hm6 hd6 hF6
  obtain ⟨c0, c1, c2, c3, c4, cf⟩ := HB6.out.d.cells
  obtain ⟨d0, d1, d2, d3, d4⟩ := HB6.out.act
  go_wp2_with fail
  refine (RefArm_any _ _ _ _ _ _ _ _ _ _ _ _).mono ?_
  rintro e w5 ⟨rfl, hb5⟩
  have HB5 := Lib.hid (HB6.out.below hb5)
  have HD5 := Lib.hid (HD6.out.below hb5)
  have HM5 : Hid (Moves F w w5) := Lib.hid (HM6.out.trans (G := fun _ => False) (Moves.of_below hb5) (fun _ h => h.elim))
  have HR5 := Lib.hid (HR6.out.next hb5)
  clear c0 c1 c2 c3 c4 cf d0 d1 d2 d3 d4 hb5
  obtain ⟨e0, e1, e2, e3, e4, ef⟩ := HB5.out.r.cells
  obtain ⟨L, hL⟩ : ∃ L, (if x.n < 0 then -1 else x.n) = L := ⟨_, rfl⟩
  have HLL := Lib.hid hL
  rw [hL]
  clear hL
  go_wp2_with fail
  exact bodyPost_ret (v := .tuple #[.agg #[.slice fA d.firm.length fc, .slice aA d.loose.length ac, .slice wA d.loose.length wc, .int .i64 L, .bool d.off], .bool true]) (by simp [results, Try.results18, go_sem, e0, e1, e2, e3, e4]) rfl
    (by
      have hend := actRet_end (d := d.armD x.n) (fA := fA) (fc := fc) (aA := aA) (ac := ac) (wA := wA) (wc := wc) (H := w.heap.size + 1 + 1) HM5.out HD5.out (fun q hq => (HF6.out q hq).imp id (fun h => Nat.le_trans HM.out.mov.size h)) (by omega)
        (fun hf => by
          have h3 := HM.out.blk.size
          rcases HF6.out _ hf with h | h
          · have := HM.out.low _ h; omega
          · omega) HR5.out
        (HIn.out.off.next (w := w4) (fun b off e => Nat.lt_of_lt_of_le (HM.out.lt b off e) HM.out.mov.size) HF6.out)
        (fun b off e => by have := HM.out.lt b off e; omega) (fun _ _ h => .inr h)
      rw [leftR_arm, HLL.out] at hend
      exact hend _ _ _ _ _)
end Go.Proofs.Ytocafhaakeflbaa
