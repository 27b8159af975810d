/- A log on its disk and the document's disk and log, each holding a state of its own: what a call on the one or the other leaves. For WalPlays. Contracts of the laws' helpers: sizes, kind, few, same, the document's Same; acts in memory. -/
import Derived.Test.YtlelfakememckaaGreatDoorWalOpA
import Derived.Test.YtlelfakememckaaGreatDoorWalRefG
import Derived.Test.YtlelfakememckaaGreatDoorWalI
import Derived.Test.YtlelfakememckaaGreatDoorWalQ
namespace Go.Proofs.YtlelfakememckaaGreatDoor
open Go.RowKit

/-- A log at block b holds v on the disk at block a that holds d; the document's disk, its struct at block X, holds e; the document's log lies at block Y. -/
structure PlaySt (W wr : World) (F : Nat → Prop) (a X b Y : Nat) (v : WalV) (d e : DSt) (fA : Option Addr) (fc : Nat) (aA : Option Addr) (ac : Nat) (wA : Option Addr) (wc : Nat) (G P K U : Int) (ST : ByteArray) (RV : Value) : Prop where
  op : OpSt W wr F a X d e fA fc aA ac wA wc
  wal : WalAt wr b v
  dk : v.disk = a
  vok : v.Ok d.seen.length
  bF : ¬ F b
  bX : b ≠ X
  br : RefOff (fun q => q = b) fA aA wA
  bW : W.heap.size ≤ b
  y : Six wr Y G P K U ST RV
  yF : ¬ F Y
  yX : Y ≠ X
  yb : Y ≠ b
  yr : RefOff (fun q => q = Y) fA aA wA
  yW : W.heap.size ≤ Y
section
variable {W wr : World} {F : Nat → Prop} {a X b Y : Nat} {v : WalV} {d e : DSt} {fA aA wA : Option Addr} {fc ac wc : Nat} {G P K U : Int} {ST : ByteArray} {RV : Value}
theorem PlaySt.log (h : PlaySt W wr F a X b Y v d e fA fc aA ac wA wc G P K U ST RV) : LogAt wr F b v d := ⟨h.wal, by rw [h.dk]; exact h.op.disk, h.vok⟩
theorem PlaySt.later {w' : World} (h : PlaySt W wr F a X b Y v d e fA fc aA ac wA wc G P K U ST RV) (hb : Below wr.heap.size wr w') : PlaySt W w' F a X b Y v d e fA fc aA ac wA wc G P K U ST RV :=
  ⟨h.op.later hb, (hb.block b (heap_lt h.wal)).trans h.wal, h.dk, h.vok, h.bF, h.bX, h.br, h.bW, h.y.below hb, h.yF, h.yX, h.yb, h.yr, h.yW⟩
/-- Behind a call that turns the disk and the log at most. -/
theorem PlaySt.step {w' : World} {F' : Nat → Prop} {d' : DSt} {v' : WalV} (h : PlaySt W wr F a X b Y v d e fA fc aA ac wA wc G P K U ST RV) (hm : Moves (fun q => F q ∨ q = b) wr w') (hk : IsDisk w' F' a d') (hF : ∀ k, F' k → F k ∨ wr.heap.size ≤ k) (hw : WalAt w' b v') (hd : v'.disk = a) (hok : v'.Ok d'.seen.length) :
    PlaySt W w' F' a X b Y v' d' e fA fc aA ac wA wc G P K U ST RV := by
  have hX : X < wr.heap.size := heap_lt h.op.x
  have hY : Y < wr.heap.size := heap_lt h.y
  have hb : b < wr.heap.size := heap_lt h.wal
  have hlt := h.op.ref.lt h.op.ok.firm_pos.1
  have hoff : RefOff (fun q => F q ∨ q = b) fA aA wA := fun c o e hf => hf.elim (h.op.off c o e) (h.br c o e)
  exact ⟨⟨hk, h.op.ok, h.op.tru, h.op.ref.moves hm hoff, h.op.off.next hlt hF, (hm.block X hX (fun e => e.elim h.op.xF (fun e => h.bX e.symm))).trans h.op.x, fun hf => (hF X hf).elim h.op.xF (fun e => by omega), h.op.xr, h.op.xW,
      fun q hq => (hF q hq).elim (h.op.new q) (fun e => Nat.le_trans h.op.bel.size e), h.op.bel.trans (hm.below h.op.bel.size (fun j hj => hj.elim (h.op.new j) (fun e => by rw [e]; exact h.bW)))⟩,
    hw, hd, hok, fun hf => (hF b hf).elim h.bF (fun e => by omega), h.bX, h.br, h.bW, (hm.block Y hY (fun e => e.elim h.yF h.yb)).trans h.y, fun hf => (hF Y hf).elim h.yF (fun e => by omega), h.yX, h.yb, h.yr, h.yW⟩
/-- Behind a call on the disk. -/
theorem PlaySt.did {d' : DSt} {u : Value} {en : Ending} {w' : World} (h : PlaySt W wr F a X b Y v d e fA fc aA ac wA wc G P K U ST RV) (hd : DiskEnd wr F a d' u en w') (hl : d'.seen.length = d.seen.length) : en = .returned u ∧ ∃ F', PlaySt W w' F' a X b Y v d' e fA fc aA ac wA wc G P K U ST RV := by
  obtain ⟨he, hm, F', hk, hF⟩ := hd
  exact ⟨he, F', h.step (hm.mono fun _ => .inl) hk hF ((hm.block b (heap_lt h.wal) h.bF).trans h.wal) h.dk (by rw [hl]; exact h.vok)⟩
/-- Behind an append or a checkpoint. -/
theorem PlaySt.call {d' : DSt} {v' : WalV} {name : ByteArray} {k : Int} {en : Ending} {w' : World} (h : PlaySt W wr F a X b Y v d e fA fc aA ac wA wc G P K U ST RV) (hc : CallEnd wr F b v' d' name k en w') (hv : v'.disk = a) :
    (if k = 0 then en = .returned .nilIface else ∃ q, en = .returned (.iface 103 (.pointer (some ⟨q, 0, none⟩))) ∧ w'.heap[q]? = some (.cells (faultV name k) 105 (0, 0))) ∧ ∃ F', PlaySt W w' F' a X b Y (if k = 7 then { v' with down := true } else v') d' e fA fc aA ac wA wc G P K U ST RV := by
  obtain ⟨he, F', hL, _, hm, hF⟩ := hc
  have hd : (if k = 7 then { v' with down := true } else v').disk = a := by split <;> exact hv
  have hk := hL.disk
  rw [hd] at hk
  exact ⟨he, F', h.step hm hk hF hL.wal hd hL.ok⟩
/-- Behind a call of the document, its disk laid over. -/
theorem PlaySt.laid {e' : DSt} {fA' aA' wA' : Option Addr} {fc' ac' wc' : Nat} {w' : World} (h : PlaySt W wr F a X b Y v d e fA fc aA ac wA wc G P K U ST RV) (ho : e'.Ok) (ht : e'.Tru) (hr' : RefAt w' w'.heap.size e'.firm e'.loose fA' aA' ac' wA' wc') (hb : Below wr.heap.size wr w') (hfr : RefFresh wr.heap.size fA aA wA fA' aA' wA') :
    PlaySt W (((((w'.setCell ⟨X, 0, none⟩ (.slice fA' e'.firm.length fc')).setCell ⟨X, 1, none⟩ (.slice aA' e'.loose.length ac')).setCell ⟨X, 2, none⟩ (.slice wA' e'.loose.length wc')).setCell ⟨X, 3, none⟩ (.int .i64 e'.leftR)).setCell ⟨X, 4, none⟩ (.bool e'.off)) F a X b Y v d e' fA' fc' aA' ac' wA' wc' G P K U ST RV := by
  have hX : X < wr.heap.size := heap_lt h.op.x
  have hY : Y < wr.heap.size := heap_lt h.y
  have hB : b < wr.heap.size := heap_lt h.wal
  have hxr : ∀ c off, (fA' = some ⟨c, off, none⟩ ∨ aA' = some ⟨c, off, none⟩ ∨ wA' = some ⟨c, off, none⟩) → c ≠ X := fun c off q => by
    rcases hfr c off q with h' | h'
    · omega
    · exact h.op.xr c off h'
  have hx' := h.op.x.below hb hX
  have hd' := h.op.disk.below hb
  have hW : ∀ j, W.heap.size ≤ (⟨X, j, none⟩ : Addr).block := fun j => h.op.xW
  have hs : ∀ H, H ≠ X → (((((w'.setCell ⟨X, 0, none⟩ (.slice fA' e'.firm.length fc')).setCell ⟨X, 1, none⟩ (.slice aA' e'.loose.length ac')).setCell ⟨X, 2, none⟩ (.slice wA' e'.loose.length wc')).setCell ⟨X, 3, none⟩ (.int .i64 e'.leftR)).setCell ⟨X, 4, none⟩ (.bool e'.off)).heap[H]? = w'.heap[H]? := fun H hH =>
    (Below.heap_setCell _ _ _ _ hH).trans ((Below.heap_setCell _ _ _ _ hH).trans ((Below.heap_setCell _ _ _ _ hH).trans ((Below.heap_setCell _ _ _ _ hH).trans (Below.heap_setCell _ _ _ _ hH))))
  refine ⟨⟨((((hd'.setNew5 h.op.xF _).setNew5 h.op.xF _).setNew5 h.op.xF _).setNew5 h.op.xF _).setNew5 h.op.xF _, ho, ht, ?_, hfr.off h.op.off h.op.disk.low, ((((Five.set0 hx' _).set1 _).set2 _).set3 _).set4 _, h.op.xF, hxr, h.op.xW, h.op.new, (((((h.op.bel.trans (hb.mono h.op.bel.size)).setCell (hW _) _).setCell (hW _) _).setCell (hW _) _).setCell (hW _) _).setCell (hW _) _⟩,
    (hs b h.bX).trans ((hb.block b hB).trans h.wal), h.dk, h.vok, h.bF, h.bX, hfr.off h.br (fun k hk => by rw [hk]; exact hB), h.bW, (hs Y h.yX).trans ((hb.block Y hY).trans h.y), h.yF, h.yX, h.yb, hfr.off h.yr (fun k hk => by rw [hk]; exact hY), h.yW⟩
  refine RefAt.more (B := w'.heap.size) ?_ (by simp)
  exact ((((hr'.setOff hxr _).setOff hxr _).setOff hxr _).setOff hxr _).setOff hxr _
/-- The document's log laid over. -/
theorem PlaySt.told (h : PlaySt W wr F a X b Y v d e fA fc aA ac wA wc G P K U ST RV) (G2 P2 K2 U2 : Int) (ST2 : ByteArray) (RV2 : Value) :
    PlaySt W ((((((wr.setCell ⟨Y, 0, none⟩ (.int .i64 G2)).setCell ⟨Y, 1, none⟩ (.int .i64 P2)).setCell ⟨Y, 2, none⟩ (.int .i64 K2)).setCell ⟨Y, 3, none⟩ (.int .i64 U2)).setCell ⟨Y, 4, none⟩ (.string ST2)).setCell ⟨Y, 5, none⟩ RV2) F a X b Y v d e fA fc aA ac wA wc G2 P2 K2 U2 ST2 RV2 := by
  have hW : ∀ j, W.heap.size ≤ (⟨Y, j, none⟩ : Addr).block := fun j => h.yW
  have hyr : ∀ c off, (fA = some ⟨c, off, none⟩ ∨ aA = some ⟨c, off, none⟩ ∨ wA = some ⟨c, off, none⟩) → c ≠ Y := fun c off q => h.yr c off q
  have hs : ∀ H, H ≠ Y → ((((((wr.setCell ⟨Y, 0, none⟩ (.int .i64 G2)).setCell ⟨Y, 1, none⟩ (.int .i64 P2)).setCell ⟨Y, 2, none⟩ (.int .i64 K2)).setCell ⟨Y, 3, none⟩ (.int .i64 U2)).setCell ⟨Y, 4, none⟩ (.string ST2)).setCell ⟨Y, 5, none⟩ RV2).heap[H]? = wr.heap[H]? := fun H hH =>
    (Below.heap_setCell _ _ _ _ hH).trans ((Below.heap_setCell _ _ _ _ hH).trans ((Below.heap_setCell _ _ _ _ hH).trans ((Below.heap_setCell _ _ _ _ hH).trans ((Below.heap_setCell _ _ _ _ hH).trans (Below.heap_setCell _ _ _ _ hH)))))
  refine ⟨⟨(((((h.op.disk.setNew5 h.yF _).setNew5 h.yF _).setNew5 h.yF _).setNew5 h.yF _).setNew5 h.yF _).setNew5 h.yF _, h.op.ok, h.op.tru, ?_, h.op.off, (hs X h.yX.symm).trans h.op.x, h.op.xF, h.op.xr, h.op.xW, h.op.new, (((((h.op.bel.setCell (hW _) _).setCell (hW _) _).setCell (hW _) _).setCell (hW _) _).setCell (hW _) _).setCell (hW _) _⟩,
    (hs b h.yb.symm).trans h.wal, h.dk, h.vok, h.bF, h.bX, h.br, h.bW, h.y.set _ _ _ _ _ _, h.yF, h.yX, h.yb, h.yr, h.yW⟩
  refine RefAt.more (B := wr.heap.size) ?_ (by simp)
  exact (((((h.op.ref.setOff hyr _).setOff hyr _).setOff hyr _).setOff hyr _).setOff hyr _).setOff hyr _
end
end Go.Proofs.YtlelfakememckaaGreatDoor

namespace Go.Proofs.YtlelfakememckaaGreatDoor
open Go.RowKit

def szS (x : Int) : Nat := 2 + (x % 18446744073709551616).toNat % 4
def szM (y : Int) : Nat := 3 + (y % 18446744073709551616).toNat % 14
theorem szS_lt (x : Int) : 2 ≤ szS x ∧ szS x ≤ 5 := by unfold szS; omega
theorem szM_lt (y : Int) : 3 ≤ szM y ∧ szM y ≤ 16 := by unfold szM; omega
theorem rem_wrap (x : Int) (k : Nat) (hk : 0 < k) (hk2 : k ≤ 1000) : wrap64 ((IntKind.u64.wrap x).tmod (k : Int)) = (((x % 18446744073709551616).toNat % k : Nat) : Int) := by
  rw [IntKind.wrap_u64]
  unfold wrap64
  have h0 : 0 ≤ x % 18446744073709551616 := Int.emod_nonneg _ (by omega)
  rw [Int.tmod_eq_emod_of_nonneg h0]
  obtain ⟨m, hm⟩ := Int.eq_ofNat_of_zero_le h0
  rw [hm, Int.toNat_natCast]
  have h1 : m % k < k := Nat.mod_lt _ hk
  have h2 : ((m : Int) % (k : Int)) = ((m % k : Nat) : Int) := rfl
  rw [h2]
  omega

set_option maxHeartbeats 400000 in
theorem sizes_any (x y : Int) (w : World) : Calls Tryz.prog 4 #[.int .i64 x, .int .i64 y] w fun e w' => e = .returned (.tuple #[.int .i64 (szS x), .int .i64 (szM y)]) ∧ w = w' := by
  have e1 : wrap64 ((IntKind.u64.wrap x).tmod 4) = (((x % 18446744073709551616).toNat % 4 : Nat) : Int) := rem_wrap x 4 (by omega) (by omega)
  have e2 : wrap64 ((IntKind.u64.wrap y).tmod 14) = (((y % 18446744073709551616).toNat % 14 : Nat) : Int) := rem_wrap y 14 (by omega) (by omega)
  have HX : Hid ((szS x : Int) = 2 + (((x % 18446744073709551616).toNat % 4 : Nat) : Int)) := Lib.hid (by unfold szS; omega)
  have HY : Hid ((szM y : Int) = 3 + (((y % 18446744073709551616).toNat % 14 : Nat) : Int)) := Lib.hid (by unfold szM; omega)
  have h1 : (x % 18446744073709551616).toNat % 4 < 4 := Nat.mod_lt _ (by omega)
  have h2 : (y % 18446744073709551616).toNat % 14 < 14 := Nat.mod_lt _ (by omega)
  generalize (x % 18446744073709551616).toNat % 4 = p at *
  generalize (y % 18446744073709551616).toNat % 14 = q at *
  go_enter Tryz.func4, Tryz.ntmps4
  go_wp2_with fail
  go_ret2
  exact ⟨by rw [HX.out, HY.out]; rfl, rfl⟩

/-- An act, with the slice that holds its answers to what is kept. -/
structure Act6 where
  k : Int
  n : Int
  s : ByteArray
  A : Option Addr
  cap : Nat
  bs : List Bool
def Act6Cells (W : World) (b o : Nat) (x : Act6) : Prop :=
  W.cell? ⟨b, o, none⟩ = some (.int .i64 x.k) ∧ W.cell? ⟨b, o + 1, none⟩ = some (.int .i64 x.n) ∧ W.cell? ⟨b, o + 2, none⟩ = some (.string x.s) ∧ W.cell? ⟨b, o + 3, none⟩ = some (.slice x.A x.bs.length x.cap)
def act6V (x : Act6) : Array Value := #[.int .i64 x.k, .int .i64 x.n, .string x.s, .slice x.A x.bs.length x.cap]
/-- The acts l lie where a slice says, below block B. -/
def ActsAt (W : World) (B : Nat) (A : Option Addr) (l : List Act6) : Prop :=
  l = [] ∨ ∃ b off, A = some ⟨b, off, none⟩ ∧ b < B ∧ ∀ i, (h : i < l.length) → Act6Cells W b (off + i * 4) l[i]
theorem ActsAt.at_ {W w : World} {B : Nat} {A : Option Addr} {l : List Act6} (h : ActsAt W B A l) (hb : Below B W w) {i : Nat} (hi : i < l.length) :
    ∃ b off, A = some ⟨b, off, none⟩ ∧ b < B ∧ w.cell? ⟨b, off + i * 4, none⟩ = some (.int .i64 l[i].k) ∧ w.cell? ⟨b, off + i * 4 + 1, none⟩ = some (.int .i64 l[i].n) ∧ w.cell? ⟨b, off + i * 4 + 2, none⟩ = some (.string l[i].s) ∧ w.cell? ⟨b, off + i * 4 + 3, none⟩ = some (.slice l[i].A l[i].bs.length l[i].cap) := by
  rcases h with rfl | ⟨b, off, hA, hlt, hc⟩
  · simp at hi
  · obtain ⟨h0, h1, h2, h3⟩ := hc i hi
    exact ⟨b, off, hA, hlt, (hb.cell (p := ⟨b, off + i * 4, none⟩) hlt).trans h0, (hb.cell (p := ⟨b, off + i * 4 + 1, none⟩) hlt).trans h1, (hb.cell (p := ⟨b, off + i * 4 + 2, none⟩) hlt).trans h2, (hb.cell (p := ⟨b, off + i * 4 + 3, none⟩) hlt).trans h3⟩

def kind6 (k : Int) : Nat := (k % 18446744073709551616).toNat % 7
theorem kind6_lt (k : Int) : kind6 k < 7 := Nat.mod_lt _ (by omega)
set_option maxHeartbeats 400000 in
theorem kind6_any (x : Act6) (w : World) : Calls Tryz.prog 11 #[.agg (act6V x)] w fun e w' => e = .returned (.int .i64 (kind6 x.k)) ∧ Below w.heap.size w w' := by
  obtain ⟨k, n, s, A, cap, bs⟩ := x
  have e1 : wrap64 ((IntKind.u64.wrap k).tmod 7) = (kind6 k : Int) := rem_wrap k 7 (by omega) (by omega)
  unfold act6V
  simp only
  generalize bs.length = m
  go_enter Tryz.func11, Tryz.ntmps11
  go_wp2
  go_ret
  refine ⟨?_, (Below.refl _ _).alloc (Nat.le_refl _) _⟩
  show Ending.returned (.int .i64 (wrap64 ((IntKind.u64.wrap k).tmod 7))) = _
  rw [e1]

/-- How many acts are gone through. -/
def FewEnd (l : List Act6) (most : Nat) (w : World) (e : Ending) (w' : World) : Prop :=
  ∃ n : Nat, e = .returned (.int .i64 n) ∧ n ≤ l.length ∧ n ≤ most ∧ (∀ i, (h : i < l.length) → i < n → l[i].s.size ≤ 600 ∧ l[i].bs.length ≤ 100) ∧ w = w'
set_option maxHeartbeats 1600000 in
theorem few_any {w : World} {A : Option Addr} {c : Nat} {l : List Act6} (h : ActsAt w w.heap.size A l) (most : Nat) (hm : most ≤ 100) :
    Calls Tryz.prog 10 #[.slice A l.length c, .int .i64 most] w (FewEnd l most w) := by
  have HV := Lib.hid h
  obtain ⟨n, hn⟩ : ∃ n, l.length = n := ⟨_, rfl⟩
  have HN := Lib.hid hn
  rw [hn]
  clear h hn
  go_enter Tryz.func10, Tryz.ntmps10
  go_wp2_with fail
  go_loopg [5] most (fun kx s5 wr => ∃ k : Nat, s5 = .int .i64 k ∧ k ≤ n ∧ k ≤ most ∧ most - k ≤ kx ∧ Hid (∀ i, (h : i < l.length) → i < k → l[i].s.size ≤ 600 ∧ l[i].bs.length ≤ 100) ∧ w = wr)
  case atStart => exact ⟨0, rfl, Nat.zero_le _, Nat.zero_le _, by omega, Lib.hid (fun i _ h => by omega), rfl⟩
  case round =>
    obtain ⟨k, rfl, hk, hkm, hkx, HI, rfl⟩ := hrel
    have HE : Hid (FewEnd l most w (.returned (.int .i64 k)) w) := Lib.hid ⟨k, rfl, by rw [HN.out]; exact hk, hkm, HI.out, rfl⟩
    by_cases h1 : k < n
    · have h1z : (k : Int) < (n : Int) := by omega
      by_cases h2 : k < most
      · have h2z : (k : Int) < (most : Int) := by omega
        have h2d : decide ((k : Int) < (most : Int)) = true := decide_eq_true h2z
        have hkl : k < l.length := by rw [HN.out]; exact h1
        obtain ⟨b, off, hA, hbl, x0, x1, x2, x3⟩ := HV.out.at_ (Below.refl _ _) hkl
        have HI2 : Hid (l[k].s.size ≤ 600 → l[k].bs.length ≤ 100 → ∀ i, (h : i < l.length) → i < k + 1 → l[i].s.size ≤ 600 ∧ l[i].bs.length ≤ 100) := Lib.hid (fun a1 a2 i hi hik => by
          by_cases e : i = k
          · subst e; exact ⟨a1, a2⟩
          · exact HI.out i hi (by omega))
        subst hA
        generalize l[k] = x at x0 x1 x2 x3 HI2
        obtain ⟨xk, xn, xs, xA, xc, xb⟩ := x
        simp only at x0 x1 x2 x3 HI2
        have hk0 : (0 : Int) ≤ (k : Int) := Int.natCast_nonneg _
        by_cases h3 : xs.size ≤ 600
        · have h3d : decide ((xs.size : Int) ≤ 600) = true := by rw [decide_eq_true_iff]; omega
          by_cases h4 : xb.length ≤ 100
          · have h4d : decide ((xb.length : Int) ≤ 100) = true := by rw [decide_eq_true_iff]; omega
            have HI3 := Lib.hid (HI2.out h3 h4)
            clear HI HI2 HE
            go_wp2_with fail
            go_roundg (most - (k + 1))
            case measure => omega
            case rel => exact ⟨k + 1, by go_num, by omega, by omega, Nat.le_refl _, HI3, rfl⟩
          · have h4d : decide ((xb.length : Int) ≤ 100) = false := by rw [decide_eq_false_iff_not]; omega
            clear HI HI2
            go_wp2_with fail
            go_ret
            exact HE.out
        · have h3d : decide ((xs.size : Int) ≤ 600) = false := by rw [decide_eq_false_iff_not]; omega
          clear HI HI2
          go_wp2_with fail
          go_ret
          exact HE.out
      · have h2z : ¬ (k : Int) < (most : Int) := by omega
        have h2d : decide ((k : Int) < (most : Int)) = false := decide_eq_false h2z
        clear HI
        go_wp2_with fail
        go_ret
        exact HE.out
    · have h1z : ¬ (k : Int) < (n : Int) := by omega
      have h1d : decide ((k : Int) < (n : Int)) = false := decide_eq_false h1z
      clear HI
      go_wp2_with fail
      go_ret
      exact HE.out

noncomputable def eqR (a b : List (List UInt8)) : Bool := @decide (a = b) (Classical.propDecidable _)
theorem eqR_self (a : List (List UInt8)) : eqR a a = true := by unfold eqR; exact @decide_eq_true _ (Classical.propDecidable _) rfl
theorem eqR_ne {a b : List (List UInt8)} (h : a ≠ b) : eqR a b = false := by unfold eqR; exact @decide_eq_false _ (Classical.propDecidable _) h
theorem str_inj {a b : List UInt8} (h : str a = str b) : a = b := by rw [← str_list a, h, str_list]

set_option maxHeartbeats 1600000 in
theorem Same6_any {w : World} {A1 A2 : Option Addr} {c1 c2 : Nat} {xs ys : List (List UInt8)} (h1 : Lies w w.heap.size A1 (xs.map secV)) (h2 : Lies w w.heap.size A2 (ys.map secV)) (hx : xs.length ≤ 9223372036854775807) :
    Calls Tryz.prog 42 #[.slice A1 xs.length c1, .slice A2 ys.length c2] w fun e w' => e = .returned (.bool (eqR xs ys)) ∧ Below w.heap.size w w' := by
  by_cases hlen : xs.length = ys.length
  · have H1 := Lib.hid h1
    have H2 := Lib.hid h2
    obtain ⟨n, hn⟩ : ∃ n, xs.length = n := ⟨_, rfl⟩
    have HN1 := Lib.hid hn
    have HN2 : Hid (ys.length = n) := Lib.hid (by rw [← hlen]; exact hn)
    rw [← hlen, hn]
    rw [hn] at hx
    have HT : Hid (xs = ys → eqR xs ys = true) := Lib.hid (fun e => by rw [e]; exact eqR_self _)
    have HF : Hid (xs ≠ ys → eqR xs ys = false) := Lib.hid eqR_ne
    obtain ⟨q, hq⟩ : ∃ q, eqR xs ys = q := ⟨_, rfl⟩
    rw [hq] at HT HF ⊢
    clear h1 h2 hn hlen hq
    go_enter Tryz.func42, Tryz.ntmps42
    go_wp2
    go_loopw [5] (fun i wr => ∃ k z : Nat, k ≤ n ∧ i = .int .i64 k ∧ Hid (xs.take k = ys.take k) ∧ wr = w.drewN z) (fun i _ => n - (intOf i).toNat)
    case atStart => exact ⟨0, 0, by omega, rfl, Lib.hid (by simp), rfl⟩
    case round =>
      obtain ⟨k, z, hk, rfl, HK, rfl⟩ := hrel
      by_cases hlt : k < n
      · have k1 : k < xs.length := by rw [HN1.out]; exact hlt
        have k2 : k < ys.length := by rw [HN2.out]; exact hlt
        obtain ⟨b1, o1, rfl, _, hc1⟩ := H1.out.at_ (by intro e; rw [List.map_eq_nil_iff] at e; subst e; simp at k1)
        obtain ⟨b2, o2, rfl, _, hc2⟩ := H2.out.at_ (by intro e; rw [List.map_eq_nil_iff] at e; subst e; simp at k2)
        have x1 := hc1 k (by rw [List.length_map]; exact k1)
        have x2 := hc2 k (by rw [List.length_map]; exact k2)
        rw [List.getElem_map] at x1 x2
        have HYes : Hid (xs[k] = ys[k] → xs.take (k + 1) = ys.take (k + 1)) := Lib.hid (fun e => by
          rw [List.take_succ_eq_append_getElem k1, List.take_succ_eq_append_getElem k2, HK.out, e])
        have HNo : Hid (xs[k] ≠ ys[k] → q = false) := Lib.hid (fun e => HF.out (fun e2 => e (by subst e2; rfl)))
        generalize xs[k] = x at x1 HYes HNo
        generalize ys[k] = y at x2 HYes HNo
        unfold secV at x1 x2
        have hi0 : (0 : Int) ≤ (k : Int) := Int.natCast_nonneg _
        have hi1 : (k : Int) < (n : Int) := by omega
        clear hc1 hc2 k1 k2 HK
        by_cases hxy : x = y
        · have HY := Lib.hid (HYes.out hxy)
          subst hxy
          clear HYes HNo
          generalize str x = S at x1 x2
          go_wp2
          go_quiet (fail)
          go_wp2
          go_roundw
          case rel => exact ⟨k + 1, z + nq, by omega, by go_num, HY, rfl⟩
          case measure => simp [intOf]; omega
        · have HNq := Lib.hid (HNo.out hxy)
          have hne : ((str x).toList == (str y).toList) = false := by
            rw [beq_eq_false_iff_ne, Lib.toList_data, Lib.toList_data, str_list, str_list]; exact hxy
          generalize str x = S at x1 hne
          generalize str y = T at x2 hne
          clear HYes HNo hxy
          go_wp2
          go_quiet (fail)
          go_wp2
          go_ret
          exact ⟨by rw [HNq.out]; rfl, below_drewN (below_drewN (Below.refl _ _) _) _⟩
      · have HQ : Hid (q = true) := Lib.hid (HT.out (by
          have := HK.out
          rwa [List.take_of_length_le (by rw [HN1.out]; omega), List.take_of_length_le (by rw [HN2.out]; omega)] at this))
        go_wp2
        go_ret
        exact ⟨by rw [HQ.out]; rfl, below_drewN (Below.refl _ _) _⟩
  · rw [eqR_ne (fun e => hlen (by rw [e]))]
    have hne : ((xs.length : Int) != (ys.length : Int)) = true := by rw [bne_iff_ne]; omega
    clear h1 h2
    go_enter Tryz.func42, Tryz.ntmps42
    go_wp2
    go_ret
    exact ⟨rfl, Below.refl _ _⟩

noncomputable def sameK (st s : List UInt8) (rs l : List (List UInt8)) : Bool := if st = s then eqR rs l else false
end Go.Proofs.YtlelfakememckaaGreatDoor
