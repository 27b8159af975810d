/- A disk and the document's disk, each holding a state of its own: what a call on the one or the other leaves. For WalOpens. Contracts of the functions of the package ring and of the document's answer for it: At, Gap, isPosition; Right, next, At, Gap. Each changes nothing. -/
import Derived.Test.YtlelfakememckaaGreatDoorDiskL
import Derived.Test.YtlelfakememckaaGreatDoorRefC
import Derived.Test.YtlelfakememckaaGreatDoorRefW
import Derived.Test.YtlelfakememckaaGreatDoorRefR
import Derived.Test.YtlelfakememckaaGreatDoorDiskX
import Derived.Test.YtlelfakememckaaGreatDoorRows
import Derived.WalkKit
import Derived.WalkSpells
import Derived.WalkLawsBesides
import Derived.Lib.Hide
import Derived.PlainAid
import Derived.Deep.OwnRows
import Derived.Laws.BitsAllLaws
import Derived.Test.YtlelfakememckaaGreatDoorPlain
namespace Go.Proofs.YtlelfakememckaaGreatDoor
open Go.RowKit

/-- No block of the document's disk is the disk's. -/
def RefOff (F : Nat → Prop) (fA aA wA : Option Addr) : Prop := ∀ b off, (fA = some ⟨b, off, none⟩ ∨ aA = some ⟨b, off, none⟩ ∨ wA = some ⟨b, off, none⟩) → ¬ F b

theorem Lies.movesO {w w' : World} {F : Nat → Prop} {A : Option Addr} {cs : List Value} (h : Lies w w.heap.size A cs) (hm : Moves F w w') (hn : ∀ b off, A = some ⟨b, off, none⟩ → ¬ F b) : Lies w' w'.heap.size A cs := by
  rcases h with h | ⟨b, off, hA, hlt, hc⟩
  · exact .inl h
  · exact .inr ⟨b, off, hA, Nat.lt_of_lt_of_le hlt hm.size, fun i hi => (World.cell?_of_block (a := ⟨b, off + i, none⟩) (hm.block b hlt (hn b off hA))).trans (hc i hi)⟩
theorem Lies.setOff {w : World} {B : Nat} {A : Option Addr} {cs : List Value} (h : Lies w B A cs) {p : Addr} (hn : ∀ b off, A = some ⟨b, off, none⟩ → b ≠ p.block) (u : Value) : Lies (w.setCell p u) B A cs := by
  rcases h with h | ⟨b, off, rfl, hlt, hc⟩
  · exact .inl h
  · exact (Lies.setFar (.inr ⟨b, off, rfl, hlt, hc⟩) (hn b off rfl) u)

section
variable {w w' : World} {F F' : Nat → Prop} {f : List (List UInt8)} {l : List (Nat × List UInt8)} {fA aA wA : Option Addr} {ac wc B : Nat}

theorem RefAt.lt (h : RefAt w B f l fA aA ac wA wc) (hf : 0 < f.length) : ∀ b off, (fA = some ⟨b, off, none⟩ ∨ aA = some ⟨b, off, none⟩ ∨ wA = some ⟨b, off, none⟩) → b < B := by
  have key : ∀ {A : Option Addr} {cs : List Value}, Lies w B A cs → cs ≠ [] → ∀ b off, A = some ⟨b, off, none⟩ → b < B := fun hl hn b off hA => by
    obtain ⟨b', off', h1, h2, _⟩ := hl.at_ hn
    rw [hA] at h1
    simp only [Option.some.injEq, Addr.mk.injEq, and_true] at h1
    omega
  by_cases hl : l = []
  · obtain ⟨h1, _, h3, _⟩ := h.none_ hl
    rintro b off (e | e | e)
    · exact key h.firm (fun e => by simp at e; subst e; simp at hf) b off e
    · rw [h1] at e; cases e
    · rw [h3] at e; cases e
  · rintro b off (e | e | e)
    · exact key h.firm (fun e => by simp at e; subst e; simp at hf) b off e
    · exact key h.at_ (by simpa using hl) b off e
    · exact key h.what (by simpa using hl) b off e
theorem RefAt.moves (h : RefAt w w.heap.size f l fA aA ac wA wc) (hm : Moves F w w') (ho : RefOff F fA aA wA) : RefAt w' w'.heap.size f l fA aA ac wA wc :=
  ⟨h.firm.movesO hm (fun b off e => ho b off (.inl e)), h.at_.movesO hm (fun b off e => ho b off (.inr (.inl e))), h.what.movesO hm (fun b off e => ho b off (.inr (.inr e))), h.none_⟩
theorem RefAt.setOff (h : RefAt w B f l fA aA ac wA wc) {p : Addr} (hn : ∀ b off, (fA = some ⟨b, off, none⟩ ∨ aA = some ⟨b, off, none⟩ ∨ wA = some ⟨b, off, none⟩) → b ≠ p.block) (u : Value) : RefAt (w.setCell p u) B f l fA aA ac wA wc :=
  ⟨h.firm.setOff (fun b off e => hn b off (.inl e)) u, h.at_.setOff (fun b off e => hn b off (.inr (.inl e))) u, h.what.setOff (fun b off e => hn b off (.inr (.inr e))) u, h.none_⟩
theorem RefOff.next (ho : RefOff F fA aA wA) (hlt : ∀ b off, (fA = some ⟨b, off, none⟩ ∨ aA = some ⟨b, off, none⟩ ∨ wA = some ⟨b, off, none⟩) → b < w.heap.size) (hF : ∀ k, F' k → F k ∨ w.heap.size ≤ k) : RefOff F' fA aA wA := fun b off e hf => by
  rcases hF b hf with h | h
  · exact ho b off e h
  · have := hlt b off e; omega
theorem RefFresh.off {fA0 aA0 wA0 : Option Addr} (hfr : RefFresh B fA0 aA0 wA0 fA aA wA) (ho : RefOff F fA0 aA0 wA0) (hlow : ∀ k, F k → k < B) : RefOff F fA aA wA := fun b off e hf => by
  rcases hfr b off e with h | h
  · have := hlow b hf; omega
  · exact ho b off h hf
end
theorem IsDisk.setNew5 {F : Nat → Prop} {w : World} {a : Nat} {d : DSt} (h : IsDisk w F a d) {p : Addr} (hp : ¬ F p.block) (u : Value) : IsDisk (w.setCell p u) F a d :=
  h.kept (G := fun q => q = p.block) ((Moves.refl (fun q => q = p.block) w).setCell (p := p) rfl u) (fun q hq hf => hp (by subst hq; exact hf))

/-- A disk at block a holds d; the document's disk, its struct at block X, holds e. -/
structure OpSt (W wr : World) (F : Nat → Prop) (a X : Nat) (d e : DSt) (fA : Option Addr) (fc : Nat) (aA : Option Addr) (ac : Nat) (wA : Option Addr) (wc : Nat) : Prop where
  disk : IsDisk wr F a d
  ok : e.Ok
  tru : e.Tru
  ref : RefAt wr wr.heap.size e.firm e.loose fA aA ac wA wc
  off : RefOff F fA aA wA
  x : Five wr X (.slice fA e.firm.length fc) (.slice aA e.loose.length ac) (.slice wA e.loose.length wc) (.int .i64 e.leftR) (.bool e.off)
  xF : ¬ F X
  xr : ∀ b off, (fA = some ⟨b, off, none⟩ ∨ aA = some ⟨b, off, none⟩ ∨ wA = some ⟨b, off, none⟩) → b ≠ X
  xW : W.heap.size ≤ X
  new : ∀ k, F k → W.heap.size ≤ k
  bel : Below W.heap.size W wr
section
variable {W wr : World} {F : Nat → Prop} {a X : Nat} {d e : DSt} {fA aA wA : Option Addr} {fc ac wc : Nat}
theorem OpSt.later {w' : World} (h : OpSt W wr F a X d e fA fc aA ac wA wc) (hb : Below wr.heap.size wr w') : OpSt W w' F a X d e fA fc aA ac wA wc :=
  ⟨h.disk.below hb, h.ok, h.tru, h.ref.next hb, h.off, h.x.below hb (heap_lt h.x), h.xF, h.xr, h.xW, h.new, h.bel.trans (hb.mono h.bel.size)⟩
/-- Behind a call on the disk. -/
theorem OpSt.did {d' : DSt} {v : Value} {en : Ending} {w' : World} (h : OpSt W wr F a X d e fA fc aA ac wA wc) (hd : DiskEnd wr F a d' v en w') : en = .returned v ∧ ∃ F', OpSt W w' F' a X d' e fA fc aA ac wA wc := by
  obtain ⟨he, hm, F', hk, hF⟩ := hd
  have hX : X < wr.heap.size := heap_lt h.x
  have hlt := h.ref.lt h.ok.firm_pos.1
  exact ⟨he, F', hk, h.ok, h.tru, h.ref.moves hm h.off, h.off.next hlt hF, (hm.block X hX h.xF).trans h.x, fun hf => (hF X hf).elim h.xF (fun h' => by omega), h.xr, h.xW, fun q hq => (hF q hq).elim (h.new q) (fun h' => Nat.le_trans h.bel.size h'), h.bel.trans (hm.below h.bel.size h.new)⟩
/-- Behind a call of the document, its disk laid over. -/
theorem OpSt.ask {e' : DSt} {code : Int} {en : Ending} {w' : World} (h : OpSt W wr F a X d e fA fc aA ac wA wc) (ho : e'.Ok) (ht : e'.Tru) (hr : RefRet fA aA wA e' code wr en w') :
    ∃ fA' fc' aA' ac' wA' wc', en = .returned (.tuple #[.agg #[.slice fA' e'.firm.length fc', .slice aA' e'.loose.length ac', .slice wA' e'.loose.length wc', .int .i64 e'.leftR, .bool e'.off], .int .i64 code]) ∧ Below wr.heap.size wr w' ∧
      OpSt W (((((w'.setCell ⟨X, 0, none⟩ (.slice fA' e'.firm.length fc')).setCell ⟨X, 1, none⟩ (.slice aA' e'.loose.length ac')).setCell ⟨X, 2, none⟩ (.slice wA' e'.loose.length wc')).setCell ⟨X, 3, none⟩ (.int .i64 e'.leftR)).setCell ⟨X, 4, none⟩ (.bool e'.off)) F a X d e' fA' fc' aA' ac' wA' wc' := by
  obtain ⟨fA', fc', aA', ac', wA', wc', he, hr', hb, hfr⟩ := hr
  have hX : X < wr.heap.size := heap_lt h.x
  have hxr : ∀ b off, (fA' = some ⟨b, off, none⟩ ∨ aA' = some ⟨b, off, none⟩ ∨ wA' = some ⟨b, off, none⟩) → b ≠ X := fun b off q => by
    rcases hfr b off q with h' | h'
    · omega
    · exact h.xr b off h'
  have hx' := h.x.below hb hX
  have hd' := h.disk.below hb
  have hW : ∀ j, W.heap.size ≤ (⟨X, j, none⟩ : Addr).block := fun j => h.xW
  refine ⟨fA', fc', aA', ac', wA', wc', he, hb, ⟨((((hd'.setNew5 h.xF _).setNew5 h.xF _).setNew5 h.xF _).setNew5 h.xF _).setNew5 h.xF _, ho, ht, ?_, hfr.off h.off h.disk.low, ((((Five.set0 hx' _).set1 _).set2 _).set3 _).set4 _, h.xF, hxr, h.xW, h.new, (((((h.bel.trans (hb.mono h.bel.size)).setCell (hW _) _).setCell (hW _) _).setCell (hW _) _).setCell (hW _) _).setCell (hW _) _⟩⟩
  refine RefAt.more (B := w'.heap.size) ?_ (by simp)
  exact ((((hr'.setOff hxr _).setOff hxr _).setOff hxr _).setOff hxr _).setOff hxr _
end
theorem tru_new0 (n : Nat) : (DSt.new n).Tru := rfl
theorem op_first {W w1 w2 : World} {a n : Nat} {F : Nat → Prop} {fA : Option Addr} {fc : Nat} (h1 : 1 ≤ n) (hd : IsDisk w1 F a (DSt.new n)) (hF : ∀ k, F k → W.heap.size ≤ k) (hb : Below W.heap.size W w1) (hr : RefAt w2 w2.heap.size (zeroL n) [] fA none 0 none 0) (hb2 : Below w1.heap.size w1 w2) (hfr : ∀ b off, fA = some ⟨b, off, none⟩ → w1.heap.size ≤ b) :
    OpSt W (w2.alloc (.cells #[.slice fA n fc, .slice none 0 0, .slice none 0 0, .int .i64 (-1), .bool false] 30)) F a w2.heap.size (DSt.new n) (DSt.new n) fA fc none 0 none 0 := by
  have hlen : (DSt.new n).firm.length = n := by simp [DSt.new]
  have hba : Below w2.heap.size w2 (w2.alloc (.cells #[.slice fA n fc, .slice none 0 0, .slice none 0 0, .int .i64 (-1), .bool false] 30)) := (Below.refl _ _).alloc (Nat.le_refl _) _
  have hr' : RefAt w2 w2.heap.size (DSt.new n).firm (DSt.new n).loose fA none 0 none 0 := hr
  have hlt := hr'.lt (by rw [hlen]; exact h1)
  have hbw : Below W.heap.size W w2 := hb.trans (hb2.mono hb.size)
  refine ⟨(hd.below hb2).below hba, hd.1, tru_new0 n, hr'.next hba, ?_, ?_, ?_, ?_, hbw.size, hF, hbw.trans (hba.mono hbw.size)⟩
  · rintro b off (e | e | e) hf
    · have := hfr b off e; have := hd.low b hf; omega
    · cases e
    · cases e
  · rw [hlen]
    exact Five.new _ _ _ _ _ _
  · intro hf; have := hd.low _ hf; have := hb2.size; omega
  · intro b off e; have := hlt b off e; omega
end Go.Proofs.YtlelfakememckaaGreatDoor

namespace Go.Proofs.YtlelfakememckaaGreatDoor
open Go.RowKit

/-- A place of a ring. -/
def Place (size p : Int) : Prop := 1 ≤ size ∧ size ≤ 4096 ∧ 0 ≤ p ∧ p < size

theorem place_not {size p : Int} (h : ¬ Place size p) : size < 1 ∨ 4096 < size ∨ p < 0 ∨ size ≤ p := by
  unfold Place at h; omega

set_option maxHeartbeats 400000 in
theorem isPosition_yes (size p : Int) (w : World) (h : Place size p) :
    Calls Tryz.prog 115 #[.int .i64 size, .int .i64 p] w fun e w' => e = .returned (.bool true) ∧ w = w' := by
  obtain ⟨h1, h2, h3, h4⟩ := h
  go_enter Tryz.func115, Tryz.ntmps115
  go_wp2
  go_ret
  exact ⟨rfl, rfl⟩

set_option maxHeartbeats 400000 in
theorem isPosition_no (size p : Int) (w : World) (h : ¬ Place size p) :
    Calls Tryz.prog 115 #[.int .i64 size, .int .i64 p] w fun e w' => e = .returned (.bool false) ∧ w = w' := by
  have h' := place_not h
  clear h
  by_cases h1 : size < 1
  · go_enter Tryz.func115, Tryz.ntmps115
    go_wp2
    go_ret
    exact ⟨rfl, rfl⟩
  · by_cases h2 : 4096 < size
    · have h3 : decide (size ≤ 4096) = false := by simp; omega
      go_enter Tryz.func115, Tryz.ntmps115
      go_wp2
      go_ret
      exact ⟨rfl, rfl⟩
    · by_cases h3 : p < 0
      · have h4 : decide (0 ≤ p) = false := by simp; omega
        go_enter Tryz.func115, Tryz.ntmps115
        go_wp2
        go_ret
        exact ⟨rfl, rfl⟩
      · have h4 : decide (p < size) = false := by simp; omega
        go_enter Tryz.func115, Tryz.ntmps115
        go_wp2
        go_ret
        exact ⟨rfl, rfl⟩

/-- The place behind. -/
def nextP (size at_ : Int) : Int := if at_ = size - 1 then 0 else at_ + 1

theorem nextP_mod {size from_ : Int} (k : Nat) (h1 : 1 ≤ size) : nextP size ((from_ + k) % size) = (from_ + (k + 1 : Nat)) % size := by
  unfold nextP
  have a := Int.emod_nonneg (from_ + k) (show size ≠ 0 by omega)
  have b := Int.emod_lt_of_pos (from_ + k) (show 0 < size by omega)
  have c := Int.emod_add_mul_ediv (from_ + k) size
  have e : from_ + ((k + 1 : Nat) : Int) = ((from_ + k) % size + 1) + size * ((from_ + k) / size) := by omega
  rw [e, Int.add_mul_emod_self_left]
  split
  · next h => rw [h, show size - 1 + 1 = size from by omega, Int.emod_self]
  · next h => exact (Int.emod_eq_of_lt (a := (from_ + k) % size + 1) (by omega) (by omega)).symm

/-! ### At -/

def AtOk (size from_ n : Int) : Prop := Place size from_ ∧ 0 ≤ n ∧ n ≤ 1099511627776

set_option maxHeartbeats 400000 in
theorem At_ok (size from_ n : Int) (w : World) (h : AtOk size from_ n) :
    Calls Tryz.prog 99 #[.int .i64 size, .int .i64 from_, .int .i64 n] w fun e w' => e = .returned (.tuple #[.int .i64 ((from_ + n) % size), .int .i64 0]) ∧ w = w' := by
  obtain ⟨hp, h5, h6⟩ := h
  have hp' := hp
  obtain ⟨h1, h2, h3, h4⟩ := hp'
  go_enter Tryz.func99, Tryz.ntmps99
  go_wp2_with (go_at_call 115; refine (isPosition_yes _ _ _ hp).mono ?_; rintro e w' ⟨rfl, rfl⟩)
  go_ret2
  exact ⟨rfl, rfl⟩

set_option maxHeartbeats 400000 in
theorem At_no (size from_ n : Int) (w : World) (h : ¬ AtOk size from_ n) :
    Calls Tryz.prog 99 #[.int .i64 size, .int .i64 from_, .int .i64 n] w fun e w' => e = .returned (.tuple #[.int .i64 0, .int .i64 1]) ∧ w = w' := by
  by_cases hp : Place size from_
  · have h7 : n < 0 ∨ 1099511627776 < n := by unfold AtOk at h; have := hp; simp only [hp, true_and] at h; omega
    clear h
    by_cases h5 : n < 0
    · go_enter Tryz.func99, Tryz.ntmps99
      go_wp2_with (go_at_call 115; refine (isPosition_yes _ _ _ hp).mono ?_; rintro e w' ⟨rfl, rfl⟩)
      go_ret2
      exact ⟨rfl, rfl⟩
    · have h6 : decide (n < 0) = false := by simp; omega
      have h8 : 1099511627776 < n := by omega
      go_enter Tryz.func99, Tryz.ntmps99
      go_wp2_with (go_at_call 115; refine (isPosition_yes _ _ _ hp).mono ?_; rintro e w' ⟨rfl, rfl⟩)
      go_ret2
      exact ⟨rfl, rfl⟩
  · clear h
    go_enter Tryz.func99, Tryz.ntmps99
    go_wp2_with (go_at_call 115; refine (isPosition_no _ _ _ hp).mono ?_; rintro e w' ⟨rfl, rfl⟩)
    go_ret2
    exact ⟨rfl, rfl⟩

theorem mod_small {size : Int} (n : Int) (h1 : 1 ≤ size) : ∃ m : Nat, n % size = m ∧ (m : Int) < size ∧ n % size = (m : Int) % size := by
  have a := Int.emod_nonneg n (show size ≠ 0 by omega)
  have b := Int.emod_lt_of_pos n (show 0 < size by omega)
  obtain ⟨m, hm⟩ := Int.eq_ofNat_of_zero_le a
  exact ⟨m, hm, by omega, by rw [← hm, Int.emod_emod]⟩

theorem place_five : Place 5 3 := by unfold Place; omega

/-! ### Gap -/

def gapN (size from_ to : Int) : Int := if to < from_ then to + size - from_ else to - from_

theorem gapN_bounds {size from_ to : Int} (hp : Place size from_) (hq : Place size to) : 0 ≤ gapN size from_ to ∧ gapN size from_ to < size := by
  obtain ⟨h1, h2, h3, h4⟩ := hp
  obtain ⟨_, _, h5, h6⟩ := hq
  unfold gapN
  split <;> omega

theorem gapN_goes {size from_ to : Int} (hp : Place size from_) (hq : Place size to) : (from_ + gapN size from_ to) % size = to := by
  obtain ⟨h1, h2, h3, h4⟩ := hp
  obtain ⟨_, _, h5, h6⟩ := hq
  unfold gapN
  split
  · rw [show from_ + (to + size - from_) = to + size from by omega, Int.add_emod_right]
    exact Int.emod_eq_of_lt h5 h6
  · rw [show from_ + (to - from_) = to from by omega]
    exact Int.emod_eq_of_lt h5 h6

theorem gapN_first {size from_ to : Int} (hp : Place size from_) (hq : Place size to) {k : Nat} (hk : (k : Int) < gapN size from_ to) : (from_ + k) % size ≠ to := by
  have hb := gapN_bounds hp hq
  have hg := gapN_goes hp hq
  obtain ⟨h1, h2, h3, h4⟩ := hp
  obtain ⟨_, _, h5, h6⟩ := hq
  intro h
  have e : (from_ + gapN size from_ to) % size = (from_ + k) % size := by rw [hg, h]
  have e2 := Int.emod_emod_of_dvd 0 (Int.dvd_refl size)
  have e3 : size ∣ (from_ + gapN size from_ to) - (from_ + k) := Int.dvd_of_emod_eq_zero (by rw [← Int.emod_sub_emod, e, Int.emod_sub_emod]; simp) 
  obtain ⟨c, hc⟩ := e3
  have hc2 : gapN size from_ to - k = size * c := by omega
  have hc3 : 0 < size * c := by omega
  have hc4 : size * c < size * 1 := by omega
  have hc5 : c < 1 := Int.lt_of_mul_lt_mul_left hc4 (by omega)
  have hc6 : 0 < c := Int.pos_of_mul_pos_right hc3 (by omega)
  omega

end Go.Proofs.YtlelfakememckaaGreatDoor
