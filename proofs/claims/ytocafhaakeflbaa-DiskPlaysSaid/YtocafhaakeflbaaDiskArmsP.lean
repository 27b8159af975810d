/- Plain facts for DiskArms: what arming does. -/
import Derived.Test.YtocafhaakeflbaaDiskG
import Derived.StillTailTactics
import Derived.Deep.Cut
namespace Go.Proofs.Ytocafhaakeflbaa
open Go.RowKit

/-! ### Plain -/

/-- What holds of a disk that was armed with n when 'done' writes and flushes have been done. -/
structure ArmInv (n done : Int) (d : DSt) : Prop where
  armed : d.armed = true
  lo : 0 ≤ done
  hi : done ≤ n
  off : d.off = true → done = n
  on : d.off = false → d.left = n - done
  size : d.seen.length = 5

theorem armInv_start {n : Int} (h : 0 ≤ n) : ArmInv n 0 ((DSt.new 5).armD n) :=
  ⟨by simp [DSt.armD, h], by omega, h, (fun hh => by simp [DSt.armD, DSt.new] at hh), (fun _ => by simp [DSt.armD]), by simp [DSt.armD, DSt.new]⟩

/-- The three answers that a write or a flush may give. -/
def ArmStep (n done : Int) (e : Int) (d : DSt) : Prop :=
  (e = 0 ∧ d.off = false ∧ ArmInv n (done + 1) d) ∨ (e = 7 ∧ d.off = true ∧ done = n ∧ ArmInv n done d) ∨ ((e = 1 ∨ e = 5) ∧ d.off = false ∧ ArmInv n done d)

theorem arm_spent {n done : Int} {d : DSt} (h : ArmInv n done d) (ho : d.off = false) :
    (d.lasts = true ∧ d.spent.off = false ∧ ArmInv n (done + 1) d.spent) ∨ (d.lasts = false ∧ d.spent.off = true ∧ done = n ∧ ArmInv n done d.spent) := by
  have hl := h.on ho
  have h1 := h.lo
  have h2 := h.hi
  by_cases hz : d.left = 0
  · right
    have e : d.spent = { d with off := true } := by unfold DSt.spent; rw [if_pos h.armed, if_pos hz]
    refine ⟨by unfold DSt.lasts; rw [h.armed, hz]; rfl, by rw [e], by omega, ?_⟩
    rw [e]
    exact ⟨h.armed, h.lo, h.hi, fun _ => by omega, (fun hh => by cases hh), h.size⟩
  · left
    have e : d.spent = { d with left := d.left - 1 } := by unfold DSt.spent; rw [if_pos h.armed, if_neg hz]
    refine ⟨by unfold DSt.lasts; rw [h.armed]; simpa using hz, by rw [e]; exact ho, ?_⟩
    rw [e]
    exact ⟨h.armed, by omega, by omega, (fun hh => by rw [show _ = _ from ho] at hh; cases hh), (fun _ => by show d.left - 1 = _; omega), h.size⟩

theorem ArmInv.put {n done : Int} {d : DSt} (h : ArmInv n done d) (i : Nat) (x : List UInt8) : ArmInv n done (d.put i x) :=
  ⟨h.armed, h.lo, h.hi, h.off, h.on, by show (d.seen.set i x).length = 5; rw [List.length_set]; exact h.size⟩
theorem ArmInv.firmAll {n done : Int} {d : DSt} (h : ArmInv n done d) : ArmInv n done d.firmAll := ⟨h.armed, h.lo, h.hi, h.off, h.on, h.size⟩

theorem arm_write {n done : Int} {d : DSt} (h : ArmInv n done d) (i : Int) (s : List UInt8) : ArmStep n done (d.writeE i s) (d.writeD i s) := by
  unfold DSt.writeE DSt.writeD
  by_cases h1 : d.off = true
  · rw [if_pos h1, if_pos (Or.inl h1)]
    exact .inr (.inl ⟨rfl, h1, h.off h1, h⟩)
  have h1' : d.off = false := by simpa using h1
  rw [if_neg h1]
  by_cases h2 : d.has i = false
  · rw [if_pos h2, if_pos (Or.inr (Or.inl h2))]
    exact .inr (.inr ⟨.inl rfl, h1', h⟩)
  rw [if_neg h2]
  by_cases h3 : 32 < s.length
  · rw [if_pos h3, if_pos (Or.inr (Or.inr h3))]
    exact .inr (.inr ⟨.inr rfl, h1', h⟩)
  have hn : ¬ (d.off = true ∨ d.has i = false ∨ 32 < s.length) := fun hh => hh.elim h1 (fun hh => hh.elim h2 h3)
  rw [if_neg h3, if_neg hn]
  rcases arm_spent h h1' with ⟨e1, e2, e3⟩ | ⟨e1, e2, e3, e4⟩
  · rw [if_pos e1, if_pos e1]
    exact .inl ⟨rfl, e2, e3.put _ _⟩
  · rw [if_neg (by rw [e1]; simp), if_neg (by rw [e1]; simp)]
    exact .inr (.inl ⟨rfl, e2, e3, e4⟩)

theorem arm_flush {n done : Int} {d : DSt} (h : ArmInv n done d) : ArmStep n done d.flushE d.flushD := by
  unfold DSt.flushE DSt.flushD
  by_cases h1 : d.off = true
  · rw [if_pos h1, if_pos h1]
    exact .inr (.inl ⟨rfl, h1, h.off h1, h⟩)
  have h1' : d.off = false := by simpa using h1
  rw [if_neg h1, if_neg h1]
  rcases arm_spent h h1' with ⟨e1, e2, e3⟩ | ⟨e1, e2, e3, e4⟩
  · rw [if_pos e1, if_pos e1]
    exact .inl ⟨rfl, e2, e3.firmAll⟩
  · rw [if_neg (by rw [e1]; simp), if_neg (by rw [e1]; simp)]
    exact .inr (.inl ⟨rfl, e2, e3, e4⟩)

theorem writeD_loose (d : DSt) (i : Int) (s : List UInt8) : (d.writeD i s).loose.length ≤ d.loose.length + 1 := by
  unfold DSt.writeD
  split
  · omega
  · split
    · show (d.spent.loose ++ _).length ≤ _
      rw [List.length_append, DSt.spent_loose]; simp
    · rw [DSt.spent_loose]; omega
theorem flushD_loose (d : DSt) : d.flushD.loose.length ≤ d.loose.length := by
  unfold DSt.flushD
  split
  · omega
  · split
    · show ([] : List (Nat × List UInt8)).length ≤ _; simp
    · rw [DSt.spent_loose]; omega

def xB : ByteArray := ⟨#[120]⟩
/-- Behind a crash a write to sector 0 and a flush are done. -/
theorem crash_works {d : DSt} (h : d.Ok) (bs : List Bool) : (d.crashD bs).off = false ∧ (d.crashD bs).writeE 0 xB.data.toList = 0 ∧ ((d.crashD bs).writeD 0 xB.data.toList).flushE = 0 ∧ ((d.crashD bs).writeD 0 xB.data.toList).loose.length ≤ 1000000 := by
  have hp : 0 < (d.crashD bs).seen.length := (h.crashD bs).pos
  have hh : (d.crashD bs).has 0 = true := by rw [DSt.has_iff]; omega
  have hs : ¬ 32 < xB.data.toList.length := by decide
  have hl : (d.crashD bs).lasts = true := rfl
  have ho : (d.crashD bs).off = false := rfl
  have hq : (d.crashD bs).spent = d.crashD bs := rfl
  have hw : (d.crashD bs).writeD 0 xB.data.toList = (d.crashD bs).put 0 (padB xB.data.toList) := by
    unfold DSt.writeD
    have hn : ¬ ((d.crashD bs).off = true ∨ (d.crashD bs).has 0 = false ∨ 32 < xB.data.toList.length) := fun h1 => h1.elim (fun h1 => by rw [ho] at h1; cases h1) (fun h1 => h1.elim (fun h1 => by rw [hh] at h1; cases h1) hs)
    rw [if_neg hn, if_pos hl, hq]
    rfl
  refine ⟨rfl, ?_, ?_, ?_⟩
  · unfold DSt.writeE
    rw [if_neg (by rw [ho]; simp), if_neg (by rw [hh]; simp), if_neg hs, if_pos hl]
  · rw [hw]; rfl
  · rw [hw]
    show ([(0, padB xB.data.toList)] : List (Nat × List UInt8)).length ≤ _
    simp

end Go.Proofs.Ytocafhaakeflbaa
