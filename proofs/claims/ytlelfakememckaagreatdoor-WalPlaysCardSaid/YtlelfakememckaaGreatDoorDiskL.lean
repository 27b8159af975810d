/- Contracts of the laws' helpers: awake, kind. Arguments of the disk's laws in memory: lists of acts, lists of bools; how they are opened. The document's disk over the same states: what is left of the power, what is read. No program in sight. -/
import Derived.Test.YtlelfakememckaaGreatDoorDiskC
import Derived.Deep.Grids
import Derived.Deep.Fields
import Derived.ChangeArms
import Derived.ProofKit
import Derived.OpenShut
import Derived.Test.YtlelfakememckaaGreatDoorDiskP
namespace Go.Proofs.YtlelfakememckaaGreatDoor
open Go.RowKit

theorem bytes_toList (s : ByteArray) : s.toList = s.data.toList := Lib.toList_data s

def ab : ByteArray := ⟨#[97, 98]⟩
theorem awake_state : (DSt.new 2).writeE 1 ab.data.toList = 0 ∧ ((DSt.new 2).writeD 1 ab.data.toList).loose.length = 1 ∧ ((DSt.new 2).writeD 1 ab.data.toList).readE 1 = 0 ∧
    ((DSt.new 2).writeD 1 ab.data.toList).readB 1 = [97, 98, 0] ++ List.replicate 29 0 := by decide

/-- Which act a kind is. -/
def kindN (k : Int) : Nat := (k % 18446744073709551616).toNat % 7
theorem kindN_lt (k : Int) : kindN k < 7 := Nat.mod_lt _ (by omega)

end Go.Proofs.YtlelfakememckaaGreatDoor

namespace Go.Proofs.YtlelfakememckaaGreatDoor
open Go.RowKit

/-- An act, with the slice that holds its answers to what is kept. -/
structure ActV where
  k : Int
  at_ : Int
  n : Int
  s : ByteArray
  A : Option Addr
  len : Nat
  cap : Nat
  bs : List Bool

/-- The bools bs lie where a slice says. -/
def KeepB (W : World) (A : Option Addr) (bs : List Bool) : Prop :=
  bs = [] ∨ ∃ b off, A = some ⟨b, off, none⟩ ∧ b < W.heap.size ∧ ∀ i, (h : i < bs.length) → W.cell? ⟨b, off + i, none⟩ = some (.bool bs[i])

theorem KeepB.is {W w : World} {F : Nat → Prop} {A : Option Addr} {bs : List Bool} (h : KeepB W A bs) (hb : Below W.heap.size W w) (hF : ∀ k, F k → W.heap.size ≤ k) : KeepIs w F A bs := by
  rcases h with h | ⟨b, off, hA, hlt, hc⟩
  · exact .inl h
  · refine .inr ⟨b, off, hA, fun hf => by have := hF b hf; omega, Nat.lt_of_lt_of_le hlt hb.size, fun i hi => ?_⟩
    rw [hb.cell (p := ⟨b, off + i, none⟩) hlt]
    exact hc i hi

structure ActOk (W : World) (x : ActV) : Prop where
  k1 : -9223372036854775808 ≤ x.k
  k2 : x.k ≤ 9223372036854775807
  a1 : -9223372036854775808 ≤ x.at_
  a2 : x.at_ ≤ 9223372036854775807
  n1 : -9223372036854775808 ≤ x.n
  n2 : x.n ≤ 9223372036854775807
  s1 : x.s.size ≤ 9223372036854775807
  len : x.bs.length = x.len
  len2 : x.len ≤ 9223372036854775807
  keep : KeepB W x.A x.bs

def ActCells (W : World) (b o : Nat) (x : ActV) : Prop :=
  W.cell? ⟨b, o, none⟩ = some (.int .i64 x.k) ∧ W.cell? ⟨b, o + 1, none⟩ = some (.int .i64 x.at_) ∧ W.cell? ⟨b, o + 2, none⟩ = some (.int .i64 x.n) ∧
  W.cell? ⟨b, o + 3, none⟩ = some (.string x.s) ∧ W.cell? ⟨b, o + 4, none⟩ = some (.slice x.A x.len x.cap)

/-- The acts l lie where a slice says. -/
def IsActs (W : World) (A : Option Addr) (len : Nat) (l : List ActV) : Prop :=
  l.length = len ∧ len ≤ 9223372036854775807 ∧ (∀ x ∈ l, ActOk W x) ∧
  (l = [] ∨ ∃ b off, A = some ⟨b, off, none⟩ ∧ b < W.heap.size ∧ ∀ i, (h : i < l.length) → ActCells W b (off + i * 5) l[i])

theorem ActCells.below {W w : World} {b o : Nat} {x : ActV} (h : ActCells W b o x) (hb : Below W.heap.size W w) (hlt : b < W.heap.size) : ActCells w b o x := by
  obtain ⟨h0, h1, h2, h3, h4⟩ := h
  exact ⟨(hb.cell (p := ⟨b, o, none⟩) hlt).trans h0, (hb.cell (p := ⟨b, o + 1, none⟩) hlt).trans h1, (hb.cell (p := ⟨b, o + 2, none⟩) hlt).trans h2, (hb.cell (p := ⟨b, o + 3, none⟩) hlt).trans h3, (hb.cell (p := ⟨b, o + 4, none⟩) hlt).trans h4⟩

/-- One act, in a later world. -/
theorem IsActs.at_ {W w : World} {A : Option Addr} {len : Nat} {l : List ActV} (h : IsActs W A len l) (hb : Below W.heap.size W w) {i : Nat} (hi : i < l.length) :
    ∃ b off, A = some ⟨b, off, none⟩ ∧ b < W.heap.size ∧ ActCells w b (off + i * 5) l[i] ∧ ActOk W l[i] := by
  obtain ⟨h1, h2, h3, h4⟩ := h
  rcases h4 with rfl | ⟨b, off, hA, hlt, hc⟩
  · simp at hi
  · exact ⟨b, off, hA, hlt, (hc i hi).below hb hlt, h3 _ (List.getElem_mem hi)⟩

theorem list_of {α : Type} {p : Nat → α → Prop} : ∀ n : Nat, (∀ i, i < n → ∃ x, p i x) → ∃ l : List α, l.length = n ∧ ∀ i, (h : i < l.length) → p i l[i]
  | 0, _ => ⟨[], rfl, fun i h => by simp at h⟩
  | n + 1, h => by
    obtain ⟨l, hl, hp⟩ := list_of n (fun i hi => h i (by omega))
    obtain ⟨x, hx⟩ := h n (by omega)
    refine ⟨l ++ [x], by simp [hl], fun i hi => ?_⟩
    by_cases e : i < l.length
    · rw [List.getElem_append_left e]; exact hp i e
    · have e2 : i = l.length := by simp at hi; omega
      subst e2
      rw [List.getElem_append_right (Nat.le_refl _)]
      simp only [Nat.sub_self, List.getElem_singleton]
      rw [hl]; exact hx

theorem plain_addr {w : World} {a : Addr} {v : Value} (h : w.cell? a = some v) : a = ⟨a.block, a.off, none⟩ := by
  obtain ⟨b, o, s⟩ := a
  cases s with
  | none => rfl
  | some s =>
    simp only [World.cell?] at h
    split at h <;> simp at h

theorem Tryz.cellsInt : Tryz.prog.cellsOf 3 = 1 := by kernel_rfl
theorem Tryz.cellsStr : Tryz.prog.cellsOf 9 = 1 := by kernel_rfl
theorem Tryz.cellsBools : Tryz.prog.cellsOf 42 = 1 := by kernel_rfl
theorem wf_i64 {n : Int} (h : (Lit.int .i64 n).wf = true) : -9223372036854775808 ≤ n ∧ n ≤ 9223372036854775807 := by
  have e1 : IntKind.i64.min = -9223372036854775808 := by decide
  have e2 : IntKind.i64.max = 9223372036854775807 := by decide
  simp [Lit.wf, e1, e2] at h
  omega
theorem Tryz.cellsBool : Tryz.prog.cellsOf 4 = 1 := by kernel_rfl
section
variable {H : Type} {enc : TypeId × Value → H} {w : World}

theorem open_keep {n : Nat} {A : Option Addr} {len cap : Nat} {y : DataW H × List MemPlace} (h : DataW.trod enc Tryz.prog w 0 (fun _ => true) true n 42 [.slice A len cap] = some y) :
    len ≤ 9223372036854775807 ∧ ∃ bs : List Bool, bs.length = len ∧ KeepB w A bs := by
  rcases Deep.open_bools Tryz.underlying42 Tryz.underlying4 Tryz.cellsBool h with ⟨hcs, _⟩ | ⟨a, l, c, B, hcs, _, hl, hm, _, hc⟩
  · simp only [List.cons.injEq, Value.slice.injEq, and_true] at hcs
    obtain ⟨rfl, rfl, rfl⟩ := hcs
    exact ⟨by omega, [], rfl, .inl rfl⟩
  · simp only [List.cons.injEq, Value.slice.injEq, and_true] at hcs
    obtain ⟨rfl, rfl, rfl⟩ := hcs
    refine ⟨by unfold maxLen at hm; omega, (List.range len).map B, by simp, ?_⟩
    by_cases h0 : len = 0
    · subst h0; exact .inl rfl
    · have h1 := hc 0 (by omega)
      have ha : a.add 0 = a := by cases a; simp [Addr.add]
      rw [ha] at h1
      have e := plain_addr h1
      refine .inr ⟨a.block, a.off, by rw [← e], World.block_lt_of_cell? w _ h1, fun i hi => ?_⟩
      have hi' : i < len := by simpa using hi
      have h2 := hc i (by omega)
      rw [e, WideShapes.add_plain] at h2
      rw [h2]
      simp

end
end Go.Proofs.YtlelfakememckaaGreatDoor

namespace Go.Proofs.YtlelfakememckaaGreatDoor

/-- What is read is what is firm with the loose writes done. -/
def DSt.Tru (d : DSt) : Prop := d.seen = applyAll d.firm d.loose
/-- What is left, -1 where the power is not armed. -/
def DSt.leftR (d : DSt) : Int := if d.armed = true then d.left else -1

theorem tru_new (n : Nat) : (DSt.new n).Tru := rfl
theorem DSt.Tru.spent {d : DSt} (h : d.Tru) : d.spent.Tru := by
  unfold DSt.Tru; rw [DSt.spent_seen, DSt.spent_firm, DSt.spent_loose]; exact h
theorem DSt.Tru.writeD {d : DSt} (h : d.Tru) (i : Int) (s : List UInt8) : (d.writeD i s).Tru := by
  unfold DSt.writeD
  split
  · exact h
  · split
    · show d.spent.seen.set i.toNat (padB s) = applyAll d.spent.firm (d.spent.loose ++ [(i.toNat, padB s)])
      rw [applyAll_snoc, h.spent]
    · exact h.spent
theorem DSt.Tru.flushD {d : DSt} (h : d.Tru) : d.flushD.Tru := by
  unfold DSt.flushD
  split
  · exact h
  · split
    · exact h.spent
    · exact h.spent
theorem DSt.Tru.armD {d : DSt} (h : d.Tru) (n : Int) : (d.armD n).Tru := h
theorem DSt.Tru.crashD (d : DSt) (bs : List Bool) : (d.crashD bs).Tru := rfl

theorem leftR_new (n : Nat) : (DSt.new n).leftR = -1 := rfl
theorem leftR_arm (d : DSt) (n : Int) : (d.armD n).leftR = if n < 0 then -1 else n := by
  unfold DSt.leftR DSt.armD
  by_cases h : n < 0
  · rw [if_neg (by simpa using h), if_pos h]
  · rw [if_pos (by simpa using h), if_neg h]
theorem leftR_crash (d : DSt) (bs : List Bool) : (d.crashD bs).leftR = -1 := rfl
theorem DSt.Ok.leftR {d : DSt} (h : d.Ok) : -1 ≤ d.leftR ∧ d.leftR ≤ 9223372036854775807 := by
  have h1 := h.arm
  have h2 := h.hi
  unfold DSt.leftR
  split
  · next h3 => have := h1 h3; omega
  · omega
theorem lasts_iff {d : DSt} : d.lasts = true ↔ d.leftR ≠ 0 := by
  unfold DSt.lasts DSt.leftR
  cases d.armed <;> simp
theorem spent_no {d : DSt} (h : d.leftR = 0) : d.spent = { d with off := true } ∧ d.lasts = false := by
  unfold DSt.leftR at h
  unfold DSt.spent DSt.lasts
  cases hd : d.armed with
  | false => rw [hd] at h; simp at h
  | true => rw [hd] at h; simp at h; simp [h]
theorem spent_yes {d : DSt} (h : d.leftR ≠ 0) (ho : d.Ok) : d.spent.leftR = (if 0 < d.leftR then d.leftR - 1 else d.leftR) ∧ d.spent.off = d.off := by
  have h1 := ho.arm
  unfold DSt.leftR at h ⊢
  unfold DSt.spent
  cases hd : d.armed with
  | false => simp [hd]
  | true =>
    rw [hd] at h
    have := h1 hd
    simp at h
    simp [h]
    omega

/-- What is read, step by step. -/
theorem applyAll_take_getD (f : List (List UInt8)) (l : List (Nat × List UInt8)) (k i : Nat) (hk : k < l.length) (hi : i < f.length) :
    (applyAll f (l.take (k + 1))).getD i [] = if l[k].1 = i then l[k].2 else (applyAll f (l.take k)).getD i [] := by
  rw [List.take_succ_eq_append_getElem hk, applyAll_snoc, List.getD_eq_getElem?_getD, List.getD_eq_getElem?_getD]
  by_cases h : l[k].1 = i
  · subst h
    rw [if_pos rfl, List.getElem?_set_self (by rw [applyAll_length]; exact hi)]
    rfl
  · rw [if_neg h, List.getElem?_set_ne h]

/-- What is kept, step by step. -/
theorem keepOf_take (bs : List Bool) (l : List (Nat × List UInt8)) (k : Nat) (hk : k < l.length) : keepOf bs (l.take (k + 1)) = keepOf bs (l.take k) ++ (if bs.getD k false then [l[k]] else []) := by
  rw [List.take_succ_eq_append_getElem hk, keepOf_snoc, List.length_take, Nat.min_eq_left (by omega)]
theorem keepOf_all (l : List (Nat × List UInt8)) : keepOf (List.replicate l.length true) l = l := by
  suffices h : ∀ k, k ≤ l.length → keepOf (List.replicate l.length true) (l.take k) = l.take k by
    have := h l.length (Nat.le_refl _)
    rwa [List.take_length] at this
  intro k
  induction k with
  | zero => intro _; rfl
  | succ k ih =>
    intro hk
    rw [keepOf_take _ _ _ (by omega), ih (by omega), List.take_succ_eq_append_getElem (by omega)]
    simp [List.getD_eq_getElem?_getD, show k < l.length by omega]
end Go.Proofs.YtlelfakememckaaGreatDoor
