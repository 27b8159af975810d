/- What Send, Take, Twice and Turn answer (P16.1, P16.2), plain. No program in sight. -/
import Derived.Test.YtfcpgkbbocadpaaWireF
namespace Go.Proofs.Ytfcpgkbbocadpaa
open Go.RowKit

def sendE (l : List WPk) (p : WPk) : Int :=
  if rightW l = false ∨ p.to_ < 0 ∨ 1 < p.to_ then 1 else if 4103 < p.s.length then 5 else if 255 < l.length then 6 else 0
def sendL (l : List WPk) (p : WPk) : List WPk := if sendE l p = 0 then l ++ [p] else []
def takeWE (l : List WPk) (k : Int) : Int := if rightW l = false then 1 else if k < 0 ∨ (l.length : Int) ≤ k then 8 else 0
def takeWL (l : List WPk) (k : Int) : List WPk := if takeWE l k = 0 then putW l k.toNat [] else []
def takeWP (l : List WPk) (k : Int) : WPk := if takeWE l k = 0 then l.getD k.toNat ⟨0, []⟩ else ⟨0, []⟩
def twiceE (l : List WPk) (k : Int) : Int := if takeWE l k ≠ 0 then takeWE l k else if 255 < l.length then 6 else 0
def twiceL (l : List WPk) (k : Int) : List WPk := if twiceE l k = 0 then l ++ [l.getD k.toNat ⟨0, []⟩] else []
def turnE (l : List WPk) (k at_ : Int) : Int := if takeWE l k ≠ 0 then takeWE l k else if at_ < 0 ∨ ((l.getD k.toNat ⟨0, []⟩).s.length : Int) ≤ at_ then 1 else 0
def turnP (p : WPk) (at_ : Nat) (b : UInt8) : WPk := ⟨p.to_, turnedW p.s at_ b⟩
def turnWL (l : List WPk) (k at_ : Int) (b : UInt8) : List WPk := if turnE l k at_ = 0 then l.set k.toNat (turnP (l.getD k.toNat ⟨0, []⟩) at_.toNat b) else []

theorem putW_end (l os : List WPk) : putW l l.length os = l ++ os := by
  unfold putW
  rw [List.take_length, List.drop_eq_nil_of_le (by omega), List.append_nil]
theorem putW_one {l : List WPk} {k : Nat} (h : k < l.length) (p : WPk) : putW l k [p] = l.set k p := by
  unfold putW
  rw [List.set_eq_take_append_cons_drop, if_pos h, List.append_assoc]
  rfl
theorem putW_none (l : List WPk) (k : Nat) : putW l k [] = l.eraseIdx k := by
  unfold putW
  rw [List.append_nil, List.eraseIdx_eq_take_drop_succ]
theorem turnedW_len (s : List UInt8) (k : Nat) (b : UInt8) : (turnedW s k b).length = s.length := by unfold turnedW; rw [List.length_set]
theorem send_bad {l : List WPk} {p : WPk} (h : rightW l = false ∨ p.to_ < 0 ∨ 1 < p.to_) : sendE l p = 1 ∧ sendL l p = [] := by
  have e : sendE l p = 1 := by unfold sendE; rw [if_pos h]
  exact ⟨e, by unfold sendL; rw [if_neg (by omega)]⟩
theorem send_long {l : List WPk} {p : WPk} (h : ¬ (rightW l = false ∨ p.to_ < 0 ∨ 1 < p.to_)) (h2 : 4103 < p.s.length) : sendE l p = 5 ∧ sendL l p = [] := by
  have e : sendE l p = 5 := by unfold sendE; rw [if_neg h, if_pos h2]
  exact ⟨e, by unfold sendL; rw [if_neg (by omega)]⟩
theorem send_full {l : List WPk} {p : WPk} (h : ¬ (rightW l = false ∨ p.to_ < 0 ∨ 1 < p.to_)) (h2 : ¬ 4103 < p.s.length) (h3 : 255 < l.length) : sendE l p = 6 ∧ sendL l p = [] := by
  have e : sendE l p = 6 := by unfold sendE; rw [if_neg h, if_neg h2, if_pos h3]
  exact ⟨e, by unfold sendL; rw [if_neg (by omega)]⟩
theorem send_ok {l : List WPk} {p : WPk} (h : ¬ (rightW l = false ∨ p.to_ < 0 ∨ 1 < p.to_)) (h2 : ¬ 4103 < p.s.length) (h3 : ¬ 255 < l.length) : sendE l p = 0 ∧ sendL l p = l ++ [p] := by
  have e : sendE l p = 0 := by unfold sendE; rw [if_neg h, if_neg h2, if_neg h3]
  exact ⟨e, by unfold sendL; rw [if_pos e]⟩
theorem take_wrong {l : List WPk} (h : rightW l = false) (k at_ : Int) (b : UInt8) : (takeWE l k = 1 ∧ takeWL l k = [] ∧ takeWP l k = ⟨0, []⟩) ∧ (twiceE l k = 1 ∧ twiceL l k = []) ∧ (turnE l k at_ = 1 ∧ turnWL l k at_ b = []) := by
  have e : takeWE l k = 1 := by unfold takeWE; rw [if_pos h]
  have e2 : twiceE l k = 1 := by unfold twiceE; rw [if_pos (by omega), e]
  have e3 : turnE l k at_ = 1 := by unfold turnE; rw [if_pos (by omega), e]
  exact ⟨⟨e, by unfold takeWL; rw [if_neg (by omega)], by unfold takeWP; rw [if_neg (by omega)]⟩, ⟨e2, by unfold twiceL; rw [if_neg (by omega)]⟩, ⟨e3, by unfold turnWL; rw [if_neg (by omega)]⟩⟩
theorem take_none {l : List WPk} (h : rightW l = true) {k : Int} (hk : k < 0 ∨ (l.length : Int) ≤ k) (at_ : Int) (b : UInt8) : (takeWE l k = 8 ∧ takeWL l k = [] ∧ takeWP l k = ⟨0, []⟩) ∧ (twiceE l k = 8 ∧ twiceL l k = []) ∧ (turnE l k at_ = 8 ∧ turnWL l k at_ b = []) := by
  have e : takeWE l k = 8 := by unfold takeWE; rw [if_neg (by rw [h]; simp), if_pos hk]
  have e2 : twiceE l k = 8 := by unfold twiceE; rw [if_pos (by omega), e]
  have e3 : turnE l k at_ = 8 := by unfold turnE; rw [if_pos (by omega), e]
  exact ⟨⟨e, by unfold takeWL; rw [if_neg (by omega)], by unfold takeWP; rw [if_neg (by omega)]⟩, ⟨e2, by unfold twiceL; rw [if_neg (by omega)]⟩, ⟨e3, by unfold turnWL; rw [if_neg (by omega)]⟩⟩
theorem take_ok {l : List WPk} (h : rightW l = true) {k : Nat} (hk : k < l.length) : takeWE l k = 0 ∧ takeWL l k = putW l k [] ∧ takeWP l k = l[k] := by
  have e : takeWE l k = 0 := by unfold takeWE; rw [if_neg (by rw [h]; simp), if_neg (by omega)]
  refine ⟨e, by unfold takeWL; rw [if_pos e]; rfl, ?_⟩
  unfold takeWP
  rw [if_pos e, Int.toNat_natCast, List.getD_eq_getElem?_getD, List.getElem?_eq_getElem hk]; rfl
theorem twice_full {l : List WPk} (h : rightW l = true) {k : Nat} (hk : k < l.length) (h2 : 255 < l.length) : twiceE l k = 6 ∧ twiceL l k = [] := by
  have e : twiceE l k = 6 := by unfold twiceE; rw [if_neg (by rw [(take_ok h hk).1]; simp), if_pos h2]
  exact ⟨e, by unfold twiceL; rw [if_neg (by omega)]⟩
theorem twice_ok {l : List WPk} (h : rightW l = true) {k : Nat} (hk : k < l.length) (h2 : ¬ 255 < l.length) : twiceE l k = 0 ∧ twiceL l k = l ++ [l[k]] := by
  have e : twiceE l k = 0 := by unfold twiceE; rw [if_neg (by rw [(take_ok h hk).1]; simp), if_neg h2]
  refine ⟨e, ?_⟩
  unfold twiceL
  rw [if_pos e, Int.toNat_natCast, List.getD_eq_getElem?_getD, List.getElem?_eq_getElem hk]; rfl
theorem turn_bad {l : List WPk} (h : rightW l = true) {k : Nat} (hk : k < l.length) {at_ : Int} (h2 : at_ < 0 ∨ (l[k].s.length : Int) ≤ at_) (b : UInt8) : turnE l k at_ = 1 ∧ turnWL l k at_ b = [] := by
  have e : turnE l k at_ = 1 := by
    unfold turnE
    rw [if_neg (by rw [(take_ok h hk).1]; simp), Int.toNat_natCast, List.getD_eq_getElem?_getD, List.getElem?_eq_getElem hk, Option.getD_some, if_pos h2]
  exact ⟨e, by unfold turnWL; rw [if_neg (by omega)]⟩
theorem turn_ok {l : List WPk} (h : rightW l = true) {k : Nat} (hk : k < l.length) {a : Nat} (h2 : a < l[k].s.length) (b : UInt8) : turnE l k a = 0 ∧ turnWL l k a b = putW l k [turnP l[k] a b] := by
  have e : turnE l k a = 0 := by
    unfold turnE
    rw [if_neg (by rw [(take_ok h hk).1]; simp), Int.toNat_natCast, List.getD_eq_getElem?_getD, List.getElem?_eq_getElem hk, Option.getD_some, if_neg (by omega)]
  refine ⟨e, ?_⟩
  unfold turnWL
  rw [if_pos e, Int.toNat_natCast, Int.toNat_natCast, List.getD_eq_getElem?_getD, List.getElem?_eq_getElem hk, putW_one hk]; rfl
theorem send_zero {l : List WPk} {p : WPk} (h : sendE l p = 0) : (¬ (rightW l = false ∨ p.to_ < 0 ∨ 1 < p.to_)) ∧ ¬ 4103 < p.s.length ∧ ¬ 255 < l.length := by
  unfold sendE at h
  split at h
  · omega
  · rename_i h1
    split at h
    · omega
    · rename_i h2
      split at h
      · omega
      · rename_i h3
        exact ⟨h1, h2, h3⟩
theorem send_not {l : List WPk} {p : WPk} (h : sendE l p ≠ 0) : sendL l p = [] := by unfold sendL; rw [if_neg h]
theorem send_right {l : List WPk} {p : WPk} (h : ¬ (rightW l = false ∨ p.to_ < 0 ∨ 1 < p.to_)) (h2 : ¬ 4103 < p.s.length) (h3 : ¬ 255 < l.length) : rightW (l ++ [p]) = true := by
  have hr : rightW l = true := by cases e : rightW l with | true => rfl | false => exact absurd (.inl e) h
  have hp : okW p = true := (okW_iff p).2 ⟨by have : ¬ p.to_ < 0 := fun e => h (.inr (.inl e)); omega, by have : ¬ 1 < p.to_ := fun e => h (.inr (.inr e)); omega, by omega⟩
  unfold rightW at hr ⊢
  rw [Bool.and_eq_true] at hr ⊢
  refine ⟨decide_eq_true (by rw [List.length_append]; simp; omega), ?_⟩
  rw [List.all_append, hr.2]
  simp [hp]
theorem last_at (l : List WPk) (p : WPk) (h : l.length < (l ++ [p]).length) : (l ++ [p])[l.length] = p := by simp
theorem putW_last (l os : List WPk) (p : WPk) : putW (l ++ [p]) l.length os = l ++ os := by
  unfold putW
  rw [List.take_left', List.drop_eq_nil_of_le (by simp), List.append_nil]
  rfl
theorem turned_twice {s : List UInt8} {k : Nat} (h : k < s.length) (b : UInt8) : turnedW (turnedW s k b) k b = s := by
  unfold turnedW
  have e : (s.set k (s.getD k 0 ^^^ b)).getD k 0 = s.getD k 0 ^^^ b := by
    rw [List.getD_eq_getElem?_getD, List.getElem?_set_self h]; rfl
  rw [e, List.set_set]
  have e2 : s.getD k 0 = s[k] := by rw [List.getD_eq_getElem?_getD, List.getElem?_eq_getElem h]; rfl
  rw [e2, UInt8.xor_assoc, UInt8.xor_self, UInt8.xor_zero, List.set_getElem_self]
theorem turned_same {s : List UInt8} {k : Nat} (h : k < s.length) (b : UInt8) : turnedW s k b = s ↔ b = 0 := by
  unfold turnedW
  have e2 : s.getD k 0 = s[k] := by rw [List.getD_eq_getElem?_getD, List.getElem?_eq_getElem h]; rfl
  rw [e2]
  constructor
  · intro e
    have h1 := congrArg (fun l => l[k]?) e
    simp only [List.getElem?_set_self h, List.getElem?_eq_getElem h, Option.some.injEq] at h1
    exact (xor_same_iff _ _).1 h1
  · intro e
    rw [e, UInt8.xor_zero, List.set_getElem_self]
/-- What WiresBack needs: a packet that was sent stands behind the others, and is turned, and taken, there. -/
structure BackOk (l : List WPk) (p : WPk) : Prop where
  turnB : ∀ (at_ : Int) (b : UInt8), (at_ < 0 ∨ (p.s.length : Int) ≤ at_) → turnE (l ++ [p]) l.length at_ = 1 ∧ turnWL (l ++ [p]) l.length at_ b = []
  turnO : ∀ (a : Nat) (b : UInt8), a < p.s.length → turnE (l ++ [p]) l.length a = 0 ∧ turnWL (l ++ [p]) l.length a b = l ++ [turnP p a b]
  take : takeWE (l ++ [p]) l.length = 0 ∧ takeWL (l ++ [p]) l.length = l ∧ takeWP (l ++ [p]) l.length = p
theorem back_ok {l : List WPk} {p : WPk} (h : ¬ (rightW l = false ∨ p.to_ < 0 ∨ 1 < p.to_)) (h2 : ¬ 4103 < p.s.length) (h3 : ¬ 255 < l.length) : BackOk l p := by
  have hr := send_right h h2 h3
  have hk : l.length < (l ++ [p]).length := by simp
  have hl := last_at l p hk
  refine ⟨fun at_ b h4 => turn_bad hr hk (by rw [hl]; exact h4) b, fun a b h4 => ?_, ?_⟩
  · obtain ⟨e1, e2⟩ := turn_ok hr hk (a := a) (by rw [hl]; exact h4) b
    exact ⟨e1, by rw [e2, hl, putW_last]⟩
  · obtain ⟨e1, e2, e3⟩ := take_ok hr hk
    exact ⟨e1, by rw [e2, putW_last, List.append_nil], by rw [e3, hl]⟩
/-- An answer: packets and an error. -/
def WpErr (l : List WPk) (er : Int) (w : World) (e : Ending) (w' : World) : Prop :=
  ∃ A c, e = .returned (.tuple #[.slice A l.length c, .int .i64 er]) ∧ WpAt w' w'.heap.size A l ∧ (l.length ≤ c ∧ (A = none → c = 0)) ∧ Below w.heap.size w w'
def WpTak (l : List WPk) (p : WPk) (er : Int) (w : World) (e : Ending) (w' : World) : Prop :=
  ∃ A c, e = .returned (.tuple #[.slice A l.length c, .agg #[.int .i64 p.to_, .string (str p.s)], .int .i64 er]) ∧ WpAt w' w'.heap.size A l ∧ (l.length ≤ c ∧ (A = none → c = 0)) ∧ Below w.heap.size w w'
end Go.Proofs.Ytfcpgkbbocadpaa
