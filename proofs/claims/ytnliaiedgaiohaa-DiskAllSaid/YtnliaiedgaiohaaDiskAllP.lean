/- For DiskAll: several disks that lie apart, beside a row of answers; what writes, a flush and a crash leave of calm disks. -/
import Derived.Test.YtnliaiedgaiohaaDiskSomeP
namespace Go.Proofs.Ytnliaiedgaiohaa
open Go.RowKit

/-! ### Plain -/

/-- The writes of acts, one behind the other. -/
def runW (d : DSt) (l : List ActV) : DSt := l.foldl (fun d x => d.writeD x.at_ x.s.data.toList) d
theorem runW_nil (d : DSt) : runW d [] = d := rfl
theorem runW_snoc (d : DSt) (l : List ActV) (x : ActV) : runW d (l ++ [x]) = (runW d l).writeD x.at_ x.s.data.toList := by unfold runW; rw [List.foldl_append]; rfl

theorem calm_writeD {n : Nat} {d : DSt} (h : Calm n d) (i : Int) (s : List UInt8) : Calm n (d.writeD i s) ∧ (d.writeD i s).firm = d.firm ∧ (d.writeD i s).loose.length ≤ d.loose.length + 1 := by
  refine ⟨?_, ?_, writeD_loose d i s⟩
  · rcases calm_write h i s with ⟨_, _, _, _, _, hc⟩ | ⟨_, he⟩
    · exact hc
    · rw [he]; exact h
  · rcases calm_write h i s with ⟨_, _, _, _, he, _⟩ | ⟨_, he⟩
    · rw [he]; rfl
    · rw [he]

theorem calm_runW {n : Nat} (l : List ActV) : ∀ {d : DSt}, Calm n d → Calm n (runW d l) ∧ (runW d l).firm = d.firm ∧ (runW d l).loose.length ≤ d.loose.length + l.length := by
  induction l with
  | nil => intro d h; exact ⟨h, rfl, by simp [runW]⟩
  | cons x l ih =>
    intro d h
    obtain ⟨h1, h2, h3⟩ := calm_writeD h x.at_ x.s.data.toList
    obtain ⟨g1, g2, g3⟩ := ih h1
    refine ⟨g1, g2.trans h2, ?_⟩
    show (runW (d.writeD x.at_ x.s.data.toList) l).loose.length ≤ _
    simp only [List.length_cons]
    omega

theorem keepOf_all (k : Nat) (l : List (Nat × List UInt8)) (h : l.length ≤ k) : keepOf (List.replicate k true) l = l := by
  unfold keepOf
  rw [List.filter_eq_self.2]
  · simp
  · rintro ⟨x, i⟩ hx
    have hi := (List.mem_zipIdx hx).2.1
    rw [List.getD_eq_getElem?_getD, List.getElem?_replicate, if_pos (by simp at hi; omega)]
    rfl
theorem keepOf_none (l : List (Nat × List UInt8)) : keepOf [] l = [] := by
  unfold keepOf
  rw [List.filter_eq_nil_iff.2]
  · rfl
  · rintro ⟨x, i⟩ _
    simp

theorem crash_all {n : Nat} {d : DSt} (h : Calm n d) {k : Nat} (hk : d.loose.length ≤ k) : (d.crashD (List.replicate k true)).seen = d.seen := by
  show applyAll d.firm (keepOf _ d.loose) = d.seen
  rw [keepOf_all k _ hk, h.seen]
theorem crash_none (d : DSt) : (d.crashD []).seen = d.firm := by
  show applyAll d.firm (keepOf _ d.loose) = d.firm
  rw [keepOf_none]
  rfl

/-! ### Several disks -/

/-- Disks D at blocks A lie apart from one another, from a row v of k answers 'true', and from the blocks X. -/
def Many (W wr : World) (A : List Nat) (D : List DSt) (v : Value) (k : Nat) (X : Nat → Prop) : Prop :=
  ∃ F : Nat → Nat → Prop, A.length = D.length ∧ (∀ i a d, A[i]? = some a → D[i]? = some d → IsDisk wr (F i) a d) ∧ (∀ i j, i ≠ j → i < A.length → j < A.length → ∀ q, F i q → ¬ F j q) ∧
    (∀ i, i < A.length → ∀ q, F i q → W.heap.size ≤ q) ∧ Below W.heap.size W wr ∧ wr.ownsRow W.heap.size 4 1 v k (List.replicate k (.bool true)) ∧ (∀ i, i < A.length → ∀ q, F i q → v.ownBlock ≠ some q) ∧
    (∀ i, i < A.length → ∀ q, F i q → ¬ X q) ∧ (∀ q, X q → q < wr.heap.size)

theorem own_moves {F : Nat → Prop} {w w' : World} {base : Nat} {e : TypeId} {size n : Nat} {v : Value} {xs : List Value} (h : w.ownsRow base e size v n xs) (hm : Moves F w w') (hF : ∀ q, F q → v.ownBlock ≠ some q) : w'.ownsRow base e size v n xs := by
  have hlt := h.lt
  obtain ⟨h1, h2⟩ := h
  refine ⟨h1, h2.imp id ?_⟩
  rintro ⟨g, cap, cur, he, hb0, hg, hr⟩
  have hvb : v.ownBlock = some g := by rw [he]; rfl
  exact ⟨g, cap, cur, he, hb0, by rw [hm.block g (hlt g hvb).2 (fun hf => hF g hf hvb)]; exact hg, hr⟩

theorem Many.bel {W wr : World} {A : List Nat} {D : List DSt} {v : Value} {k : Nat} {X : Nat → Prop} (h : Many W wr A D v k X) : Below W.heap.size W wr := by
  obtain ⟨_, _, _, _, _, h, _⟩ := h
  exact h

/-- One of them, and what is left behind a call on it. -/
theorem Many.get {W wr : World} {A : List Nat} {D : List DSt} {v : Value} {k : Nat} {X : Nat → Prop} (h : Many W wr A D v k X) (i : Nat) {a : Nat} {d : DSt} (hA : A[i]? = some a) (hD : D[i]? = some d) :
    ∃ F : Nat → Prop, IsDisk wr F a d ∧ (∀ q, F q → W.heap.size ≤ q) ∧ (∀ q, F q → v.ownBlock ≠ some q) ∧ (∀ q, F q → ¬ X q) ∧ (∀ q, X q → q < wr.heap.size) ∧ ∀ d' x e w2, DiskEnd wr F a d' x e w2 → Many W w2 A (D.set i d') v k X := by
  obtain ⟨F, hl, hd, hap, hlow, hb, ho, hv, hX, hXl⟩ := h
  have hi : i < A.length := (List.getElem?_eq_some_iff.1 hA).1
  refine ⟨F i, hd i a d hA hD, hlow i hi, hv i hi, hX i hi, hXl, fun d' x e w2 h2 => ?_⟩
  obtain ⟨_, hm, F', hd', hF'⟩ := h2
  have hnew : ∀ q, F' q → ∀ j, j < A.length → j ≠ i → ¬ F j q := fun q hq j hj hji hf => by
    rcases hF' q hq with h | h
    · exact hap j i hji hj hi q hf h
    · have hj2 : j < D.length := by omega
      have := (hd j _ _ (List.getElem?_eq_getElem hj) (List.getElem?_eq_getElem hj2)).low q hf
      omega
  refine ⟨fun j => if j = i then F' else F j, by rw [List.length_set]; exact hl, fun j a' d'' hA' hD' => ?_, fun j j' hjj hj hj' q hq => ?_, fun j hj q hq => ?_, hb.trans (hm.below hb.size (hlow i hi)), own_moves ho hm (hv i hi), fun j hj q hq => ?_, fun j hj q hq => ?_, fun q hq => Nat.lt_of_lt_of_le (hXl q hq) hm.size⟩
  · by_cases e : j = i
    · subst e
      rw [hA] at hA'
      cases hA'
      rw [List.getElem?_set_self (by omega)] at hD'
      cases hD'
      simp only [if_true]
      exact hd'
    · rw [List.getElem?_set_ne (Ne.symm e)] at hD'
      simp only [if_neg e]
      exact (hd j a' d'' hA' hD').kept hm (fun q h1 h2 => hap i j (Ne.symm e) hi (List.getElem?_eq_some_iff.1 hA').1 q h1 h2)
  · by_cases e : j = i
    · subst e
      simp only [if_true] at hq
      simp only [if_neg (Ne.symm hjj)]
      exact hnew q hq j' hj' (Ne.symm hjj)
    · simp only [if_neg e] at hq
      by_cases e2 : j' = i
      · subst e2
        simp only [if_true]
        exact fun h => hnew q h j hj e hq
      · simp only [if_neg e2]
        exact hap j j' hjj hj hj' q hq
  · by_cases e : j = i
    · subst e
      simp only [if_true] at hq
      exact (hF' q hq).elim (hlow j hj q) (fun h => Nat.le_trans hb.size h)
    · simp only [if_neg e] at hq
      exact hlow j hj q hq
  · by_cases e : j = i
    · subst e
      simp only [if_true] at hq
      rcases hF' q hq with h | h
      · exact hv j hj q h
      · intro hvq
        have := (ho.lt q hvq).2
        omega
    · simp only [if_neg e] at hq
      exact hv j hj q hq
  · by_cases e : j = i
    · subst e
      simp only [if_true] at hq
      rcases hF' q hq with h | h
      · exact hX j hj q h
      · intro hx
        have := hXl q hx
        omega
    · simp only [if_neg e] at hq
      exact hX j hj q hq

theorem Many.below {W wr w2 : World} {A : List Nat} {D : List DSt} {v : Value} {k : Nat} {X : Nat → Prop} (h : Many W wr A D v k X) (hb2 : Below wr.heap.size wr w2) : Many W w2 A D v k X := by
  obtain ⟨F, hl, hd, hap, hlow, hb, ho, hv, hX, hXl⟩ := h
  exact ⟨F, hl, fun i a d h1 h2 => (hd i a d h1 h2).below hb2, hap, hlow, hb.trans (hb2.mono hb.size), own_moves ho (Moves.of_below (F := fun _ => False) hb2) (fun _ h => h.elim), hv, hX, fun q hq => Nat.lt_of_lt_of_le (hXl q hq) hb2.size⟩

theorem many_none (W : World) : Many W W [] [] (.slice none 0 0) 0 (fun _ => False) :=
  ⟨fun _ _ => False, rfl, (fun i a d h => by simp at h), (fun _ _ _ h => by simp at h), (fun _ h => by simp at h), Below.refl _ _, World.ownsRow_nil _ _ _ _, (fun _ h => by simp at h), (fun _ h => by simp at h), fun _ h => h.elim⟩

theorem Many.new {W wr w2 : World} {A : List Nat} {D : List DSt} {v : Value} {k n : Nat} {e : Ending} {X : Nat → Prop} (h : Many W wr A D v k X) (h2 : NewEnd n wr e w2) : ∃ a, e = .returned (.pointer (some ⟨a, 0, none⟩)) ∧ Many W w2 (A ++ [a]) (D ++ [DSt.new n]) v k X := by
  obtain ⟨a, F2, he, hd2, hF2, hb2⟩ := h2
  obtain ⟨F, hl, hd, hap, hlow, hb, ho, hv, _, hXl⟩ := h.below hb2
  obtain ⟨F0, hl0, hd0, hap0, hlow0, hb0, ho0, hv0, hX0, hXl0⟩ := h
  have hold : ∀ j, j < A.length → ∀ q, F0 j q → q < wr.heap.size := fun j hj q hq => (hd0 j _ _ (List.getElem?_eq_getElem hj) (List.getElem?_eq_getElem (by omega))).low q hq
  refine ⟨a, he, fun j => if j < A.length then F0 j else F2, by simp [hl], fun j a' d' hA hD => ?_, fun j j' hjj hj hj' q hq => ?_, fun j hj q hq => ?_, hb, ho, fun j hj q hq => ?_, fun j hj q hq => ?_, hXl⟩
  · by_cases e : j < A.length
    · simp only [if_pos e]
      rw [List.getElem?_append_left e] at hA
      rw [List.getElem?_append_left (by omega)] at hD
      exact (hd0 j a' d' hA hD).below hb2
    · simp only [if_neg e]
      have hj : j = A.length := by have := (List.getElem?_eq_some_iff.1 hA).1; simp at this; omega
      subst hj
      rw [List.getElem?_append_right (Nat.le_refl _)] at hA
      rw [hl, List.getElem?_append_right (Nat.le_refl _)] at hD
      simp at hA hD
      subst hA hD
      exact hd2
  · by_cases e : j < A.length
    · simp only [if_pos e] at hq
      by_cases e2 : j' < A.length
      · simp only [if_pos e2]; exact hap0 j j' hjj e e2 q hq
      · simp only [if_neg e2]
        intro hf
        have := hold j e q hq
        have := hF2 q hf
        omega
    · simp only [if_neg e] at hq
      by_cases e2 : j' < A.length
      · simp only [if_pos e2]
        intro hf
        have := hold j' e2 q hf
        have := hF2 q hq
        omega
      · simp at hj hj'; omega
  · by_cases e : j < A.length
    · simp only [if_pos e] at hq; exact hlow0 j e q hq
    · simp only [if_neg e] at hq; exact Nat.le_trans hb0.size (hF2 q hq)
  · by_cases e : j < A.length
    · simp only [if_pos e] at hq; exact hv0 j e q hq
    · simp only [if_neg e] at hq
      intro hvq
      have := (ho0.lt q hvq).2
      have := hF2 q hq
      omega
  · by_cases e : j < A.length
    · simp only [if_pos e] at hq; exact hX0 j e q hq
    · simp only [if_neg e] at hq
      intro hx
      have := hXl0 q hx
      have := hF2 q hq
      omega

/-- A new block that is to be left alone. -/
theorem Many.avoid {W wr : World} {A : List Nat} {D : List DSt} {v : Value} {k : Nat} {X : Nat → Prop} (h : Many W wr A D v k X) (o : Obj) : Many W (wr.alloc o) A D v k (fun q => q = wr.heap.size) := by
  have h2 := h.below ((Below.refl _ _).alloc (Nat.le_refl _) o)
  obtain ⟨F, hl, hd, hap, hlow, hb, ho, hv, _, _⟩ := h
  refine ⟨F, hl, fun i a d h1 h3 => (hd i a d h1 h3).below ((Below.refl _ _).alloc (Nat.le_refl _) o), hap, hlow, h2.bel, ho.alloc o, hv, fun i hi q hq e => ?_, fun q hq => by subst hq; simp⟩
  have := (hd i _ _ (List.getElem?_eq_getElem hi) (List.getElem?_eq_getElem (by omega))).low q hq
  omega
theorem Many.free {W wr : World} {A : List Nat} {D : List DSt} {v : Value} {k : Nat} {X : Nat → Prop} (h : Many W wr A D v k X) : Many W wr A D v k (fun _ => False) := by
  obtain ⟨F, hl, hd, hap, hlow, hb, ho, hv, _, _⟩ := h
  exact ⟨F, hl, hd, hap, hlow, hb, ho, hv, fun _ _ _ _ h => h, fun _ h => h.elim⟩

/-- One answer more. -/
theorem Many.keep {W wr w' : World} {A : List Nat} {D : List DSt} {v : Value} {k : Nat} {X : Nat → Prop} (h : Many W wr A D v k X) (o : Obj) {g cap : Nat} (hg : (wr.alloc o).grownBy w' v.ownBlock) (hat : v.ownBlock = some g ∨ g = wr.heap.size + 1)
    (hown : w'.ownsRow W.heap.size 4 1 (.slice (some ⟨g, 0, none⟩) (k + 1) cap) (k + 1) (List.replicate k (.bool true) ++ [.bool true])) : Many W w' A D (.slice (some ⟨g, 0, none⟩) (k + 1) cap) (k + 1) X := by
  obtain ⟨F, hl, hd, hap, hlow, hb, ho, hv, hX, hXl⟩ := h
  have hm : Moves (fun q => v.ownBlock = some q) wr w' := (((Moves.refl (fun q => v.ownBlock = some q) wr).alloc o)).trans (G := fun q => v.ownBlock = some q) (Moves.of_grown hg (fun q hq => hq)) (fun _ h => Or.inl h)
  refine ⟨F, hl, fun i a d h1 h2 => (hd i a d h1 h2).kept hm (fun q hq hf => hv i (List.getElem?_eq_some_iff.1 h1).1 q hf hq), hap, hlow, hb.trans (hm.below hb.size (fun q hq => (ho.lt q hq).1)), by rw [show List.replicate (k + 1) (Value.bool true) = List.replicate k (.bool true) ++ [.bool true] from List.replicate_succ']; exact hown, fun i hi q hq hvq => ?_, hX, fun q hq => Nat.lt_of_lt_of_le (hXl q hq) hm.size⟩
  simp only [Value.ownBlock, Option.some.injEq] at hvq
  subst hvq
  rcases hat with e | e
  · exact hv i hi _ hq e
  · have := (hd i _ _ (List.getElem?_eq_getElem hi) (List.getElem?_eq_getElem (by omega))).low _ hq
    omega

theorem Many.keepIs {W wr : World} {A : List Nat} {D : List DSt} {B : Option Addr} {k n c : Nat} {F X : Nat → Prop} (h : Many W wr A D (.slice B n c) k X) (hF : ∀ q, F q → (Value.slice B n c).ownBlock ≠ some q) : n = k ∧ KeepIs wr F B (List.replicate k true) := by
  obtain ⟨_, _, _, _, _, _, ho, _⟩ := h
  obtain ⟨A', c', he, _, _⟩ := own_form ho
  simp only [Value.slice.injEq] at he
  refine ⟨he.2.1, ?_⟩
  by_cases h0 : k = 0
  · subst h0; exact .inl rfl
  · obtain ⟨g, cap, hg, _, hlt⟩ := ho.form (by omega)
    simp only [Value.slice.injEq] at hg
    obtain ⟨rfl, _, _⟩ := hg
    refine .inr ⟨g, 0, rfl, fun hf => hF g hf rfl, hlt, fun i hi => ?_⟩
    have hi' : i < k := by simpa using hi
    have := ho.cells (g := g) rfl i (.bool true) (by rw [List.getElem?_replicate, if_pos hi'])
    rw [WideShapes.add_plain] at this
    rw [this]
    simp

end Go.Proofs.Ytnliaiedgaiohaa
