/- Plain facts for DiskSome: what sectors may hold behind a crash; the law's table of what may be, in memory. -/
import Derived.Test.YtocafhaakeflbaaDiskArmsP
namespace Go.Proofs.Ytocafhaakeflbaa
open Go.RowKit

/-! ### Plain -/

/-- A disk that was never armed: on, and what is read is what is firm with the loose writes over it. -/
structure Calm (n : Nat) (d : DSt) : Prop where
  off : d.off = false
  armed : d.armed = false
  size : d.seen.length = n
  seen : d.seen = applyAll d.firm d.loose

theorem calm_new {n : Nat} : Calm n (DSt.new n) := ⟨rfl, rfl, by simp [DSt.new], rfl⟩

theorem Calm.lasts {n : Nat} {d : DSt} (h : Calm n d) : d.lasts = true ∧ d.spent = d := by
  unfold DSt.lasts DSt.spent
  rw [h.armed]
  exact ⟨rfl, rfl⟩

/-- A write to it is done, or refused and nothing has changed. -/
theorem calm_write {n : Nat} {d : DSt} (h : Calm n d) (i : Int) (s : List UInt8) :
    (d.writeE i s = 0 ∧ 0 ≤ i ∧ i < n ∧ s.length ≤ 32 ∧ d.writeD i s = d.put i.toNat (padB s) ∧ Calm n (d.writeD i s)) ∨ (d.writeE i s ≠ 0 ∧ d.writeD i s = d) := by
  have ho : ¬ d.off = true := by rw [h.off]; simp
  unfold DSt.writeE DSt.writeD
  by_cases h2 : d.has i = false
  · right
    rw [if_neg ho, if_pos h2, if_pos (Or.inr (Or.inl h2))]
    exact ⟨by decide, rfl⟩
  by_cases h3 : 32 < s.length
  · right
    rw [if_neg ho, if_neg h2, if_pos h3, if_pos (Or.inr (Or.inr h3))]
    exact ⟨by decide, rfl⟩
  have hn : ¬ (d.off = true ∨ d.has i = false ∨ 32 < s.length) := fun hh => hh.elim ho (fun hh => hh.elim h2 h3)
  left
  have hh : d.has i = true := by simpa using h2
  obtain ⟨h4, h5⟩ := (d.has_iff i).1 hh
  rw [if_neg ho, if_neg h2, if_neg h3, if_neg hn, if_pos h.lasts.1, if_pos h.lasts.1, h.lasts.2]
  refine ⟨rfl, h4, by rw [h.size] at h5; exact h5, by omega, rfl, h.off, h.armed, ?_, ?_⟩
  · show (d.seen.set _ _).length = n
    rw [List.length_set]; exact h.size
  · show d.seen.set _ _ = applyAll d.firm (d.loose ++ [_])
    rw [applyAll_snoc, h.seen]

theorem calm_flush {n : Nat} {d : DSt} (h : Calm n d) : d.flushE = 0 ∧ d.flushD = { d with firm := d.seen, loose := [] } ∧ Calm n d.flushD := by
  have ho : ¬ d.off = true := by rw [h.off]; simp
  have e : d.flushD = { d with firm := d.seen, loose := [] } := by
    unfold DSt.flushD
    rw [if_neg ho, if_pos h.lasts.1, h.lasts.2]
    unfold DSt.firmAll
    rw [← h.seen]
  refine ⟨by unfold DSt.flushE; rw [if_neg ho, if_pos h.lasts.1], e, ?_⟩
  rw [e]
  exact ⟨h.off, h.armed, h.size, rfl⟩

theorem calm_crash {n : Nat} {d : DSt} (h : Calm n d) (ho : d.Ok) (bs : List Bool) : Calm n (d.crashD bs) :=
  ⟨rfl, rfl, by show (d.crashF bs).length = n; rw [d.crashF_length, ho.len, h.size], rfl⟩

theorem calm_read {n : Nat} {d : DSt} (h : Calm n d) {i : Nat} (hi : i < n) : d.readE (i : Int) = 0 ∧ d.readB (i : Int) = d.seen.getD i [] := by
  have ho : ¬ d.off = true := by rw [h.off]; simp
  have hh : d.has (i : Int) = true := by rw [DSt.has_iff, h.size]; omega
  have e : d.readE (i : Int) = 0 := by unfold DSt.readE; rw [if_neg ho, if_pos hh]
  refine ⟨e, ?_⟩
  unfold DSt.readB
  rw [if_pos e, Int.toNat_natCast]

/-- What sector i may be. -/
def mayOf (f : List (List UInt8)) (l : List (Nat × List UInt8)) (i : Nat) : List (List UInt8) := f.getD i [] :: (l.filter (fun p => p.1 == i)).map Prod.snd
theorem mayOf_nil (f : List (List UInt8)) (i : Nat) : mayOf f [] i = [f.getD i []] := rfl
theorem mayOf_snoc (f : List (List UInt8)) (l : List (Nat × List UInt8)) (i : Nat) (x : List UInt8) : mayOf f (l ++ [(i, x)]) i = mayOf f l i ++ [x] := by
  unfold mayOf
  simp [List.filter_append]
theorem mayOf_other (f : List (List UInt8)) (l : List (Nat × List UInt8)) {i j : Nat} (h : i ≠ j) (x : List UInt8) : mayOf f (l ++ [(i, x)]) j = mayOf f l j := by
  unfold mayOf
  have : (i == j) = false := by simpa using h
  simp [List.filter_append, this]
theorem mayOf_length (f : List (List UInt8)) (l : List (Nat × List UInt8)) (i : Nat) : (mayOf f l i).length ≤ l.length + 1 := by
  unfold mayOf
  have := List.length_filter_le (fun p : Nat × List UInt8 => p.1 == i) l
  simp only [List.length_cons, List.length_map]
  omega

theorem applyAll_may (l : List (Nat × List UInt8)) : ∀ (f : List (List UInt8)) (i : Nat), i < f.length → (applyAll f l).getD i [] ∈ mayOf f l i := by
  induction l with
  | nil => intro f i _; simp [applyAll_nil, mayOf]
  | cons p l ih =>
    intro f i hi
    obtain ⟨j, x⟩ := p
    have h1 := ih (f.set j x) i (by rw [List.length_set]; exact hi)
    rw [show applyAll f ((j, x) :: l) = applyAll (f.set j x) l from rfl]
    unfold mayOf at h1 ⊢
    rw [List.mem_cons] at h1
    by_cases e : j = i
    · subst e
      have e2 : (f.set j x).getD j [] = x := by rw [List.getD_eq_getElem?_getD, List.getElem?_set_self hi]; rfl
      rw [e2] at h1
      simp only [List.filter_cons, beq_self_eq_true, if_true, List.map_cons]
      rcases h1 with h1 | h1
      · rw [h1]; simp
      · exact List.mem_cons_of_mem _ (List.mem_cons_of_mem _ h1)
    · have e2 : (f.set j x).getD i [] = f.getD i [] := by rw [List.getD_eq_getElem?_getD, List.getElem?_set_ne e, List.getD_eq_getElem?_getD]
      rw [e2] at h1
      have e3 : (j == i) = false := by simpa using e
      simp only [List.filter_cons, e3, Bool.false_eq_true, if_false]
      exact List.mem_cons.2 h1

theorem crash_may {d : DSt} (bs : List Bool) {i : Nat} (hi : i < d.firm.length) : (d.crashF bs).getD i [] ∈ mayOf d.firm d.loose i := by
  have h1 := applyAll_may (keepOf bs d.loose) d.firm i hi
  unfold mayOf at h1 ⊢
  rw [List.mem_cons] at h1 ⊢
  refine h1.imp id (fun h2 => ?_)
  obtain ⟨p, hp, hx⟩ := List.mem_map.1 h2
  obtain ⟨hp1, hp2⟩ := List.mem_filter.1 hp
  exact List.mem_map.2 ⟨p, List.mem_filter.2 ⟨keepOf_sub _ _ p hp1, hp2⟩, hx⟩

theorem padB_take {s : List UInt8} : (padB s).take s.length = s := by unfold padB; rw [List.take_left]

/-! ### The table in memory -/

theorem ActCells.over {F : Nat → Prop} {w w' : World} {b o : Nat} {x : ActV} (h : ActCells w b o x) (hm : Moves F w w') (hb : b < w.heap.size) (hF : ¬ F b) : ActCells w' b o x := by
  have e : ∀ j, w'.cell? ⟨b, j, none⟩ = w.cell? ⟨b, j, none⟩ := fun j => World.cell?_of_block (hm.block b hb hF)
  obtain ⟨h0, h1, h2, h3, h4⟩ := h
  exact ⟨(e _).trans h0, (e _).trans h1, (e _).trans h2, (e _).trans h3, (e _).trans h4⟩

def strV (x : List UInt8) : Value := .string (str x)

structure MayAt (w : World) (G : Nat → Prop) (M : Nat) (m : Nat → List (List UInt8)) (vs : Nat → Value) : Prop where
  blk : w.heap[M]? = some (.cells #[vs 0, vs 1, vs 2, vs 3, vs 4, vs 5] 48 (0, 0))
  own : ∀ i, i < 6 → w.ownsRow 0 9 1 (vs i) (m i).length ((m i).map strV)
  apart : ∀ i j, i < 6 → j < 6 → i ≠ j → ∀ k, (vs i).ownBlock = some k → (vs j).ownBlock ≠ some k
  notM : ∀ i, i < 6 → (vs i).ownBlock ≠ some M
  gM : G M
  gv : ∀ i, i < 6 → ∀ k, (vs i).ownBlock = some k → G k
  low : ∀ k, G k → k < w.heap.size

def IsMay (w : World) (G : Nat → Prop) (M : Nat) (m : Nat → List (List UInt8)) : Prop := ∃ vs, MayAt w G M m vs

theorem MayAt.kept {w w' : World} {F G : Nat → Prop} {M : Nat} {m : Nat → List (List UInt8)} {vs : Nat → Value} (h : MayAt w G M m vs) (hm : Moves F w w') (hF : ∀ k, F k → ¬ G k) : MayAt w' G M m vs := by
  have hb : ∀ k, G k → w'.heap[k]? = w.heap[k]? := fun k hk => hm.block k (h.low k hk) (fun hf => hF k hf hk)
  refine ⟨by rw [hb M h.gM]; exact h.blk, fun i hi => ?_, h.apart, h.notM, h.gM, h.gv, fun k hk => Nat.lt_of_lt_of_le (h.low k hk) hm.size⟩
  obtain ⟨h1, h2⟩ := h.own i hi
  refine ⟨h1, h2.imp id ?_⟩
  rintro ⟨g, cap, cur, he, hb0, hg, hr⟩
  exact ⟨g, cap, cur, he, hb0, by rw [hb g (h.gv i hi g (by rw [he]; rfl))]; exact hg, hr⟩

theorem MayAt.cell {w : World} {G : Nat → Prop} {M : Nat} {m : Nat → List (List UInt8)} {vs : Nat → Value} (h : MayAt w G M m vs) {i : Nat} (hi : i < 6) : w.cell? ⟨M, i, none⟩ = some (vs i) := by
  rw [Lib.cell_of_heap h.blk]
  rcases (show i = 0 ∨ i = 1 ∨ i = 2 ∨ i = 3 ∨ i = 4 ∨ i = 5 by omega) with rfl | rfl | rfl | rfl | rfl | rfl <;> rfl

/-- One text more behind row i. -/
theorem MayAt.more {w w' : World} {G : Nat → Prop} {M : Nat} {m : Nat → List (List UInt8)} {vs : Nat → Value} (h : MayAt w G M m vs) {i : Nat} (hi : i < 6) (x : List UInt8) {g cap : Nat}
    (hg : w.grownBy w' (vs i).ownBlock) (hat : (vs i).ownBlock = some g ∨ w.heap.size ≤ g) (hlt : g < w'.heap.size)
    (hown : w'.ownsRow 0 9 1 (.slice (some ⟨g, 0, none⟩) ((m i).length + 1) cap) ((m i).length + 1) ((m i).map strV ++ [strV x])) :
    MayAt (w'.setCell ⟨M, i, none⟩ (.slice (some ⟨g, 0, none⟩) ((m i).length + 1) cap)) (fun q => G q ∨ q = g) M (fun j => if j = i then m i ++ [x] else m j) (fun j => if j = i then .slice (some ⟨g, 0, none⟩) ((m i).length + 1) cap else vs j) := by
  have hgM : g ≠ M := fun e => by
    rcases hat with h1 | h1
    · exact h.notM i hi (by rw [h1, e])
    · have := h.low M h.gM; omega
  have hne : ∀ j, j < 6 → j ≠ i → ∀ k, (vs j).ownBlock = some k → k ≠ g := fun j hj hji k hk e => by
    rcases hat with h1 | h1
    · exact h.apart i j hi hj (Ne.symm hji) g h1 (by rw [hk, e])
    · have := h.low k (h.gv j hj k hk); omega
  have hz : (w'.setCell ⟨M, i, none⟩ (.slice (some ⟨g, 0, none⟩) ((m i).length + 1) cap)).heap.size = w'.heap.size := by simp [World.setCell]
  have hset : ∀ (u : World) (row : Option Nat), row = some M → u.grownBy (u.setCell ⟨M, i, none⟩ (.slice (some ⟨g, 0, none⟩) ((m i).length + 1) cap)) row := fun u row hr => ⟨rfl, rfl, rfl, by simp [World.setCell], fun k _ hk => Below.heap_setCell _ _ _ _ (fun e => hk (by rw [e, hr]))⟩
  have hsz := hg.size
  refine ⟨?_, fun j hj => ?_, fun j k hj hk hjk q hq => ?_, fun j hj => ?_, Or.inl h.gM, fun j hj q hq => ?_, fun q hq => ?_⟩
  · have h1 : w'.heap[M]? = some (.cells #[vs 0, vs 1, vs 2, vs 3, vs 4, vs 5] 48 (0, 0)) := by rw [hg.block M (h.low M h.gM) (fun e => h.notM i hi e.symm)]; exact h.blk
    rw [row_set h1 i _]
    rcases (show i = 0 ∨ i = 1 ∨ i = 2 ∨ i = 3 ∨ i = 4 ∨ i = 5 by omega) with rfl | rfl | rfl | rfl | rfl | rfl <;> simp
  · by_cases e : j = i
    · subst e
      simp only [if_true, List.length_append, List.length_cons, List.length_nil, List.map_append, List.map_cons, List.map_nil]
      exact hown.kept (hset w' _ rfl) (Or.inr (by simp only [Value.ownBlock, ne_eq, Option.some.injEq]; exact hgM))
    · simp only [if_neg e]
      have h1 := (h.own j hj).kept hg (by
        cases hv : (vs j).ownBlock with
        | none => exact Or.inl rfl
        | some q => exact Or.inr (fun hh => h.apart j i hj hi e q hv hh.symm))
      exact h1.kept (hset w' _ rfl) (Or.inr (h.notM j hj))
  · by_cases e : j = i
    · subst e
      simp only [if_true, Value.ownBlock, Option.some.injEq] at hq
      simp only [if_neg (Ne.symm hjk)]
      intro hh
      exact hne k hk (Ne.symm hjk) q hh hq.symm
    · simp only [if_neg e] at hq
      by_cases e2 : k = i
      · subst e2
        simp only [if_true, Value.ownBlock, ne_eq, Option.some.injEq]
        exact fun hh => hne j hj e q hq hh.symm
      · simp only [if_neg e2]
        exact h.apart j k hj hk hjk q hq
  · by_cases e : j = i
    · subst e
      simp only [if_true, Value.ownBlock, ne_eq, Option.some.injEq]; exact hgM
    · simp only [if_neg e]; exact h.notM j hj
  · by_cases e : j = i
    · subst e
      simp only [if_true, Value.ownBlock, Option.some.injEq] at hq
      exact Or.inr hq.symm
    · simp only [if_neg e] at hq
      exact Or.inl (h.gv j hj q hq)
  · rw [hz]
    rcases hq with hq | rfl
    · have := h.low q hq; omega
    · exact hlt

end Go.Proofs.Ytocafhaakeflbaa
