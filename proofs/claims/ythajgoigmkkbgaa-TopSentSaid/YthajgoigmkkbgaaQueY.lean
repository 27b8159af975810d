/- Queues: what holds of commits, sets and volumes in each round of QueueCarries; volumes stay where a box turns. -/
import Derived.Test.YthajgoigmkkbgaaQueMb
import Derived.Test.YthajgoigmkkbgaaVolK
namespace Go.Proofs.Ythajgoigmkkbgaa
open Go.Shelf Go.RowKit Go.Lib Go.Sort

theorem same_one {vs : List Vl} (h : rightB vs = true) : sameB vs vs = true := by simp [sameB, h]
theorem fit_applyQ {vs : List Vl} {ws : List Wr} : VolsFit (applyV vs ws) := by
  by_cases h : checkE vs ws = 0
  · rw [applyV_ok h]; exact right_fit (right_apply h).2.2
  · rw [applyV_no h]; exact ⟨by simp, by simp⟩

theorem new_zero : newQ 0 = quNew 0 ∧ newE 0 = 0 := by
  have : okN 0 = true := by rw [okN_iff]; omega
  exact ⟨by unfold newQ; rw [if_pos this], by unfold newE; rw [if_pos this]⟩
structure CarSt (q : Qu) (there now : List Vl) (done : Int) (n m : Nat) : Prop where
  ok : quOk q
  car : Carries q there now
  tail : quTail q = done
  to_ : q.to_ ≤ m
  sets : q.sets.length ≤ n
  sm : smU q n (10 * m)
  joined : (quJoined q).length ≤ 10 * m
  right : rightB now = true
theorem CarSt.start {vs : List Vl} (h : rightB vs = true) : CarSt (quNew 0) vs vs 0 0 0 :=
  ⟨new_ok (by rw [okN_iff]; omega), carries_new h, rfl, by show (0 : Int) ≤ _; omega, by simp [quNew], ⟨by simp [quNew], by simp [quNew], by simp [quNew]⟩, by simp [quJoined, quNew], h⟩
theorem CarSt.more {q : Qu} {there now : List Vl} {done : Int} {n m n' m' : Nat} (h : CarSt q there now done n m) (hn : n ≤ n') (hm : m ≤ m') : CarSt q there now done n' m' :=
  ⟨h.ok, h.car, h.tail, by have := h.to_; omega, Nat.le_trans h.sets hn, h.sm.more hn (by omega), by have := h.joined; omega, h.right⟩
theorem CarSt.add {q : Qu} {there now : List Vl} {done : Int} {n m : Nat} {ws : List Wr} (h : CarSt q there now done n m) (hw : checkE now ws = 0) (hl : ws.length ≤ 10) (hm : m < 1000) : CarSt (quAdd q ws) there (applyV now ws) done n (m + 1) := by
  have ht := h.to_
  refine ⟨add_ok h.ok (by omega) ws, carries_add h.car hw, by rw [tail_add]; exact h.tail, by rw [to_add]; omega, h.sets, (smU_add h.sm ws).more (Nat.le_refl _) (by omega), ?_, ?_⟩
  · have h1 := foldW_len (q.opn ++ ws)
    have h2 := h.joined
    unfold quJoined at h2 ⊢
    rw [List.length_append] at h1 h2 ⊢
    show (q.sets.flatMap (·.ws)).length + (foldW (q.opn ++ ws)).length ≤ _
    omega
  · rw [applyV_ok hw]; exact (right_apply hw).2.2
theorem CarSt.cut {q : Qu} {there now : List Vl} {done : Int} {n m : Nat} (h : CarSt q there now done n m) (hne : q.frm ≠ q.to_) : CarSt (quCut q) there now done (n + 1) m := by
  refine ⟨cut_ok h.ok hne, carries_cut h.car, by rw [tail_cut]; exact h.tail, h.to_, by simp [quCut]; exact h.sets, smU_cut h.sm, ?_, h.right⟩
  have : quJoined (quCut q) = quJoined q := by simp [quJoined, quCut]
  rw [this]; exact h.joined
theorem CarSt.take {q : Qu} {there now : List Vl} {done : Int} {n m : Nat} {s : DSet} {r : List DSet} (h : CarSt q there now done n m) (hs : q.sets = s :: r) :
    checkE there s.ws = 0 ∧ s.frm = done ∧ done < s.to_ ∧ CarSt (quDone q s.to_) (applyV there s.ws) now s.to_ n m := by
  obtain ⟨h1, h2⟩ := carries_take h.ok h.car hs
  have h3 := take_less h.ok hs
  rw [h.tail] at h3
  refine ⟨h1, h3.1.symm, by omega, done_ok h.ok _, h2, take_tail h.ok hs, h.to_, ?_, smU_done h.sm _, ?_, h.right⟩
  · have := h.sets; rw [take_sets h.ok hs]; rw [hs] at this; simp at this; omega
  · have h4 := h.joined
    unfold quJoined at h4 ⊢
    rw [take_sets h.ok hs]
    rw [hs] at h4
    simp only [List.flatMap_cons, List.length_append] at h4 ⊢
    show (r.flatMap (·.ws)).length + q.opn.length ≤ _
    omega
theorem CarSt.all {q : Qu} {there now : List Vl} {done : Int} {n m : Nat} (h : CarSt q there now done n m) : quRight q = true ∧ checkE there (quAll q) = 0 ∧ applyV there (quAll q) = now := ⟨(quRight_iff _).2 h.ok, (carries_all h.car).1, (carries_all h.car).2⟩

theorem VolsAt.turned {F : Nat → Prop} {w w' : World} {B : Nat} {A : Option Addr} {vs : List Vl} (h : VolsAt w B A vs) (hm : Moves F w w') (hF : ∀ k, F k → QBlk w k) : VolsAt w' B A vs := by
  rcases h with h | ⟨b, off, hA, hlt, hc⟩
  · exact .inl h
  · by_cases hn : vs = []
    · exact .inl hn
    · have hoff : ¬ F b := fun hFb => by
        obtain ⟨A1, n1, c1, A2, n2, c2, f, t, hq⟩ := (hF b hFb).cells
        obtain ⟨a, c, h1, h2, _⟩ := hc 0 (List.length_pos_iff.2 hn)
        have h4 := cell_in4 hq rfl h2
        rw [hq] at h1 h2
        simp only [Nat.zero_mul, Nat.add_zero] at h1 h2 h4
        match off, h4 with
        | 0, _ => simp at h1
        | 1, _ => simp at h1
        | 2, _ => simp at h2
      refine .inr ⟨b, off, hA, hlt, fun i hi => ?_⟩
      obtain ⟨a, c, h1, h2, h3⟩ := hc i hi
      have hb : b < w.heap.size := World.block_lt_of_cell? w _ h1
      have e := hm.block b hb hoff
      refine ⟨a, c, ?_, ?_, ?_⟩
      · rw [World.cell?_of_block (w := w) (a := ⟨b, off + i * 2, none⟩) e]; exact h1
      · rw [World.cell?_of_block (w := w) (a := ⟨b, off + i * 2 + 1, none⟩) e]; exact h2
      · refine h3.moves hm fun b' o' hA' hne hFb => ?_
        obtain ⟨A1, n1, c1, A2, n2, c2, f, t, hq⟩ := (hF b' hFb).cells
        obtain ⟨bb, oo, hAA, hl2, hcs⟩ := h3.at_ hne
        rw [hA'] at hAA; cases hAA
        have h0 := hcs 0 (List.length_pos_iff.2 hne)
        have h4 := cell_in4 hq rfl h0
        rw [hq] at h0
        have hst : ∃ s, (vs[i].2.map Value.string)[0]'(List.length_pos_iff.2 hne) = Value.string s := ⟨_, by rw [List.getElem_map]⟩
        obtain ⟨s, hst⟩ := hst
        rw [hst] at h0
        simp only [Nat.add_zero] at h0 h4
        match o', h4 with
        | 0, _ => simp at h0
        | 1, _ => simp at h0
        | 2, _ => simp at h0
        | 3, _ => simp at h0
end Go.Proofs.Ythajgoigmkkbgaa
