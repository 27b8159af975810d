/- The lag's bound, plain: what Judge tells, that what waits stays within the bound, and what the other side has (for LagJudges, LagBounds, LagLess, TopSent). -/
import Derived.Test.YthajgoigmkkbgaaQueMb
import Derived.Test.YthajgoigmkkbgaaLagA
namespace Go.Proofs.Ythajgoigmkkbgaa
open Go.Shelf Go.RowKit Go.Lib Go.Sort

/-- Is one more commit within the bound? -/
def inBd (b : Bd) (q : Qu) (ws : List Wr) : Prop := q.to_ - quTail q + 1 ≤ b.txns ∧ ((bytesW (quJoined q) + bytesW ws : Nat) : Int) ≤ b.bytes
noncomputable def judgeB (b : Bd) (q : Qu) (ws : List Wr) : Int :=
  if bdOk b = true ∧ quRight q = true then (if @decide (inBd b q ws) (Classical.propDecidable _) = true then 1 else if b.hold = true then 2 else 3) else 0
theorem judge_bad {b : Bd} {q : Qu} {ws : List Wr} (h : ¬ (bdOk b = true ∧ quRight q = true)) : judgeB b q ws = 0 := by unfold judgeB; rw [if_neg h]
theorem judge_take {b : Bd} {q : Qu} {ws : List Wr} (h : bdOk b = true) (h2 : quRight q = true) (h3 : inBd b q ws) : judgeB b q ws = 1 := by
  unfold judgeB; rw [if_pos ⟨h, h2⟩, if_pos (@decide_eq_true _ (Classical.propDecidable _) h3)]
theorem judge_out {b : Bd} {q : Qu} {ws : List Wr} (h : bdOk b = true) (h2 : quRight q = true) (h3 : ¬ inBd b q ws) : judgeB b q ws = if b.hold = true then 2 else 3 := by
  unfold judgeB; rw [if_pos ⟨h, h2⟩, if_neg (by rw [@decide_eq_false _ (Classical.propDecidable _) h3]; simp)]
theorem judge_one {b : Bd} {q : Qu} {ws : List Wr} (h : judgeB b q ws = 1) : bdOk b = true ∧ quRight q = true ∧ inBd b q ws := by
  by_cases h1 : bdOk b = true ∧ quRight q = true
  · by_cases h2 : inBd b q ws
    · exact ⟨h1.1, h1.2, h2⟩
    · rw [judge_out h1.1 h1.2 h2] at h
      split at h <;> omega
  · rw [judge_bad h1] at h; omega
theorem bytesW_app (a b : List Wr) : bytesW (a ++ b) = bytesW a + bytesW b := by
  induction a with
  | nil => simp [bytesW]
  | cons x a ih => rw [List.cons_append, bytesW_cons, bytesW_cons, ih]; omega
theorem inBd_joined {b : Bd} {q : Qu} {ws : List Wr} : inBd b q ws ↔ q.to_ - quTail q + 1 ≤ b.txns ∧ ((bytesW (quJoined q ++ ws) : Nat) : Int) ≤ b.bytes := by unfold inBd; rw [bytesW_app]

/-! ### Sets that came -/

theorem quJoined_done (q : Qu) (n : Int) : bytesW (quJoined (quDone q n)) ≤ bytesW (quJoined q) ∧ (quJoined (quDone q n)).length ≤ (quJoined q).length := by
  unfold quJoined quDone
  simp only
  rw [bytesW_app, bytesW_app, List.length_append, List.length_append]
  have key : ∀ l : List DSet, bytesW ((l.filter (fun s => decide (n < s.to_))).flatMap (·.ws)) ≤ bytesW (l.flatMap (·.ws)) ∧ ((l.filter (fun s => decide (n < s.to_))).flatMap (·.ws)).length ≤ (l.flatMap (·.ws)).length := by
    intro l
    induction l with
    | nil => simp
    | cons s r ih =>
      obtain ⟨ih1, ih2⟩ := ih
      by_cases h : n < s.to_
      · rw [List.filter_cons_of_pos (by simpa using h)]
        simp only [List.flatMap_cons, List.length_append]
        rw [bytesW_app, bytesW_app]
        omega
      · rw [List.filter_cons_of_neg (by simpa using h)]
        simp only [List.flatMap_cons, List.length_append]
        rw [bytesW_app]
        omega
  have := key q.sets
  omega
theorem quTail_done {q : Qu} (h : quOk q) (n : Int) : quTail q ≤ quTail (quDone q n) := by
  have hd := done_ok h n
  unfold quTail
  have hs : (quDone q n).sets = q.sets.filter (fun s => decide (n < s.to_)) := rfl
  have hf : (quDone q n).frm = q.frm := rfl
  obtain ⟨h1, h2, h3, h4, h5, -⟩ := h
  have key : ∀ (l : List DSet) (e : Int), (∀ s ∈ l, setOk s = true) → chainTo l e → ∀ a r, l = a :: r → (∀ s ∈ l, a.frm ≤ s.frm) ∧ a.frm ≤ e := by
    intro l
    induction l with
    | nil => intro e _ _ a r ha; cases ha
    | cons x r ih =>
      intro e ho hc a r' ha
      cases ha
      have hx := (setOk_iff x).1 (ho x (by simp))
      cases r with
      | nil =>
        have hxe : x.to_ = e := hc
        exact ⟨fun s hs => by rw [List.mem_singleton.1 hs]; omega, by omega⟩
      | cons y u =>
        obtain ⟨g1, g2⟩ := ih e (fun s hs => ho s (List.mem_cons_of_mem _ hs)) hc.2 y u rfl
        have hxy : x.to_ = y.frm := hc.1
        refine ⟨fun s hs => ?_, by omega⟩
        rcases List.mem_cons.1 hs with rfl | hs
        · omega
        · have := g1 s hs; omega
  rw [hs, hf]
  cases hq : q.sets with
  | nil => simp
  | cons a r =>
    rw [hq] at h1 h2
    obtain ⟨k1, k2⟩ := key (a :: r) q.frm h1 h2 a r rfl
    simp only
    cases hfl : (a :: r).filter (fun s => decide (n < s.to_)) with
    | nil => exact k2
    | cons s t =>
      have : s ∈ a :: r := (List.mem_filter.1 (by rw [hfl]; simp : s ∈ (a :: r).filter (fun s => decide (n < s.to_)))).1
      exact k1 s this
theorem inBd_less {b : Bd} {q : Qu} {ws ws' : List Wr} (h : quOk q) (hi : inBd b q ws) (n : Int) (hw : bytesW ws' ≤ bytesW ws) : inBd b (quDone q n) ws' := by
  have h1 := quTail_done h n
  have h2 := (quJoined_done q n).1
  have h3 : (quDone q n).to_ = q.to_ := rfl
  unfold inBd at hi ⊢
  rw [h3]
  omega
theorem judge_less {b : Bd} {q : Qu} {ws ws' : List Wr} (h : judgeB b q ws = 1) (n : Int) (hw : bytesW ws' ≤ bytesW ws) : judgeB b (quDone q n) ws' = 1 := by
  obtain ⟨h1, h2, h3⟩ := judge_one h
  have hok := (quRight_iff _).1 h2
  exact judge_take h1 ((quRight_iff _).2 (done_ok hok n)) (inBd_less hok h3 n hw)

/-! ### What waits stays within the bound -/

/-- c: how many writes a commit has at most; n: how many sets; m: how many commits. -/
structure LagSt (b : Bd) (q : Qu) (c n m : Nat) : Prop where
  ok : quOk q
  to_ : q.to_ ≤ m
  sm : smU q n (c * m)
  joined : (quJoined q).length ≤ c * m
  txns : q.to_ - quTail q ≤ b.txns
  bytes : ((bytesW (quJoined q) : Nat) : Int) ≤ b.bytes
theorem LagSt.start {b : Bd} (h : bdOk b = true) (c : Nat) : LagSt b (quNew 0) c 0 0 := by
  have hb := (bdOk_iff b).1 h
  refine ⟨new_ok (by rw [okN_iff]; omega), by show (0 : Int) ≤ _; omega, ⟨by simp [quNew], by simp [quNew], by simp [quNew]⟩, by simp [quJoined, quNew], ?_, ?_⟩
  · show (0 : Int) - 0 ≤ _; omega
  · show ((bytesW [] : Nat) : Int) ≤ _; simp [bytesW]; omega
theorem LagSt.more {b : Bd} {q : Qu} {c n m n' m' : Nat} (h : LagSt b q c n m) (hn : n ≤ n') (hm : m ≤ m') : LagSt b q c n' m' :=
  ⟨h.ok, by have := h.to_; omega, h.sm.more hn (Nat.mul_le_mul_left _ hm), Nat.le_trans h.joined (Nat.mul_le_mul_left _ hm), h.txns, h.bytes⟩
theorem LagSt.add {b : Bd} {q : Qu} {c n m : Nat} {ws : List Wr} (h : LagSt b q c n m) (hj : judgeB b q ws = 1) (hl : ws.length ≤ c) (hm : m < 1000) : LagSt b (quAdd q ws) c n (m + 1) := by
  have ht := h.to_
  have hcm : c * (m + 1) = c * m + c := Nat.mul_succ c m
  obtain ⟨_, _, h3, h4⟩ := judge_one hj
  have e1 : quTail (quAdd q ws) = quTail q := rfl
  have e2 : (quAdd q ws).to_ = q.to_ + 1 := rfl
  refine ⟨add_ok h.ok (by omega) ws, by rw [e2]; omega, (smU_add h.sm ws).more (Nat.le_refl _) (by omega), ?_, by rw [e1, e2]; omega, ?_⟩
  · have h1 := foldW_len (q.opn ++ ws)
    have h2 := h.joined
    unfold quJoined at h2 ⊢
    rw [List.length_append] at h1 h2 ⊢
    show (q.sets.flatMap (·.ws)).length + (foldW (q.opn ++ ws)).length ≤ _
    omega
  · have h1 := foldW_bytes (q.opn ++ ws)
    rw [bytesW_app] at h1
    unfold quJoined at h4 ⊢
    rw [bytesW_app] at h4 ⊢
    show ((bytesW (q.sets.flatMap (·.ws)) + bytesW (foldW (q.opn ++ ws)) : Nat) : Int) ≤ _
    omega
theorem LagSt.cut {b : Bd} {q : Qu} {c n m : Nat} (h : LagSt b q c n m) (hne : q.frm ≠ q.to_) : LagSt b (quCut q) c (n + 1) m := by
  have e : quJoined (quCut q) = quJoined q := by simp [quJoined, quCut]
  exact ⟨cut_ok h.ok hne, h.to_, smU_cut h.sm, by rw [e]; exact h.joined, by rw [tail_cut]; exact h.txns, by rw [e]; exact h.bytes⟩
theorem LagSt.done {b : Bd} {q : Qu} {c n m : Nat} (h : LagSt b q c n m) (k : Int) : LagSt b (quDone q k) c n m := by
  have h1 := quTail_done h.ok k
  have h2 := quJoined_done q k
  refine ⟨done_ok h.ok k, h.to_, smU_done h.sm k, by have := h.joined; omega, ?_, ?_⟩
  · have := h.txns; have e : (quDone q k).to_ = q.to_ := rfl; rw [e]; omega
  · have := h.bytes; omega
theorem LagSt.load {b : Bd} {q : Qu} {c n m : Nat} (h : LagSt b q c n m) : qLoadN q ≤ b.txns ∧ qLoadB q ≤ b.bytes ∧ quRight q = true := by
  have hr := (quRight_iff q).2 h.ok
  refine ⟨?_, ?_, hr⟩
  · unfold qLoadN; rw [if_pos hr]; exact h.txns
  · unfold qLoadB; rw [if_pos hr]; exact h.bytes

/-! ### What the other side has -/

/-- The volumes behind so many commits. -/
def stV (l : List (List Vl)) (i : Int) : List Vl := l.getD i.toNat []
theorem stV_app {l : List (List Vl)} {x : List Vl} {i : Int} (h0 : 0 ≤ i) (h : i < l.length) : stV (l ++ [x]) i = stV l i := by
  unfold stV
  rw [List.getD_eq_getElem?_getD, List.getD_eq_getElem?_getD, List.getElem?_append_left (by omega)]
theorem stV_last {l : List (List Vl)} {x : List Vl} : stV (l ++ [x]) l.length = x := by
  unfold stV
  rw [List.getD_eq_getElem?_getD, Int.toNat_natCast, List.getElem?_append_right (Nat.le_refl _)]
  simp
structure SentSt (q : Qu) (st : List (List Vl)) (there : List Vl) (at_ : Int) : Prop where
  ok : quOk q
  len : (st.length : Int) = q.to_ + 1
  tl : at_ = quTail q
  th : there = stV st at_
  each : ∀ s ∈ q.sets, checkE (stV st s.frm) s.ws = 0 ∧ applyV (stV st s.frm) s.ws = stV st s.to_
  opn : checkE (stV st q.frm) q.opn = 0 ∧ applyV (stV st q.frm) q.opn = stV st q.to_
  right : ∀ v ∈ st, rightB v = true
  car : Carries q there (stV st q.to_)
theorem stV_mem {l : List (List Vl)} {i : Int} (h0 : 0 ≤ i) (h : i < l.length) : stV l i ∈ l := by
  unfold stV
  rw [List.getD_eq_getElem?_getD, List.getElem?_eq_getElem (by omega)]
  exact List.getElem_mem _
theorem SentSt.start {vs : List Vl} (h : rightB vs = true) : SentSt (quNew 0) [vs] vs 0 := by
  have hc := carries_new h
  have h0 : checkE vs [] = 0 := by rw [checkE_right h]; rfl
  refine ⟨new_ok (by rw [okN_iff]; omega), rfl, rfl, rfl, by simp [quNew], ⟨h0, ?_⟩, by simp [h], hc⟩
  show applyV vs [] = vs
  rw [applyV_ok h0]; rfl
theorem SentSt.nums {q : Qu} {st : List (List Vl)} {there : List Vl} {at_ : Int} (h : SentSt q st there at_) : (∀ s ∈ q.sets, 0 ≤ s.frm ∧ s.frm < s.to_ ∧ s.to_ < st.length) ∧ 0 ≤ q.frm ∧ q.frm < st.length ∧ 0 ≤ q.to_ ∧ q.to_ < st.length ∧ 0 ≤ at_ ∧ at_ < st.length := by
  have hr := (quRight_code q).1 ((quRight_iff q).2 h.ok)
  obtain ⟨h1, h2, h3, h4, -⟩ := hr
  obtain ⟨g1, g2, -⟩ := goR_some h4
  have hl := h.len
  have ha := h.tl
  refine ⟨fun s hs => ?_, by omega, by omega, by omega, by omega, by omega, by omega⟩
  obtain ⟨k1, k2, k3, _⟩ := g2 s hs
  omega
theorem SentSt.add {q : Qu} {st : List (List Vl)} {there : List Vl} {at_ : Int} {ws : List Wr} (h : SentSt q st there at_) (hw : checkE (stV st q.to_) ws = 0) (ht : q.to_ < 1099511627776) : SentSt (quAdd q ws) (st ++ [applyV (stV st q.to_) ws]) there at_ := by
  obtain ⟨n1, n2, n3, n4, n5, n6, n7⟩ := h.nums
  have hlen : q.to_ + 1 = (st.length : Int) := h.len.symm
  have hlast : stV (st ++ [applyV (stV st q.to_) ws]) (q.to_ + 1) = applyV (stV st q.to_) ws := by rw [hlen]; exact stV_last
  refine ⟨add_ok h.ok ht ws, by have := h.len; simp [quAdd]; omega, h.tl, by rw [stV_app n6 n7]; exact h.th, fun s hs => ?_, ?_, fun v hv => ?_, ?_⟩
  · obtain ⟨k1, k2, k3⟩ := n1 s hs
    rw [stV_app k1 (by omega), stV_app (by omega) k3]
    exact h.each s hs
  · have e : (quAdd q ws).to_ = q.to_ + 1 := rfl
    have e2 : (quAdd q ws).frm = q.frm := rfl
    have e3 : (quAdd q ws).opn = foldW (q.opn ++ ws) := rfl
    rw [e, e2, e3, hlast, stV_app n2 n3]
    obtain ⟨o1, o2⟩ := h.opn
    obtain ⟨b1, b2⟩ := apply_two o1 (by rw [o2]; exact hw)
    obtain ⟨c1, c2⟩ := fold_does b1
    exact ⟨c1, by rw [c2, b2, o2]⟩
  · rcases List.mem_append.1 hv with hv | hv
    · exact h.right v hv
    · rw [List.mem_singleton.1 hv, applyV_ok hw]; exact (right_apply hw).2.2
  · have := carries_add h.car hw
    rw [show (quAdd q ws).to_ = q.to_ + 1 from rfl, hlast]; exact this
theorem SentSt.cut {q : Qu} {st : List (List Vl)} {there : List Vl} {at_ : Int} (h : SentSt q st there at_) (hne : q.frm ≠ q.to_) : SentSt (quCut q) st there at_ := by
  obtain ⟨n1, n2, n3, n4, n5, n6, n7⟩ := h.nums
  have hr := h.right _ (stV_mem n4 n5)
  have h0 : checkE (stV st q.to_) [] = 0 := by rw [checkE_right hr]; rfl
  refine ⟨cut_ok h.ok hne, h.len, by rw [tail_cut]; exact h.tl, h.th, fun s hs => ?_, ⟨h0, ?_⟩, h.right, carries_cut h.car⟩
  · rcases List.mem_append.1 hs with hs | hs
    · exact h.each s hs
    · rw [List.mem_singleton.1 hs]; exact h.opn
  · show applyV (stV st q.to_) [] = stV st q.to_
    rw [applyV_ok h0]; rfl
theorem SentSt.take {q : Qu} {st : List (List Vl)} {there : List Vl} {at_ : Int} {s : DSet} {r : List DSet} (h : SentSt q st there at_) (hs : q.sets = s :: r) :
    checkE there s.ws = 0 ∧ SentSt (quDone q s.to_) st (applyV there s.ws) s.to_ := by
  have hsm : s ∈ q.sets := by rw [hs]; simp
  obtain ⟨h1, h2⟩ := carries_take h.ok h.car hs
  have h3 := take_less h.ok hs
  obtain ⟨e1, e2⟩ := h.each s hsm
  have hth : there = stV st s.frm := by rw [h.th, h.tl, h3.1]
  refine ⟨h1, done_ok h.ok _, h.len, (take_tail h.ok hs).symm, by rw [hth]; exact e2, fun x hx => h.each x ?_, h.opn, h.right, h2⟩
  rw [take_sets h.ok hs] at hx
  rw [hs]; exact List.mem_cons_of_mem _ hx
/-- What is told at the end of a round. -/
theorem SentSt.tells {q : Qu} {st : List (List Vl)} {there : List Vl} {at_ : Int} (h : SentSt q st there at_) :
    0 ≤ at_ ∧ at_ < st.length ∧ there = stV st at_ ∧ rightB there = true ∧ qLoadN q = (st.length : Int) - 1 - at_ ∧ checkE there (quAll q) = 0 ∧ applyV there (quAll q) = stV st ((st.length : Int) - 1) ∧ rightB (stV st ((st.length : Int) - 1)) = true := by
  obtain ⟨n1, n2, n3, n4, n5, n6, n7⟩ := h.nums
  have hr := (quRight_iff q).2 h.ok
  have hl : (st.length : Int) - 1 = q.to_ := by have := h.len; omega
  obtain ⟨c1, c2⟩ := carries_all h.car
  refine ⟨n6, n7, h.th, by rw [h.th]; exact h.right _ (stV_mem n6 n7), ?_, c1, by rw [hl]; exact c2, by rw [hl]; exact h.right _ (stV_mem n4 n5)⟩
  unfold qLoadN
  rw [if_pos hr, hl, h.tl]
end Go.Proofs.Ythajgoigmkkbgaa
