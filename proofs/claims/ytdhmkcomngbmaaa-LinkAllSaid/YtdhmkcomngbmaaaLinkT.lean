/- The line's rounds, plain: how the packets under way go, one after another, and that behind 64 rounds all has come. No program in sight. -/
import Derived.Test.YtdhmkcomngbmaaaLinkS
namespace Go.Proofs.Ytdhmkcomngbmaaa

def pks (to_ : Nat) (ss : List (List UInt8)) : List Pk := ss.map (fun s => ⟨to_, s, false⟩)
theorem pks_length (to_ : Nat) (ss : List (List UInt8)) : (pks to_ ss).length = ss.length := List.length_map _
/-- The first packet under way comes. -/
noncomputable def stepL (l : Line) : Line := match l.net with
  | [] => l
  | p :: r => Line.comes ⟨l.st, r⟩ p
theorem gone_zero {l : Line} {p : Pk} {r : List Pk} (h : l.net = p :: r) : l.gone 0 = ⟨l.st, r⟩ := by unfold Line.gone; rw [h]; rfl
noncomputable def iterL : Nat → Line → Line
  | 0, l => l
  | n + 1, l => iterL n (stepL l)
theorem iter_succ : ∀ (n : Nat) (l : Line), iterL (n + 1) l = stepL (iterL n l)
  | 0, _ => rfl
  | n + 1, l => iter_succ n (stepL l)
theorem iter_add : ∀ (a b : Nat) (l : Line), iterL (a + b) l = iterL b (iterL a l)
  | 0, b, l => by rw [Nat.zero_add]; rfl
  | a + 1, b, l => by rw [Nat.add_right_comm]; exact iter_add a b (stepL l)
theorem LineOk.step {l : Line} {N : Nat} (h : LineOk l N) : LineOk (stepL l) N := by
  unfold stepL
  split
  · exact h
  · rename_i p r hn
    have h' : LineOk ⟨l.st, r⟩ N := ⟨h.a, h.b, fun q hq => h.net q (by rw [hn]; exact List.mem_cons_of_mem _ hq), by have := h.len; rw [hn] at this; simp at this; show r.length ≤ 200; omega, h.p0, h.p1⟩
    exact h'.comes (p := p) (h.net p (by rw [hn]; simp))
theorem LineOk.iter {N : Nat} : ∀ (n : Nat) {l : Line}, LineOk l N → LineOk (iterL n l) N
  | 0, _, h => h
  | n + 1, _, h => LineOk.iter n h.step
theorem setS_twice (f : Nat → Site) (i : Nat) (S S' : Site) : setS (setS f i S) i S' = setS f i S' := by
  funext k; unfold setS; split <;> rfl
theorem setS_swap (f : Nat → Site) {i k : Nat} (S S' : Site) (h : i ≠ k) : setS (setS f i S) k S' = setS (setS f k S') i S := by
  funext m; unfold setS
  by_cases a : m = k
  · by_cases b : m = i
    · omega
    · simp [a, Ne.symm h]
  · by_cases b : m = i <;> simp [a, b, h]

theorem comes_clean (st : Nat → Site) (r : List Pk) (t : Nat) (s : List UInt8) (hl : r.length < 200) :
    Line.comes ⟨st, r⟩ ⟨t, s, false⟩ = ⟨setS st t ((st t).took s), r ++ pks (1 - t) (if (takeX (st t).x s).2.reply = [] then [] else [(takeX (st t).x s).2.reply])⟩ := by
  unfold Line.comes Line.send
  by_cases h : (takeX (st t).x s).2.reply = []
  · rw [if_neg (by show ¬ ((takeX (st t).x s).2.reply ≠ [] ∧ _); exact fun e => e.1 h), if_pos h]
    show (⟨_, r⟩ : Line) = ⟨_, r ++ []⟩
    rw [List.append_nil]
  · rw [if_pos (by show (takeX (st t).x s).2.reply ≠ [] ∧ r.length < 200; exact ⟨h, hl⟩), if_neg h]
    rfl

/-- Packets of one end come. -/
theorem iter_phase (t : Nat) : ∀ (ss : List (List UInt8)) (st : Nat → Site) (rest : List Pk), ss.length + rest.length ≤ 200 →
    iterL ss.length ⟨st, pks t ss ++ rest⟩ = ⟨setS st t (tookS (st t) ss), rest ++ pks (1 - t) (repS (st t) ss)⟩ ∧ ∀ j, j < ss.length → (iterL j ⟨st, pks t ss ++ rest⟩).net ≠ []
  | [], st, rest, _ => by
    refine ⟨?_, fun j hj => by cases hj⟩
    show (⟨st, rest⟩ : Line) = ⟨setS st t (st t), rest ++ []⟩
    rw [setS_same, List.append_nil]
  | s :: ss, st, rest, hl => by
    have h1 : stepL ⟨st, pks t (s :: ss) ++ rest⟩ = ⟨setS st t ((st t).took s), pks t ss ++ (rest ++ pks (1 - t) (if (takeX (st t).x s).2.reply = [] then [] else [(takeX (st t).x s).2.reply]))⟩ := by
      show Line.comes ⟨st, pks t ss ++ rest⟩ ⟨t, s, false⟩ = _
      rw [comes_clean _ _ _ _ (by rw [List.length_append, pks_length]; simp at hl; omega), List.append_assoc]
    have hr : (if (takeX (st t).x s).2.reply = [] then [] else [(takeX (st t).x s).2.reply] : List (List UInt8)).length ≤ 1 := by split <;> simp
    obtain ⟨i1, i2⟩ := iter_phase t ss (setS st t ((st t).took s)) (rest ++ pks (1 - t) (if (takeX (st t).x s).2.reply = [] then [] else [(takeX (st t).x s).2.reply])) (by rw [List.length_append, pks_length]; simp at hl; omega)
    refine ⟨?_, ?_⟩
    · show iterL ss.length (stepL _) = _
      rw [h1, i1, setS_at, setS_twice]
      unfold pks
      rw [List.append_assoc, ← List.map_append]
      rfl
    · intro j hj
      match j, hj with
      | 0, _ => exact fun e => by cases e
      | j + 1, hj =>
        show (iterL j (stepL _)).net ≠ []
        rw [h1]
        exact i2 j (by simpa using hj)

theorem sends_is (who : Nat) : ∀ (ss : List (List UInt8)) (l : Line), (∀ s ∈ ss, s ≠ []) → l.net.length + ss.length ≤ 200 → l.sends who ss = ⟨l.st, l.net ++ pks (1 - who) ss⟩
  | [], l, _, _ => by show l = _; unfold pks; rw [List.map_nil, List.append_nil]
  | s :: ss, l, hs, hl => by
    have h1 : l.send ⟨1 - who, s, false⟩ = ⟨l.st, l.net ++ [⟨1 - who, s, false⟩]⟩ := by
      unfold Line.send
      rw [if_pos ⟨hs s (by simp), by simp at hl; omega⟩]
    show (l.send ⟨1 - who, s, false⟩).sends who ss = _
    rw [h1, sends_is who ss _ (fun t ht => hs t (List.mem_cons_of_mem _ ht)) (by simp at hl ⊢; omega)]
    show (⟨l.st, (l.net ++ [_]) ++ pks (1 - who) ss⟩ : Line) = _
    rw [List.append_assoc]; rfl

/-- All that was under way is gone, and both ends tick. -/
def beginL (l : Line) : Line := (Line.tick ⟨l.st, []⟩ 0).tick 1
theorem tick_le (x : LEnd) : (tickL x).length ≤ 4 := by rw [tick_len]; omega
theorem begin_is (l : Line) : beginL l = ⟨l.st, pks 1 (tickL (l.st 0).x) ++ (pks 0 (tickL (l.st 1).x) ++ [])⟩ := by
  have h0 := tick_le (l.st 0).x
  have h1 := tick_le (l.st 1).x
  unfold beginL Line.tick
  rw [sends_is 0 _ ⟨l.st, []⟩ (tick_ne _) (by show 0 + (tickL (l.st 0).x).length ≤ 200; omega)]
  rw [sends_is 1 _ _ (tick_ne _) (by show ([] ++ pks 1 (tickL (l.st 0).x)).length + (tickL (l.st 1).x).length ≤ 200; rw [List.length_append, pks_length, List.length_nil]; omega)]
  show (⟨l.st, ([] ++ pks 1 (tickL (l.st 0).x)) ++ pks 0 (tickL (l.st 1).x)⟩ : Line) = _
  rw [List.nil_append, List.append_nil]
theorem LineOk.begin_ {l : Line} {N : Nat} (h : LineOk l N) : LineOk (beginL l) N := by
  have h' : LineOk ⟨l.st, []⟩ N := ⟨h.a, h.b, fun q hq => (by cases hq), Nat.zero_le _, h.p0, h.p1⟩
  exact (h'.tick (who := 0) (by omega)).tick (who := 1) (by omega)
/-- How many packets come in a round. -/
def lenL (l : Line) : Nat := ((tickL (l.st 0).x).length + (tickL (l.st 1).x).length) + ((tickL (l.st 0).x).length + (tickL (l.st 1).x).length)
noncomputable def roundL (l : Line) : Line := iterL (lenL l) (beginL l)
theorem LineOk.round {l : Line} {N : Nat} (h : LineOk l N) : LineOk (roundL l) N := h.begin_.iter _
theorem round_is {l : Line} {N : Nat} (h : LineOk l N) : roundL l = ⟨setS (setS l.st 1 (roundB (l.st 0) (l.st 1))) 0 (roundA (l.st 0) (l.st 1)), []⟩ ∧ ∀ j, j < lenL l → (iterL j (beginL l)).net ≠ [] := by
  obtain ⟨_, _, _, _, c1, c2, c3, c4, _, _⟩ := round_sites h.a h.b
  unfold roundL lenL
  rw [begin_is]
  clear h
  obtain ⟨A, hA⟩ : ∃ A, l.st 0 = A := ⟨_, rfl⟩
  obtain ⟨B, hB⟩ : ∃ B, l.st 1 = B := ⟨_, rfl⟩
  rw [hA, hB] at c1 c2 c3 c4 ⊢
  have hta := tick_le A.x
  have htb := tick_le B.x
  obtain ⟨p1, q1⟩ := iter_phase 1 (tickL A.x) l.st (pks 0 (tickL B.x) ++ []) (by rw [List.length_append, pks_length, List.length_nil]; omega)
  rw [hB] at p1
  obtain ⟨p2, q2⟩ := iter_phase 0 (tickL B.x) (setS l.st 1 (tookS B (tickL A.x))) ([] ++ pks (1 - 1) (repS B (tickL A.x))) (by rw [List.length_append, pks_length, List.length_nil]; omega)
  rw [setS_far _ _ (show (0 : Nat) ≠ 1 by omega), hA] at p2
  obtain ⟨p3, q3⟩ := iter_phase 0 (repS B (tickL A.x)) (setS (setS l.st 1 (tookS B (tickL A.x))) 0 (tookS A (tickL B.x))) (pks (1 - 0) (repS A (tickL B.x))) (by rw [pks_length]; omega)
  rw [setS_at, c3, c1, setS_twice] at p3
  rw [c1] at q3
  obtain ⟨p4, q4⟩ := iter_phase 1 (repS A (tickL B.x)) (setS (setS l.st 1 (tookS B (tickL A.x))) 0 (tookS (tookS A (tickL B.x)) (repS B (tickL A.x)))) (pks (1 - 0) []) (by rw [pks_length]; simp; omega)
  rw [setS_far _ _ (show (1 : Nat) ≠ 0 by omega), setS_at, c4, c2] at p4
  rw [c2] at q4
  have e1 : iterL (tickL A.x).length ⟨l.st, pks 1 (tickL A.x) ++ (pks 0 (tickL B.x) ++ [])⟩ = ⟨setS l.st 1 (tookS B (tickL A.x)), pks 0 (tickL B.x) ++ ([] ++ pks (1 - 1) (repS B (tickL A.x)))⟩ := by rw [p1, List.append_assoc]
  have e2 : iterL (tickL B.x).length ⟨setS l.st 1 (tookS B (tickL A.x)), pks 0 (tickL B.x) ++ ([] ++ pks (1 - 1) (repS B (tickL A.x)))⟩ = ⟨setS (setS l.st 1 (tookS B (tickL A.x))) 0 (tookS A (tickL B.x)), pks 0 (repS B (tickL A.x)) ++ pks (1 - 0) (repS A (tickL B.x))⟩ := by rw [p2, List.nil_append]
  have e3 : iterL (tickL A.x).length ⟨setS (setS l.st 1 (tookS B (tickL A.x))) 0 (tookS A (tickL B.x)), pks 0 (repS B (tickL A.x)) ++ pks (1 - 0) (repS A (tickL B.x))⟩ = ⟨setS (setS l.st 1 (tookS B (tickL A.x))) 0 (tookS (tookS A (tickL B.x)) (repS B (tickL A.x))), pks 1 (repS A (tickL B.x)) ++ pks (1 - 0) []⟩ := by rw [p3]
  refine ⟨?_, ?_⟩
  · rw [iter_add, iter_add, iter_add, e1, e2, e3, p4]
    rw [setS_swap _ _ _ (show (0 : Nat) ≠ 1 by omega), setS_twice]
    rfl
  · intro j hj
    by_cases j1 : j < (tickL A.x).length
    · exact q1 j j1
    obtain ⟨j', e⟩ : ∃ j', j = (tickL A.x).length + j' := ⟨j - (tickL A.x).length, by omega⟩
    subst e
    rw [iter_add, e1]
    by_cases j2 : j' < (tickL B.x).length
    · exact q2 j' j2
    obtain ⟨j'', e⟩ : ∃ j'', j' = (tickL B.x).length + j'' := ⟨j' - (tickL B.x).length, by omega⟩
    subst e
    rw [iter_add, e2]
    by_cases j3 : j'' < (tickL A.x).length
    · exact q3 j'' j3
    obtain ⟨k, e⟩ : ∃ k, j'' = (tickL A.x).length + k := ⟨j'' - (tickL A.x).length, by omega⟩
    subst e
    rw [iter_add, e3]
    exact q4 k (by omega)

/-- .. so many rounds. -/
noncomputable def roundsL : Nat → Line → Line
  | 0, l => l
  | n + 1, l => roundL (roundsL n l)
structure RoundsOk (l m : Line) (N r : Nat) : Prop where
  ok : LineOk m N
  a : Near r (m.st 0)
  b : Near r (m.st 1)
  p0 : (m.st 0).put = (l.st 0).put
  p1 : (m.st 1).put = (l.st 1).put
theorem rounds_ok {l : Line} {N : Nat} (h : LineOk l N) : ∀ r, RoundsOk l (roundsL r l) N r
  | 0 => ⟨h, .inr (.inl rfl), .inr (.inl rfl), rfl, rfl⟩
  | r + 1 => by
    have ih := rounds_ok h r
    obtain ⟨_, _, c1, c2, _, _, _, _, n1, n2⟩ := round_sites ih.ok.a ih.ok.b
    have hr := (round_is ih.ok).1
    have s0 : (roundL (roundsL r l)).st 0 = roundA ((roundsL r l).st 0) ((roundsL r l).st 1) := by rw [hr]; show setS (setS (roundsL r l).st 1 (roundB ((roundsL r l).st 0) ((roundsL r l).st 1))) 0 (roundA ((roundsL r l).st 0) ((roundsL r l).st 1)) 0 = _; exact setS_at _ _ _
    have s1 : (roundL (roundsL r l)).st 1 = roundB ((roundsL r l).st 0) ((roundsL r l).st 1) := by
      rw [hr]
      show setS (setS (roundsL r l).st 1 (roundB ((roundsL r l).st 0) ((roundsL r l).st 1))) 0 (roundA ((roundsL r l).st 0) ((roundsL r l).st 1)) 1 = _
      rw [setS_far _ _ (show (1 : Nat) ≠ 0 by omega)]; exact setS_at _ _ _
    refine ⟨ih.ok.round, ?_, ?_, ?_, ?_⟩
    · show Near (r + 1) ((roundL (roundsL r l)).st 0); rw [s0]; exact n1 r ih.a
    · show Near (r + 1) ((roundL (roundsL r l)).st 1); rw [s1]; exact n2 r ih.b
    · show ((roundL (roundsL r l)).st 0).put = _; rw [s0, c1, ih.p0]
    · show ((roundL (roundsL r l)).st 1).put = _; rw [s1, c2, ih.p1]
theorem all_came {S T : Site} {i j : Nat} (h : SiteOk S i T) (h' : SiteOk T j S) (ho : S.x.out = []) : T.came = S.put := by
  have h1 := h.out_len
  rw [ho] at h1
  simp only [List.length_nil] at h1
  have h2 := h.fi
  have h3 := h'.came_le
  have h4 := h'.pre
  rw [h4, List.take_of_length_le (by omega)]
/-- Behind 64 rounds all has come, and nothing waits. -/
theorem rounds_all {l : Line} {N : Nat} (h : LineOk l N) : ((roundsL 64 l).st 0).came = ((roundsL 64 l).st 1).put ∧ ((roundsL 64 l).st 1).came = ((roundsL 64 l).st 0).put ∧ ((roundsL 64 l).st 0).x.out = [] ∧ ((roundsL 64 l).st 1).x.out = [] := by
  have hr := rounds_ok h 64
  exact ⟨all_came hr.ok.b hr.ok.a hr.b.done, all_came hr.ok.a hr.ok.b hr.a.done, hr.a.done, hr.b.done⟩
end Go.Proofs.Ytdhmkcomngbmaaa
