/- A round of a line, plain: each end ticks, and all packets come: four pieces more are acknowledged, or the other end is met. No program in sight. -/
import Derived.Test.YtdhmkcomngbmaaaLinkR
namespace Go.Proofs.Ytdhmkcomngbmaaa

/-- Packets come, one after another. -/
noncomputable def tookS (T : Site) : List (List UInt8) → Site
  | [] => T
  | s :: r => tookS (T.took s) r
/-- .. and what is answered. -/
noncomputable def repS (T : Site) : List (List UInt8) → List (List UInt8)
  | [] => []
  | s :: r => (if (takeX T.x s).2.reply = [] then [] else [(takeX T.x s).2.reply]) ++ repS (T.took s) r

theorem SiteOk.other {S T T' : Site} {i : Nat} (h : SiteOk S i T) (hp : T'.put = T.put) (hc : T.came.length ≤ T'.came.length) : SiteOk S i T' :=
  ⟨h.ok, h.ep, h.ot, h.new, h.wa, by have := h.fi; omega, h.out, h.fl, by rw [hp]; exact h.pre, h.each, h.few⟩
theorem ack_of {T S : Site} {j : Nat} (h : SiteOk T j S) (ho : T.x.ot ≠ 0) : AckOf T j (T.came.length + 1) (ackB T.x) := by
  refine ⟨?_, by omega, by omega⟩
  unfold ackB pktB
  rw [h.ep, h.wa]
  rcases h.ot with e | e
  · exact absurd e ho
  · rw [e]
theorem took_put (T : Site) (s : List UInt8) : (T.took s).put = T.put := rfl

/-- Pieces' packets come, in their order. -/
theorem data_phase {S : Site} {i j : Nat} (hij : (i = 0 ∧ j = 1) ∨ (i = 1 ∧ j = 0)) : ∀ (ss : List (List UInt8)) (n : Int) (T : Site), SiteOk S i T → SiteOk T j S → 1 ≤ n →
    (∀ k (hk : k < ss.length), ∃ p, ss[k] = pktB S.x 1 (n + k) p ∧ Gen S i ss[k] ∧ n + k ≤ S.put.length ∧ p.length ≤ 512) → (S.x.ot ≠ 0 → n ≤ T.came.length + 1) →
    SiteOk S i (tookS T ss) ∧ SiteOk (tookS T ss) j S ∧ (tookS T ss).put = T.put ∧ T.came.length ≤ (tookS T ss).came.length ∧ T.x.fi ≤ (tookS T ss).x.fi ∧
      (ss ≠ [] ∨ T.x.ot ≠ 0 → (tookS T ss).x.ot ≠ 0) ∧ (repS T ss).length = ss.length ∧ (∀ r ∈ repS T ss, ∃ w, AckOf (tookS T ss) j w r) ∧
      (S.x.ot ≠ 0 → ss ≠ [] → ∃ r ∈ repS T ss, ∃ w, AckOf (tookS T ss) j w r ∧ n + ss.length ≤ w)
  | [], n, T, hS, hT, _, _, _ => ⟨hS, hT, rfl, Nat.le_refl _, Int.le_refl _, fun h => by rcases h with h | h; exact absurd rfl h; exact h, rfl, fun r hr => (by cases hr), fun _ h => absurd rfl h⟩
  | s :: ss, n, T, hS, hT, hn, hss, hc => by
    obtain ⟨p, p1, p2, p3, p4⟩ := hss 0 (by simp)
    have p1' : s = pktB S.x 1 n p := by rw [show n + ((0 : Nat) : Int) = n from by omega] at p1; exact p1
    obtain ⟨g1, g2, g3, _⟩ := took_gen hij hS hT (show Gen S i s from p2)
    obtain ⟨d1, d2, d3, d4⟩ := took_data (num := n) (p := p) hij hS hT hn (by omega) p4
    rw [← p1'] at d1 d2 d3 d4
    have hA := ack_of g1 d2
    have hne : ackB (T.took s).x ≠ [] := frameOf_ne _ _
    obtain ⟨r1, r2, r3, r4, r5, r6, r7, r8, r9⟩ := data_phase hij ss (n + 1) (T.took s) g2 g1 (by omega) (fun k hk => by
      obtain ⟨q, q1, q2, q3, q4⟩ := hss (k + 1) (by simpa using hk)
      exact ⟨q, by rw [show n + 1 + (k : Int) = n + ((k + 1 : Nat) : Int) from by omega]; exact q1, q2, by omega, q4⟩) (fun ho => by have := d4 ho (hc ho); omega)
    have hrep : repS T (s :: ss) = ackB (T.took s).x :: repS (T.took s) ss := by
      show (if (takeX T.x s).2.reply = [] then [] else [(takeX T.x s).2.reply]) ++ repS (T.took s) ss = _
      rw [d1, if_neg hne]; rfl
    refine ⟨r1, r2, r3, by show T.came.length ≤ (tookS (T.took s) ss).came.length; omega, by show T.x.fi ≤ (tookS (T.took s) ss).x.fi; omega, fun _ => r6 (.inr d2), ?_, ?_, ?_⟩
    · rw [hrep, List.length_cons, List.length_cons, r7]
    · intro r hr
      rw [hrep] at hr
      rcases List.mem_cons.1 hr with e | e
      · rw [e]; exact ⟨_, hA.mono r4⟩
      · exact r8 r e
    · intro ho _
      by_cases hz : ss = []
      · subst hz
        refine ⟨ackB (T.took s).x, by rw [hrep]; simp, _, hA.mono r4, ?_⟩
        have := d4 ho (hc ho)
        simp only [List.length_cons, List.length_nil]
        omega
      · obtain ⟨r, hr, w, hw, hl⟩ := r9 ho hz
        refine ⟨r, by rw [hrep]; exact List.mem_cons_of_mem _ hr, w, hw, ?_⟩
        rw [List.length_cons]; omega

/-- Acknowledgements come. -/
theorem ack_phase {S : Site} {i j : Nat} (hij : (i = 0 ∧ j = 1) ∨ (i = 1 ∧ j = 0)) : ∀ (rs : List (List UInt8)) (T : Site), SiteOk S i T → SiteOk T j S → (∀ r ∈ rs, ∃ w, AckOf S i w r) →
    SiteOk S i (tookS T rs) ∧ SiteOk (tookS T rs) j S ∧ (tookS T rs).put = T.put ∧ (tookS T rs).came = T.came ∧ T.x.fi ≤ (tookS T rs).x.fi ∧ (rs ≠ [] ∨ T.x.ot ≠ 0 → (tookS T rs).x.ot ≠ 0) ∧ repS T rs = [] ∧ (∀ r ∈ rs, ∀ w, AckOf S i w r → w ≤ (tookS T rs).x.fi)
  | [], T, hS, hT, _ => ⟨hS, hT, rfl, rfl, Int.le_refl _, fun h => by rcases h with h | h; exact absurd rfl h; exact h, rfl, fun r hr => (by cases hr)⟩
  | s :: rs, T, hS, hT, hr => by
    obtain ⟨w, hw⟩ := hr s (by simp)
    obtain ⟨g1, g2, g3, _⟩ := took_gen hij hS hT hw.gen
    obtain ⟨a1, a2, a3, a4, a5⟩ := took_ack hij hS hT hw
    obtain ⟨r1, r2, r3, r4, r5, r6, r7, r8⟩ := ack_phase hij rs (T.took s) g2 g1 (fun r h => hr r (List.mem_cons_of_mem _ h))
    refine ⟨r1, r2, r3, by show (tookS (T.took s) rs).came = T.came; rw [r4, a2], by show T.x.fi ≤ (tookS (T.took s) rs).x.fi; omega, fun _ => r6 (.inr a3), ?_, ?_⟩
    · show (if (takeX T.x s).2.reply = [] then [] else [(takeX T.x s).2.reply]) ++ repS (T.took s) rs = []
      rw [if_pos a1, r7]; rfl
    · intro r h v hv
      rcases List.mem_cons.1 h with e | e
      · rw [e] at hv
        obtain ⟨_, _, _, b4, _⟩ := took_ack hij hS hT hv
        show v ≤ (tookS (T.took s) rs).x.fi
        omega
      · exact r8 r e v hv

/-- How far an end is, behind so many rounds. -/
def Near (r : Nat) (S : Site) : Prop := S.x.out = [] ∨ r = 0 ∨ (S.x.ot ≠ 0 ∧ S.x.out.length + 4 * r ≤ 68)
theorem Near.done {S : Site} (h : Near 64 S) : S.x.out = [] := by
  rcases h with h | h | ⟨_, h⟩
  · exact h
  · omega
  · omega
theorem Near.step {S S' T T' : Site} {i r : Nat} (hS : SiteOk S i T) (hS' : SiteOk S' i T') (hp : S'.put = S.put) (hf : S.x.fi ≤ S'.x.fi) (ho : S.x.out ≠ [] ∨ S.x.ot ≠ 0 → S'.x.ot ≠ 0) (hk : S.x.ot ≠ 0 → S.x.fi + min 4 S.x.out.length ≤ S'.x.fi) (h : Near r S) : Near (r + 1) S' := by
  have h1 := hS.out_len
  have h2 := hS'.out_len
  rw [hp] at h2
  have h3 := hS.ok.len
  unfold Near at *
  by_cases hz : S.x.out = []
  · left
    rw [hz] at h1
    apply List.eq_nil_of_length_eq_zero
    simp only [List.length_nil] at h1
    omega
  · rcases h with h | h | ⟨h, h'⟩
    · exact absurd h hz
    · right; right
      exact ⟨ho (.inl hz), by omega⟩
    · have := hk h
      by_cases hl : S.x.out.length ≤ 4
      · left
        apply List.eq_nil_of_length_eq_zero
        omega
      · right; right
        exact ⟨ho (.inr h), by omega⟩

theorem tick_len (x : LEnd) : (tickL x).length = min 4 x.out.length := by unfold tickL; rw [List.length_mapIdx, List.length_take]
theorem tick_each {S T : Site} {i : Nat} (h : SiteOk S i T) : ∀ k (hk : k < (tickL S.x).length), ∃ p, (tickL S.x)[k] = pktB S.x 1 (S.x.fi + k) p ∧ Gen S i (tickL S.x)[k] ∧ S.x.fi + k ≤ S.put.length ∧ p.length ≤ 512 := by
  intro k hk
  have hg := tick_gen h _ (List.getElem_mem hk)
  have hl := h.out_len
  rw [tick_len] at hk
  refine ⟨S.x.out[k]'(by omega), ?_, hg, by omega, h.ok.each _ (List.getElem_mem _)⟩
  simp only [tickL, List.getElem_mapIdx, List.getElem_take]
theorem tick_ne (x : LEnd) : ∀ s ∈ tickL x, s ≠ [] := by
  intro s hs
  unfold tickL at hs
  obtain ⟨k, hk, e⟩ := List.mem_mapIdx.1 hs
  rw [← e]
  exact frameOf_ne _ _

/-- What both ends are behind a round. -/
noncomputable def roundA (A B : Site) : Site := tookS (tookS A (tickL B.x)) (repS B (tickL A.x))
noncomputable def roundB (A B : Site) : Site := tookS (tookS B (tickL A.x)) (repS A (tickL B.x))
theorem round_sites {A B : Site} (hA : SiteOk A 0 B) (hB : SiteOk B 1 A) :
    SiteOk (roundA A B) 0 (roundB A B) ∧ SiteOk (roundB A B) 1 (roundA A B) ∧ (roundA A B).put = A.put ∧ (roundB A B).put = B.put ∧
      (repS B (tickL A.x)).length = (tickL A.x).length ∧ (repS A (tickL B.x)).length = (tickL B.x).length ∧
      repS (tookS A (tickL B.x)) (repS B (tickL A.x)) = [] ∧ repS (tookS B (tickL A.x)) (repS A (tickL B.x)) = [] ∧
      (∀ r, Near r A → Near (r + 1) (roundA A B)) ∧ (∀ r, Near r B → Near (r + 1) (roundB A B)) := by
  obtain ⟨a1, a2, a3, a4, a5, a6, a7, a8, a9⟩ := data_phase (S := A) (i := 0) (j := 1) (.inl ⟨rfl, rfl⟩) (tickL A.x) A.x.fi B hA hB hA.ok.f1 (tick_each hA) (fun _ => hA.fi)
  obtain ⟨b1, b2, b3, b4, b5, b6, b7, b8, b9⟩ := data_phase (S := B) (i := 1) (j := 0) (.inr ⟨rfl, rfl⟩) (tickL B.x) B.x.fi A hB hA hB.ok.f1 (tick_each hB) (fun _ => hB.fi)
  have c1 : SiteOk (tookS A (tickL B.x)) 0 (tookS B (tickL A.x)) := b2.other a3 a4
  have c2 : SiteOk (tookS B (tickL A.x)) 1 (tookS A (tickL B.x)) := a2.other b3 b4
  obtain ⟨d1, d2, d3, d4, d5, d6, d7, d8⟩ := ack_phase (S := tookS B (tickL A.x)) (i := 1) (j := 0) (.inr ⟨rfl, rfl⟩) (repS B (tickL A.x)) (tookS A (tickL B.x)) c2 c1 a8
  obtain ⟨e1, e2, e3, e4, e5, e6, e7, e8⟩ := ack_phase (S := tookS A (tickL B.x)) (i := 0) (j := 1) (.inl ⟨rfl, rfl⟩) (repS A (tickL B.x)) (tookS B (tickL A.x)) c1 c2 b8
  have f1 : SiteOk (roundA A B) 0 (roundB A B) := d2.other e3 (by show _ ≤ (tookS (tookS B (tickL A.x)) (repS A (tickL B.x))).came.length; rw [e4]; exact Nat.le_refl _)
  have f2 : SiteOk (roundB A B) 1 (roundA A B) := e2.other d3 (by show _ ≤ (tookS (tookS A (tickL B.x)) (repS B (tickL A.x))).came.length; rw [d4]; exact Nat.le_refl _)
  have nz : ∀ x : LEnd, x.out ≠ [] → tickL x ≠ [] := fun x h e => by
    have h1 := congrArg List.length e
    rw [tick_len, List.length_nil] at h1
    have h2 := List.length_pos_iff.2 h
    omega
  refine ⟨f1, f2, d3.trans b3, e3.trans a3, a7, b7, d7, e7, fun r hr => ?_, fun r hr => ?_⟩
  · refine Near.step hA f1 (d3.trans b3) (Int.le_trans b5 d5) (fun h => ?_) (fun h => ?_) hr
    · refine d6 ?_
      rcases h with h | h
      · left
        intro e
        have h1 := congrArg List.length e
        rw [a7] at h1
        exact nz _ h (List.eq_nil_of_length_eq_zero h1)
      · exact .inr (b6 (.inr h))
    · show _ ≤ (tookS (tookS A (tickL B.x)) (repS B (tickL A.x))).x.fi
      by_cases hz : A.x.out = []
      · rw [hz]; simp only [List.length_nil]; omega
      · obtain ⟨q, hq, w, hw, hl⟩ := a9 h (nz _ hz)
        have := d8 q hq w hw
        rw [tick_len] at hl
        omega
  · refine Near.step hB f2 (e3.trans a3) (Int.le_trans a5 e5) (fun h => ?_) (fun h => ?_) hr
    · refine e6 ?_
      rcases h with h | h
      · left
        intro e
        have h1 := congrArg List.length e
        rw [b7] at h1
        exact nz _ h (List.eq_nil_of_length_eq_zero h1)
      · exact .inr (a6 (.inr h))
    · show _ ≤ (tookS (tookS B (tickL A.x)) (repS A (tickL B.x))).x.fi
      by_cases hz : B.x.out = []
      · rw [hz]; simp only [List.length_nil]; omega
      · obtain ⟨q, hq, w, hw, hl⟩ := b9 h (nz _ hz)
        have := e8 q hq w hw
        rw [tick_len] at hl
        omega
end Go.Proofs.Ytdhmkcomngbmaaa
