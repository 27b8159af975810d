/- An end that is right stays so, plain: what LinkStays and LinkOld ask of Take and Put. No program in sight. -/
import Derived.Test.YtdhmkcomngbmaaaLinkP
namespace Go.Proofs.Ytdhmkcomngbmaaa

structure StaysL (x y : LEnd) (c : CameL) : Prop where
  ok : y.Ok
  ep : y.ep = x.ep
  ot : x.ot ≤ y.ot
  wa : x.wa ≤ y.wa ∨ x.ot < y.ot
  has : c.has = true → 1 < y.wa
  anew : c.anew = true → y.out = []
theorem met_ok {x : LEnd} (h : x.Ok) {n : Int} (h2 : n ≤ 1099511627776) : (metX x n).Ok ∧ (metX x n).ep = x.ep ∧ x.ot ≤ (metX x n).ot ∧ (x.wa ≤ (metX x n).wa ∨ x.ot < (metX x n).ot) ∧ ((metX x n).fi ≤ x.fi) ∧ ((metX x n).wa ≤ x.wa) ∧ (x.ot < n ∧ x.ot ≠ 0 → (metX x n).out = []) := by
  have ho := h.o1
  have hf := h.f1
  have hw := h.w1
  unfold metX
  split
  · rename_i hn
    split
    · exact ⟨⟨h.e1, h.e2, by show 0 ≤ n; omega, h2, h.f1, h.f2, by show (1 : Int) ≤ 1; omega, by show (1 : Int) ≤ _; omega, h.len, h.each⟩, rfl, Int.le_of_lt hn, .inr hn, Int.le_refl _, hw, fun e => absurd (by assumption) e.2⟩
    · exact ⟨⟨h.e1, h.e2, by show 0 ≤ n; omega, h2, by show (1 : Int) ≤ 1; omega, by show (1 : Int) ≤ _; omega, by show (1 : Int) ≤ 1; omega, by show (1 : Int) ≤ _; omega, Nat.zero_le _, fun p hp => (by cases hp)⟩, rfl, Int.le_of_lt hn, .inr hn, hf, hw, fun _ => rfl⟩
  · rename_i hn
    exact ⟨h, rfl, Int.le_refl _, .inl (Int.le_refl _), Int.le_refl _, Int.le_refl _, fun e => absurd e.1 hn⟩
theorem acked_ok {x : LEnd} (h : x.Ok) (hf : x.fi ≤ 549755813888) (n : Int) : (ackedX x n).Ok ∧ (ackedX x n).ep = x.ep ∧ (ackedX x n).ot = x.ot ∧ (ackedX x n).wa = x.wa ∧ (x.out = [] → (ackedX x n).out = []) := by
  have hf1 := h.f1
  have hl := h.len
  unfold ackedX
  split
  · rename_i hc
    refine ⟨⟨h.e1, h.e2, h.o1, h.o2, by show 1 ≤ n; omega, by show n ≤ _; omega, h.w1, h.w2, ?_, fun p hp => h.each p (List.mem_of_mem_drop hp)⟩, rfl, rfl, rfl, fun e => ?_⟩
    · show (x.out.drop _).length ≤ 64
      rw [List.length_drop]; omega
    · show x.out.drop _ = []
      rw [e, List.drop_nil]
  · exact ⟨h, rfl, rfl, rfl, fun e => e⟩
theorem take_stays {x : LEnd} (h : x.Ok) (hf : x.fi ≤ 549755813888) (s : List UInt8) : StaysL x (takeX x s).1 (takeX x s).2 := by
  by_cases hno : ¬ IsHeard s ∨ ((heardOf s).n0 : Int) < x.ot
  · rw [takeX_no hno]
    exact ⟨h, rfl, Int.le_refl _, .inl (Int.le_refl _), fun e => (by cases e), fun e => (by cases e)⟩
  · have hs : IsHeard s := Classical.byContradiction fun e => hno (.inl e)
    have hn2 : ((heardOf s).n0 : Int) ≤ 1099511627776 := by have := hs.2.2.2; show ((num8 (openB s) 0 : Nat) : Int) ≤ _; omega
    obtain ⟨m1, m2, m3, m4, m5, m6, m7⟩ := met_ok h hn2
    unfold takeX
    rw [if_neg hno]
    dsimp only
    obtain ⟨y, hy⟩ : ∃ y, metX x (heardOf s).n0 = y := ⟨_, rfl⟩
    rw [hy] at m1 m2 m3 m4 m5 m6 m7
    rw [hy]
    obtain ⟨z1, z2, z3, z4, z5⟩ := acked_ok m1 (by omega) (heardOf s).n3
    obtain ⟨z, hz⟩ : ∃ z, ackedX y (heardOf s).n3 = z := ⟨_, rfl⟩
    rw [hz] at z1 z2 z3 z4 z5
    rw [hz]
    split
    · exact ⟨m1, m2, m3, m4, fun e => (by cases e), fun e => m7 (of_decide_eq_true e)⟩
    split
    · exact ⟨z1, z2.trans m2, by rw [z3]; exact m3, by rw [z3, z4]; exact m4, fun e => (by cases e), fun e => z5 (m7 (of_decide_eq_true e))⟩
    split
    · have hw1 := m1.w1
      refine ⟨⟨z1.e1, z1.e2, z1.o1, z1.o2, z1.f1, z1.f2, by show 1 ≤ z.wa + 1; omega, by show z.wa + 1 ≤ _; omega, z1.len, z1.each⟩, z2.trans m2, by show x.ot ≤ z.ot; rw [z3]; exact m3, ?_, fun _ => by show 1 < z.wa + 1; omega, fun e => z5 (m7 (of_decide_eq_true e))⟩
      show x.wa ≤ z.wa + 1 ∨ x.ot < z.ot
      rw [z3, z4]
      rcases m4 with e | e
      · exact .inl (by omega)
      · exact .inr e
    · exact ⟨z1, z2.trans m2, by rw [z3]; exact m3, by rw [z3, z4]; exact m4, fun e => (by cases e), fun e => z5 (m7 (of_decide_eq_true e))⟩
theorem put_stays {y : LEnd} (h : y.Ok) {p : List UInt8} (he : putE15 y p = 0) : (putX y p).Ok ∧ (putX y p).out.length = y.out.length + 1 := by
  unfold putE15 at he
  split at he
  · omega
  rename_i hp
  split at he
  · omega
  rename_i hq
  refine ⟨⟨h.e1, h.e2, h.o1, h.o2, h.f1, h.f2, h.w1, h.w2, ?_, fun q hq' => ?_⟩, ?_⟩
  · show (y.out ++ [p]).length ≤ 64
    rw [List.length_append]; simp; omega
  · rcases List.mem_append.1 hq' with e | e
    · exact h.each q e
    · rw [List.mem_singleton.1 e]; omega
  · show (y.out ++ [p]).length = _
    rw [List.length_append]; rfl
end Go.Proofs.Ytdhmkcomngbmaaa
