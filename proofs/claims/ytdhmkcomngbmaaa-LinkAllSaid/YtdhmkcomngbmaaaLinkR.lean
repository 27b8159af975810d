/- The rounds of a line, plain: all packets come, tick by tick: what was put has come, and is acknowledged. No program in sight. -/
import Derived.Test.YtdhmkcomngbmaaaLinkL
namespace Go.Proofs.Ytdhmkcomngbmaaa

/-- The other end is met. -/
theorem met_is {S T : Site} {i j : Nat} (hij : (i = 0 ∧ j = 1) ∨ (i = 1 ∧ j = 0)) (hT : SiteOk T j S) : metX T.x ((i + 3 : Nat) : Int) = { T.x with ot := (i : Int) + 3 } ∧ decide (T.x.ot < ((i + 3 : Nat) : Int) ∧ T.x.ot ≠ 0) = false ∧ ¬ ((i + 3 : Nat) : Int) < T.x.ot := by
  have hot : T.x.ot = 0 ∨ T.x.ot = (i : Int) + 3 := by
    rcases hT.ot with h | h
    · exact .inl h
    · right; rw [h]; omega
  refine ⟨?_, ?_, ?_⟩
  · unfold metX
    rcases hot with h | h
    · have hw : T.x.wa = 1 := by rw [hT.wa, (hT.new h).1]; rfl
      rw [if_pos (by rw [h]; omega), if_pos h]
      obtain ⟨⟨e, o, f, w, u⟩, _, _⟩ := T
      simp only at hw
      simp [hw]
    · rw [if_neg (by rw [h]; omega)]
      obtain ⟨⟨e, o, f, w, u⟩, _, _⟩ := T
      simp only at h
      simp [h]
  · rw [decide_eq_false_iff_not]
    rcases hot with h | h
    · exact fun ⟨_, b⟩ => b h
    · rw [h]; omega
  · rcases hot with h | h <;> rw [h] <;> omega

/-- An acknowledgement of an end that has met the other one. -/
def AckOf (S : Site) (i : Nat) (w : Int) (s : List UInt8) : Prop := s = frameOf 2 (pktL ((i : Int) + 3) (((1 - i : Nat) : Int) + 3) 0 w []) ∧ 1 ≤ w ∧ w ≤ S.came.length + 1
theorem AckOf.gen {S : Site} {i : Nat} {w : Int} {s : List UInt8} (h : AckOf S i w s) : Gen S i s := ⟨2, _, 0, w, [], h.1, .inr rfl, .inr rfl, h.2.1, h.2.2, fun e => by omega, fun _ => ⟨rfl, rfl⟩⟩
theorem AckOf.mono {S S' : Site} {i : Nat} {w : Int} {s : List UInt8} (h : AckOf S i w s) (hc : S.came.length ≤ S'.came.length) : AckOf S' i w s := ⟨h.1, h.2.1, by have := h.2.2; omega⟩
theorem frameOf_ne (k : Nat) (b : List UInt8) : frameOf k b ≠ [] := by
  intro h
  have := congrArg List.length h
  unfold frameOf frameHead at this
  simp only [List.length_append, enc_length, List.length_nil] at this
  omega

/-- An acknowledgement comes: it only acknowledges. -/
theorem took_ack {S T : Site} {i j : Nat} {s : List UInt8} {w : Int} (hij : (i = 0 ∧ j = 1) ∨ (i = 1 ∧ j = 0)) (hS : SiteOk S i T) (hT : SiteOk T j S) (h : AckOf S i w s) :
    (takeX T.x s).2.reply = [] ∧ (T.took s).came = T.came ∧ (T.took s).x.ot ≠ 0 ∧ w ≤ (T.took s).x.fi ∧ T.x.fi ≤ (T.took s).x.fi := by
  have hcS := hS.came_le
  have hfew := hT.few
  obtain ⟨hm, ha, hl⟩ := met_is hij hT
  obtain ⟨h1, h2, h3⟩ := h
  obtain ⟨e1, e2⟩ := pkt_heard (kind := 2) (ep := (i : Int) + 3) (ot := ((1 - i : Nat) : Int) + 3) (num := 0) (wa := w) (piece := []) (.inr rfl) (by omega) (by omega) (by omega) (by omega) (by omega) (by omega) (by omega) (by omega) (by simp) (fun _ => ⟨rfl, rfl⟩)
  rw [← h1] at e1 e2
  rw [show ((i : Int) + 3).toNat = i + 3 from by omega] at e2
  have ht : takeX T.x s = (ackedX { T.x with ot := (i : Int) + 3 } w, ⟨[], false, [], false⟩) := by
    unfold takeX
    rw [if_neg (by rw [e2]; exact fun h => h.elim (fun a => a e1) (fun a => hl a))]
    simp only [e2, hm, ha]
    rw [if_neg (by rw [hT.ep]; omega), if_pos trivial, show ((w.toNat : Nat) : Int) = w from by omega]
  unfold Site.took
  rw [ht]
  have hf := hT.ok.f1
  have hol := hT.out_len
  refine ⟨rfl, rfl, ?_, ?_, ?_⟩
  · show (ackedX _ _).ot ≠ 0
    unfold ackedX
    split
    · show (i : Int) + 3 ≠ 0; omega
    · show (i : Int) + 3 ≠ 0; omega
  · show w ≤ (ackedX _ _).fi
    unfold ackedX
    split
    · exact Int.le_refl _
    · rename_i hc
      show w ≤ T.x.fi
      have hc' : ¬ (T.x.fi ≤ w ∧ w ≤ T.x.fi + T.x.out.length) := hc
      omega
  · show T.x.fi ≤ (ackedX _ _).fi
    unfold ackedX
    split
    · rename_i hc; exact hc.1
    · exact Int.le_refl _

/-- A piece's packet comes. -/
theorem took_data {S T : Site} {i j : Nat} {num : Int} {p : List UInt8} (hij : (i = 0 ∧ j = 1) ∨ (i = 1 ∧ j = 0)) (hS : SiteOk S i T) (hT : SiteOk T j S) (n1 : 1 ≤ num) (n2 : num ≤ S.put.length) (hp : p.length ≤ 512) :
    (takeX T.x (pktB S.x 1 num p)).2.reply = ackB (T.took (pktB S.x 1 num p)).x ∧ (T.took (pktB S.x 1 num p)).x.ot ≠ 0 ∧ T.x.fi ≤ (T.took (pktB S.x 1 num p)).x.fi ∧
      (S.x.ot ≠ 0 → num ≤ T.came.length + 1 → num ≤ (T.took (pktB S.x 1 num p)).came.length) := by
  have hcS := hS.came_le
  have hcT := hT.came_le
  have hfew := hT.few
  have hfew' := hS.few
  obtain ⟨hm, ha, hl⟩ := met_is hij hT
  have hw := hS.wa
  have ho := hS.ot
  obtain ⟨e1, e2⟩ := pkt_heard (kind := 1) (ep := S.x.ep) (ot := S.x.ot) (num := num) (wa := S.x.wa) (piece := p) (.inl rfl) hS.ok.e1 hS.ok.e2 hS.ok.o1 hS.ok.o2 (by omega) (by omega) (by omega) hS.ok.w2 hp (fun h => by omega)
  rw [show frameOf 1 (pktL S.x.ep S.x.ot num S.x.wa p) = pktB S.x 1 num p from rfl] at e1 e2
  rw [show S.x.ep.toNat = i + 3 from by rw [hS.ep]; omega] at e2
  have hno : ¬ (¬ IsHeard (pktB S.x 1 num p) ∨ ((heardOf (pktB S.x 1 num p)).n0 : Int) < T.x.ot) := by rw [e2]; exact fun h => h.elim (fun a => a e1) (fun a => hl a)
  by_cases hz : S.x.ot = 0
  · have ht : takeX T.x (pktB S.x 1 num p) = ({ T.x with ot := (i : Int) + 3 }, ⟨[], false, ackB { T.x with ot := (i : Int) + 3 }, false⟩) := by
      unfold takeX
      rw [if_neg hno]
      simp only [e2, hm, ha]
      rw [if_pos (by rw [hz, hT.ep]; omega)]
    unfold Site.took
    rw [ht]
    exact ⟨rfl, by show (i : Int) + 3 ≠ 0; omega, Int.le_refl _, fun h => absurd hz h⟩
  · obtain ⟨z, Hz⟩ : ∃ z, ackedX { T.x with ot := (i : Int) + 3 } S.x.wa = z := ⟨_, rfl⟩
    have hz1 : z.ot = (i : Int) + 3 := by rw [← Hz]; unfold ackedX; split <;> rfl
    have hz2 : z.wa = T.x.wa := by rw [← Hz]; unfold ackedX; split <;> rfl
    have hz3 : T.x.fi ≤ z.fi := by
      rw [← Hz]; unfold ackedX; split
      · rename_i hc; exact hc.1
      · exact Int.le_refl _
    have hTw := hT.wa
    have hne : ¬ ((S.x.ot.toNat : Nat) : Int) ≠ T.x.ep := by rw [hT.ep]; omega
    by_cases hd : num = z.wa ∧ z.wa < 1099511627776
    · have ht : takeX T.x (pktB S.x 1 num p) = ({ z with wa := z.wa + 1 }, ⟨p, true, ackB { z with wa := z.wa + 1 }, false⟩) := by
        unfold takeX
        rw [if_neg hno]
        simp only [e2, hm, ha]
        rw [if_neg hne, show ((S.x.wa.toNat : Nat) : Int) = S.x.wa from by omega, Hz, if_neg (by omega), show ((num.toNat : Nat) : Int) = num from by omega, if_pos hd]
      unfold Site.took
      rw [ht]
      refine ⟨rfl, by show z.ot ≠ 0; omega, hz3, fun _ _ => ?_⟩
      show num ≤ ((T.came ++ [p]).length : Int)
      rw [List.length_append]
      simp
      omega
    · have ht : takeX T.x (pktB S.x 1 num p) = (z, ⟨[], false, ackB z, false⟩) := by
        unfold takeX
        rw [if_neg hno]
        simp only [e2, hm, ha]
        rw [if_neg hne, show ((S.x.wa.toNat : Nat) : Int) = S.x.wa from by omega, Hz, if_neg (by omega), show ((num.toNat : Nat) : Int) = num from by omega, if_neg hd]
      unfold Site.took
      rw [ht]
      refine ⟨rfl, by show z.ot ≠ 0; omega, hz3, fun _ h => ?_⟩
      show num ≤ (T.came.length : Int)
      omega
end Go.Proofs.Ytdhmkcomngbmaaa
