/- A line of two ends, plain: what is under way, what was put and what has come; what a packet that comes does: what has come at each end is a beginning of what was put at the other. No program in sight. -/
import Derived.Test.YtdhmkcomngbmaaaLinkP
namespace Go.Proofs.Ytdhmkcomngbmaaa

/-- An end of a line: what was put, and what has come. -/
structure Site where
  x : LEnd
  put : List (List UInt8)
  came : List (List UInt8)
/-- A packet that the i-th end made. -/
def Gen (S : Site) (i : Nat) (s : List UInt8) : Prop :=
  ∃ (kind : Nat) (ot num wa : Int) (piece : List UInt8), s = frameOf kind (pktL ((i : Int) + 3) ot num wa piece) ∧ (kind = 1 ∨ kind = 2) ∧ (ot = 0 ∨ ot = ((1 - i : Nat) : Int) + 3) ∧ 1 ≤ wa ∧ wa ≤ S.came.length + 1 ∧
    (kind = 1 → 1 ≤ num ∧ num ≤ S.put.length ∧ S.put[(num - 1).toNat]? = some piece ∧ piece.length ≤ 512) ∧ (kind = 2 → num = 0 ∧ piece = [])
structure SiteOk (S : Site) (i : Nat) (T : Site) : Prop where
  ok : S.x.Ok
  ep : S.x.ep = (i : Int) + 3
  ot : S.x.ot = 0 ∨ S.x.ot = ((1 - i : Nat) : Int) + 3
  new : S.x.ot = 0 → S.came = [] ∧ S.x.fi = 1
  wa : S.x.wa = S.came.length + 1
  fi : S.x.fi ≤ T.came.length + 1
  out : S.x.out = S.put.drop (S.x.fi - 1).toNat
  fl : S.x.fi - 1 ≤ S.put.length
  pre : S.came = T.put.take S.came.length
  each : ∀ p ∈ S.put, p.length ≤ 512
  few : S.put.length ≤ 1000000
theorem SiteOk.came_le {S T : Site} {i : Nat} (h : SiteOk S i T) : S.came.length ≤ T.put.length := by
  have := congrArg List.length h.pre
  rw [List.length_take] at this
  omega
theorem SiteOk.out_len {S T : Site} {i : Nat} (h : SiteOk S i T) : (S.x.out.length : Int) = S.put.length + 1 - S.x.fi := by
  have := h.ok.f1
  have := h.fl
  rw [h.out, List.length_drop]
  omega

theorem Gen.mono {S S' : Site} {i : Nat} {s : List UInt8} (h : Gen S i s) (hp : ∃ more, S'.put = S.put ++ more) (hc : S.came.length ≤ S'.came.length) : Gen S' i s := by
  obtain ⟨kind, ot, num, wa, piece, h1, h2, h3, h4, h5, h6, h7⟩ := h
  obtain ⟨more, hm⟩ := hp
  refine ⟨kind, ot, num, wa, piece, h1, h2, h3, h4, by omega, fun hk => ?_, h7⟩
  obtain ⟨a, b, c, d⟩ := h6 hk
  refine ⟨a, by rw [hm, List.length_append]; omega, ?_, d⟩
  rw [hm, List.getElem?_append_left (by omega)]
  exact c
theorem Gen.ack {S T : Site} {i : Nat} (h : SiteOk S i T) : Gen S i (ackB S.x) := by
  refine ⟨2, S.x.ot, 0, S.x.wa, [], ?_, .inr rfl, h.ot, h.ok.w1, by rw [h.wa]; omega, fun h => by omega, fun _ => ⟨rfl, rfl⟩⟩
  unfold ackB pktB
  rw [h.ep]
/-- A waiting piece's packet. -/
theorem Gen.data {S T : Site} {i k : Nat} {p : List UInt8} (h : SiteOk S i T) (hk : S.x.out[k]? = some p) : Gen S i (pktB S.x 1 (S.x.fi + k) p) := by
  have hf := h.ok.f1
  have hlt : k < S.x.out.length := (List.getElem?_eq_some_iff.1 hk).1
  have hl := h.out_len
  have hp : S.put[(S.x.fi + k - 1).toNat]? = some p := by
    rw [h.out, List.getElem?_drop] at hk
    rw [show (S.x.fi + (k : Int) - 1).toNat = (S.x.fi - 1).toNat + k from by omega]
    exact hk
  have hm : p ∈ S.put := List.mem_of_getElem? hp
  refine ⟨1, S.x.ot, S.x.fi + k, S.x.wa, p, ?_, .inl rfl, h.ot, h.ok.w1, by rw [h.wa]; omega, fun _ => ⟨by omega, by omega, hp, h.each p hm⟩, fun h => by omega⟩
  unfold pktB
  rw [h.ep]

theorem Gen.heard {S : Site} {i : Nat} {s : List UInt8} (h : Gen S i s) (hi : i < 2) (hb : S.came.length ≤ 1000000) (hb2 : S.put.length ≤ 1000000) :
    ∃ (kind : Nat) (ot num wa : Int) (piece : List UInt8), IsHeard s ∧ heardOf s = ⟨kind, i + 3, ot.toNat, num.toNat, wa.toNat, piece⟩ ∧ (kind = 1 ∨ kind = 2) ∧ (ot = 0 ∨ ot = ((1 - i : Nat) : Int) + 3) ∧ 1 ≤ wa ∧ wa ≤ S.came.length + 1 ∧
      (kind = 1 → 1 ≤ num ∧ num ≤ S.put.length ∧ S.put[(num - 1).toNat]? = some piece) ∧ (kind = 2 → num = 0 ∧ piece = []) := by
  obtain ⟨kind, ot, num, wa, piece, h1, h2, h3, h4, h5, h6, h7⟩ := h
  have hn : 0 ≤ num ∧ num ≤ 1099511627776 ∧ piece.length ≤ 512 := by
    rcases h2 with h | h
    · obtain ⟨a, b, _, d⟩ := h6 h; omega
    · obtain ⟨a, b⟩ := h7 h; rw [a, b]; simp
  obtain ⟨e1, e2⟩ := pkt_heard (kind := kind) (ep := (i : Int) + 3) (ot := ot) (num := num) (wa := wa) (piece := piece) h2 (by omega) (by omega) (by omega) (by omega) hn.1 hn.2.1 (by omega) (by omega) hn.2.2 h7
  rw [← h1] at e1 e2
  refine ⟨kind, ot, num, wa, piece, e1, ?_, h2, h3, h4, h5, fun hk => ?_, h7⟩
  · rw [e2, show ((i : Int) + 3).toNat = i + 3 from by omega]
  · obtain ⟨a, b, c, _⟩ := h6 hk; exact ⟨a, b, c⟩

/-- What a site is behind a packet. -/
noncomputable def Site.took (T : Site) (s : List UInt8) : Site := ⟨(takeX T.x s).1, T.put, if (takeX T.x s).2.has = true then T.came ++ [(takeX T.x s).2.piece] else T.came⟩

/-- A packet of the other end comes. -/
theorem took_gen {S T : Site} {i j : Nat} {s : List UInt8} (hij : (i = 0 ∧ j = 1) ∨ (i = 1 ∧ j = 0)) (hS : SiteOk S i T) (hT : SiteOk T j S) (hg : Gen S i s) :
    SiteOk (T.took s) j S ∧ SiteOk S i (T.took s) ∧ T.came.length ≤ (T.took s).came.length ∧ ((takeX T.x s).2.reply = [] ∨ Gen (T.took s) j (takeX T.x s).2.reply) := by
  have hcS := hS.came_le
  have hcT := hT.came_le
  obtain ⟨kind, ot, num, wa, piece, g1, g2, g3, g4, g5, g6, g7, g8⟩ := hg.heard (by omega) (by have := hT.few; omega) hS.few
  have hot : T.x.ot = 0 ∨ T.x.ot = (i : Int) + 3 := by
    rcases hT.ot with h | h
    · exact .inl h
    · right; rw [h]; omega
  have hmet : metX T.x ((i + 3 : Nat) : Int) = { T.x with ot := (i : Int) + 3 } := by
    unfold metX
    rcases hot with h | h
    · have hw : T.x.wa = 1 := by rw [hT.wa, (hT.new h).1]; rfl
      rw [if_pos (by rw [h]; omega), if_pos h]
      obtain ⟨⟨e, o, f, w, u⟩, _, _⟩ := T
      simp only at hw
      simp [hw]
    · rw [if_neg (by rw [h]; omega)]
      obtain ⟨⟨e, o, f, w, u⟩, _, _⟩ := T
      simp only at h
      simp [h]
  have hanew : decide (T.x.ot < ((i + 3 : Nat) : Int) ∧ T.x.ot ≠ 0) = false := by
    rw [decide_eq_false_iff_not]
    rcases hot with h | h
    · exact fun ⟨_, b⟩ => b h
    · rw [h]; omega
  have hno : ¬ (¬ IsHeard s ∨ ((heardOf s).n0 : Int) < T.x.ot) := by
    rw [g2]
    rintro (h | h)
    · exact h g1
    · rcases hot with h' | h' <;> (rw [h'] at h; dsimp only at h; omega)
  -- the receiver once it has met the sender
  have hTy : SiteOk ⟨{ T.x with ot := (i : Int) + 3 }, T.put, T.came⟩ j S := ⟨⟨hT.ok.e1, hT.ok.e2, by show 0 ≤ (i : Int) + 3; omega, by show (i : Int) + 3 ≤ _; omega, hT.ok.f1, hT.ok.f2, hT.ok.w1, hT.ok.w2, hT.ok.len, hT.ok.each⟩, hT.ep, .inr (by show (i : Int) + 3 = _; omega), fun h => by have : (i : Int) + 3 = 0 := h; omega, hT.wa, hT.fi, hT.out, hT.fl, hT.pre, hT.each, hT.few⟩
  by_cases hn1 : (ot.toNat : Int) ≠ T.x.ep
  · have ht : takeX T.x s = ({ T.x with ot := (i : Int) + 3 }, ⟨[], false, ackB { T.x with ot := (i : Int) + 3 }, false⟩) := by
      unfold takeX
      rw [if_neg hno]
      simp only [g2, hmet, hanew]
      rw [if_pos hn1]
    unfold Site.took
    rw [ht]
    exact ⟨hTy, ⟨hS.ok, hS.ep, hS.ot, hS.new, hS.wa, hS.fi, hS.out, hS.fl, hS.pre, hS.each, hS.few⟩, Nat.le_refl _, .inr (Gen.ack hTy)⟩
  · -- what is acknowledged goes
    obtain ⟨z, hz⟩ : ∃ z, ackedX { T.x with ot := (i : Int) + 3 } wa = z := ⟨_, rfl⟩
    have hwn : ((wa.toNat : Nat) : Int) = wa := by omega
    have hol := hTy.out_len
    have hTz : SiteOk ⟨z, T.put, T.came⟩ j S := by
      rw [← hz]
      unfold ackedX
      split
      · rename_i hc
        obtain ⟨c1, c2⟩ := hc
        have c1' : T.x.fi ≤ wa := c1
        have hf1 := hT.ok.f1
        refine ⟨⟨hTy.ok.e1, hTy.ok.e2, hTy.ok.o1, hTy.ok.o2, by show 1 ≤ wa; omega, by show wa ≤ _; have := hT.few; omega, hTy.ok.w1, hTy.ok.w2, ?_, fun p hp => hT.ok.each p (List.mem_of_mem_drop hp)⟩, hTy.ep, hTy.ot, fun h => by have : (i : Int) + 3 = 0 := h; omega, hTy.wa, by show wa ≤ _; omega, ?_, by show wa - 1 ≤ (T.put.length : Int); omega, hTy.pre, hTy.each, hTy.few⟩
        · have := hT.ok.len
          show (T.x.out.drop _).length ≤ 64
          rw [List.length_drop]; omega
        · show T.x.out.drop (wa - T.x.fi).toNat = T.put.drop (wa - 1).toNat
          rw [hT.out, List.drop_drop]
          congr 1
          omega
      · exact hTy
    have hzw : z.wa = T.came.length + 1 := hTz.wa
    by_cases hk2 : kind = 2
    · have ht : takeX T.x s = (z, ⟨[], false, [], false⟩) := by
        unfold takeX
        rw [if_neg hno]
        simp only [g2, hmet, hanew]
        rw [if_neg hn1, hwn, hz, if_pos hk2]
      unfold Site.took
      rw [ht]
      exact ⟨hTz, ⟨hS.ok, hS.ep, hS.ot, hS.new, hS.wa, hS.fi, hS.out, hS.fl, hS.pre, hS.each, hS.few⟩, Nat.le_refl _, .inl rfl⟩
    · have hk1 : kind = 1 := by omega
      obtain ⟨n1, n2, n3⟩ := g7 hk1
      have hnn : ((num.toNat : Nat) : Int) = num := by omega
      by_cases hd : num = z.wa ∧ z.wa < 1099511627776
      · have ht : takeX T.x s = ({ z with wa := z.wa + 1 }, ⟨piece, true, ackB { z with wa := z.wa + 1 }, false⟩) := by
          unfold takeX
          rw [if_neg hno]
          simp only [g2, hmet, hanew]
          rw [if_neg hn1, hwn, hz, if_neg hk2, hnn, if_pos hd]
        have hat : S.put[T.came.length]? = some piece := by
          rw [← n3]; congr 1; omega
        have hcl : T.came.length < S.put.length := (List.getElem?_eq_some_iff.1 hat).1
        have hTn : SiteOk ⟨{ z with wa := z.wa + 1 }, T.put, T.came ++ [piece]⟩ j S := by
          refine ⟨⟨hTz.ok.e1, hTz.ok.e2, hTz.ok.o1, hTz.ok.o2, hTz.ok.f1, hTz.ok.f2, ?_, ?_, hTz.ok.len, hTz.ok.each⟩, hTz.ep, hTz.ot, fun h => ?_, ?_, hTz.fi, hTz.out, hTz.fl, ?_, hTz.each, hTz.few⟩
          · show 1 ≤ z.wa + 1; omega
          · show z.wa + 1 ≤ _; omega
          · have : z.ot = (i : Int) + 3 := by rw [← hz]; unfold ackedX; split <;> rfl
            have h' : z.ot = 0 := h
            omega
          · show z.wa + 1 = ((T.came ++ [piece]).length : Int) + 1
            rw [List.length_append, hzw]; simp
          · show T.came ++ [piece] = S.put.take (T.came ++ [piece]).length
            rw [List.length_append]
            show _ = S.put.take (T.came.length + 1)
            obtain ⟨hq1, hq2⟩ := List.getElem?_eq_some_iff.1 hat
            rw [List.take_succ_eq_append_getElem hq1, hq2, ← hT.pre]
        unfold Site.took
        rw [ht]
        refine ⟨hTn, ⟨hS.ok, hS.ep, hS.ot, hS.new, hS.wa, ?_, hS.out, hS.fl, hS.pre, hS.each, hS.few⟩, ?_, .inr (Gen.ack hTn)⟩
        · have := hS.fi
          show S.x.fi ≤ ((T.came ++ [piece]).length : Int) + 1
          rw [List.length_append]; simp; omega
        · show T.came.length ≤ (T.came ++ [piece]).length
          simp
      · have ht : takeX T.x s = (z, ⟨[], false, ackB z, false⟩) := by
          unfold takeX
          rw [if_neg hno]
          simp only [g2, hmet, hanew]
          rw [if_neg hn1, hwn, hz, if_neg hk2, hnn, if_neg hd]
        unfold Site.took
        rw [ht]
        exact ⟨hTz, ⟨hS.ok, hS.ep, hS.ot, hS.new, hS.wa, hS.fi, hS.out, hS.fl, hS.pre, hS.each, hS.few⟩, Nat.le_refl _, .inr (Gen.ack hTz)⟩

/-- A piece more is put. -/
theorem put_gen {S T : Site} {i : Nat} {p : List UInt8} (hS : SiteOk S i T) {j : Nat} (hT : SiteOk T j S) (he : putE15 S.x p = 0) (hb : S.put.length < 1000000) :
    SiteOk ⟨putX S.x p, S.put ++ [p], S.came⟩ i T ∧ SiteOk T j ⟨putX S.x p, S.put ++ [p], S.came⟩ ∧ (putS S.x p = [] ∨ Gen ⟨putX S.x p, S.put ++ [p], S.came⟩ i (putS S.x p)) := by
  have hfl := hS.fl
  have hf1 := hS.ok.f1
  have hol := hS.out_len
  unfold putE15 at he
  split at he
  · omega
  rename_i hp
  split at he
  · omega
  rename_i hq
  have hN : SiteOk ⟨putX S.x p, S.put ++ [p], S.came⟩ i T := by
    refine ⟨⟨hS.ok.e1, hS.ok.e2, hS.ok.o1, hS.ok.o2, hS.ok.f1, hS.ok.f2, hS.ok.w1, hS.ok.w2, ?_, fun q hq' => ?_⟩, hS.ep, hS.ot, hS.new, hS.wa, hS.fi, ?_, ?_, hS.pre, fun q hq' => ?_, ?_⟩
    · show (S.x.out ++ [p]).length ≤ 64
      rw [List.length_append]; simp; omega
    · rcases List.mem_append.1 hq' with h | h
      · exact hS.ok.each q h
      · rw [List.mem_singleton.1 h]; omega
    · show S.x.out ++ [p] = (S.put ++ [p]).drop (S.x.fi - 1).toNat
      rw [List.drop_append_of_le_length (by omega), ← hS.out]
    · show S.x.fi - 1 ≤ ((S.put ++ [p]).length : Int)
      rw [List.length_append]; simp; omega
    · rcases List.mem_append.1 hq' with h | h
      · exact hS.each q h
      · rw [List.mem_singleton.1 h]; omega
    · show (S.put ++ [p]).length ≤ 1000000
      rw [List.length_append]; simp; omega
  refine ⟨hN, ⟨hT.ok, hT.ep, hT.ot, hT.new, hT.wa, hT.fi, hT.out, hT.fl, ?_, hT.each, hT.few⟩, ?_⟩
  · have := hT.came_le
    show T.came = (S.put ++ [p]).take T.came.length
    rw [List.take_append_of_le_length this]
    exact hT.pre
  · unfold putS
    split
    · right
      have := Gen.data (k := S.x.out.length) (p := p) hN (by show (S.x.out ++ [p])[S.x.out.length]? = some p; simp)
      exact this
    · exact .inl rfl
end Go.Proofs.Ytdhmkcomngbmaaa
