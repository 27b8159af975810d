/- Reading a message, plain: what the document's Parse tries, step by step: the bytes of a message pass each step, and what is made of them is the message. -/
import Derived.Test.YtkpoeigoocbgeaaMsgF
import Derived.Test.YtkpoeigoocbgeaaMsDir
namespace Go.Proofs.Ytkpoeigoocbgeaa

theorem eltOf_elt17 {b : Bt} (h1 : 0 ≤ b.vol ∧ b.vol ≤ 255) (h2 : 0 ≤ b.mask ∧ b.mask ≤ 4294967295) (r : List UInt8) : eltOf (eltB b ++ r) = b ∧ (eltB b ++ r).drop 5 = r := by
  constructor
  · unfold eltOf eltB
    refine Bt.ext_ ?_ ?_
    · show ((dec ((enc 1 b.vol.toNat ++ enc 4 b.mask.toNat ++ r).take 1) : Nat) : Int) = b.vol
      rw [List.append_assoc, take_enc, dec_enc_of_lt (by omega)]; omega
    · show ((dec (((enc 1 b.vol.toNat ++ enc 4 b.mask.toNat ++ r).drop 1).take 4) : Nat) : Int) = b.mask
      rw [List.append_assoc, drop_enc, take_enc, dec_enc_of_lt (by omega)]; omega
  · rw [List.drop_append_of_le_length (by rw [eltB_length]; exact Nat.le_refl _), List.drop_of_length_le (by rw [eltB_length]; exact Nat.le_refl _)]; rfl
theorem parseN_elts17 {last : Int} {m : List Bt} (h : bitsFrom last m = true) (h0 : 0 ≤ last) (hp : ∀ b ∈ m, 0 ≤ b.mask) (r : List UInt8) : parseN m.length (eltsB m ++ r) = m := by
  induction m generalizing last with
  | nil => rfl
  | cons b s ih =>
    obtain ⟨h1, h2⟩ := bitsFrom_cons h
    have hb := hp b List.mem_cons_self
    have e : eltsB (b :: s) ++ r = eltB b ++ (eltsB s ++ r) := by unfold eltsB; simp
    obtain ⟨g1, g2⟩ := eltOf_elt17 (b := b) ⟨by omega, h1.2.1⟩ ⟨hb, h1.2.2.2⟩ (eltsB s ++ r)
    rw [e, List.length_cons, parseN, g1, g2, ih h2 (by omega) fun x hx => hp x (List.mem_cons_of_mem _ hx)]
theorem parse_bytes17 {m : List Bt} (h : bitsOk m = true) (hp : ∀ b ∈ m, 0 ≤ b.mask) (r : List UInt8) : parE (bitsB m ++ r) = 0 ∧ parM (bitsB m ++ r) = m ∧ parR (bitsB m ++ r) = r := by
  rw [show bitsB m = bytM m from rfl]
  have hl := bitsOk_length h
  have hN : parN (bytM m ++ r) = m.length := by
    unfold parN bytM
    rw [List.append_assoc, take_enc, dec_enc_of_lt (by omega)]
  have hd : (bytM m ++ r).drop 1 = eltsB m ++ r := by unfold bytM; rw [List.append_assoc, drop_enc]
  have hlen : (bytM m ++ r).length = 1 + m.length * 5 + r.length := by unfold bytM; rw [List.length_append, List.length_append, enc_length, eltsB_length]
  obtain ⟨g1, g2, g3⟩ := parE_ok (l := bytM m ++ r) (by omega) (by rw [hN, hlen]; omega) (by rw [hN, hd, parseN_elts17 h (by omega) hp]; exact h)
  refine ⟨g1, by rw [g2, hN, hd, parseN_elts17 h (by omega) hp], ?_⟩
  rw [g3, hN, ← List.drop_drop, hd, List.drop_append_of_le_length (by rw [eltsB_length]; omega), List.drop_of_length_le (by rw [eltsB_length]; omega)]
  rfl

/-- Where the parts of a message would stand. -/
def pP (s : List UInt8) : Nat := 10 + 16 * lnN (s.drop 9)
def pQ (s : List UInt8) : Nat := pP s + 26 + 16 * lnN (s.drop (pP s + 25))
def pR (s : List UInt8) : List UInt8 := parR (s.drop (pQ s + 8))
def pN (s : List UInt8) : Nat := dec ((pR s).take 1)
def cand (s : List UInt8) (ws : List Wr) : Mg where
  kind := dec (s.take 1)
  epoch := atN s 1 8
  line := lnL (s.drop 9)
  seq := atN s (pP s) 8
  n := atN s (pP s + 8) 8
  of_ := atN s (pP s + 16) 8
  full := decide (dec ((s.drop (pP s + 24)).take 1) = 1)
  anc := lnL (s.drop (pP s + 25))
  ancS := atN s (pQ s) 8
  bits := parM (s.drop (pQ s + 8))
  sizes := (((pR s).drop 1).take (pN s)).map (fun c => (c.toNat : Int))
  from_ := atN (pR s) (1 + pN s) 8
  to_ := atN (pR s) (9 + pN s) 8
  ws := ws
structure CandOk (s : List UInt8) (ws : List Wr) : Prop where
  line : lnOk (s.drop 9) = true
  anc : lnOk (s.drop (pP s + 25)) = true
  len : pQ s + 8 ≤ s.length
  bits : parE (s.drop (pQ s + 8)) = 0
  rest : pR s ≠ []
  ws : wsAt ((pR s).drop (1 + pN s + 16)) = some (ws, [])
theorem atN_enc17 {s r : List UInt8} {k : Nat} {n : Int} (hn : fitB n = true) (h : s.drop k = enc 8 n.toNat ++ r) : (atN s k 8 : Int) = n := by
  rw [fitB_iff] at hn
  have hl := congrArg List.length h
  rw [List.length_drop, List.length_append, enc_length] at hl
  have hd : dec ((s.drop k).take 8) = n.toNat := by rw [h, take_enc, dec_enc_of_lt (by omega)]
  unfold atN
  rw [if_pos ((atOk_iff _ _ _).2 ⟨by omega, by rw [hd]; omega⟩), hd]
  omega
theorem enc1_flat : ∀ (l : List Int), l.flatMap (fun n => enc 1 n.toNat) = l.map (fun n => UInt8.ofNat n.toNat)
  | [] => rfl
  | n :: l => by rw [List.flatMap_cons, List.map_cons, enc1_flat l, enc_one]; rfl
theorem sizes_back : ∀ {l : List Int}, (∀ x ∈ l, 0 ≤ x ∧ x ≤ 255) → (l.map (fun n => UInt8.ofNat n.toNat)).map (fun c => ((c.toNat : Nat) : Int)) = l
  | [], _ => rfl
  | n :: l, h => by
    have hn := h n (by simp)
    rw [List.map_cons, List.map_cons, sizes_back (fun x hx => h x (List.mem_cons_of_mem _ hx)), u8_of]
    congr 1
    omega
theorem drop_two {α : Type} (s : List α) (i j : Nat) : s.drop (i + j) = (s.drop i).drop j := by rw [List.drop_drop]
theorem told_cand {s : List UInt8} {m : Mg} (h : Told s m) : CandOk s m.ws ∧ cand s m.ws = m := by
  obtain ⟨hm, hs⟩ := h
  obtain ⟨an1, an2⟩ := anc_fit hm.anc
  obtain ⟨sz1, sz2⟩ := blankOk_each hm.sizes
  obtain ⟨R3, hR3⟩ : ∃ R, R = szB m.sizes ++ (enc 8 m.from_.toNat ++ (enc 8 m.to_.toNat ++ writesB m.ws)) := ⟨_, rfl⟩
  obtain ⟨R2, hR2⟩ : ∃ R, R = enc 8 m.ancS.toNat ++ (bitsB m.bits ++ R3) := ⟨_, rfl⟩
  obtain ⟨R1, hR1⟩ : ∃ R, R = enc 8 m.seq.toNat ++ (enc 8 m.n.toNat ++ (enc 8 m.of_.toNat ++ (enc 1 (fullN m.full) ++ (lineB m.anc ++ R2)))) := ⟨_, rfl⟩
  have e0 : s = enc 1 m.kind.toNat ++ (enc 8 m.epoch.toNat ++ (lineB m.line ++ R1)) := by rw [← hs, hR1, hR2, hR3]; rfl
  have e1 : s.drop 1 = enc 8 m.epoch.toNat ++ (lineB m.line ++ R1) := by rw [e0, drop_enc]
  have e9 : s.drop 9 = lineB m.line ++ R1 := by rw [show (9 : Nat) = 1 + 8 from rfl, drop_two, e1, drop_enc]
  obtain ⟨l1, l2, l3, l4⟩ := ln_back hm.line R1
  rw [← e9] at l1 l2 l3 l4
  have hP : s.drop (pP s) = R1 := by
    unfold lnR at l4
    unfold pP
    rw [show 10 + 16 * lnN (s.drop 9) = 9 + (1 + 16 * lnN (s.drop 9)) from by omega, drop_two]
    exact l4
  have p8 : s.drop (pP s + 8) = enc 8 m.n.toNat ++ (enc 8 m.of_.toNat ++ (enc 1 (fullN m.full) ++ (lineB m.anc ++ R2))) := by rw [drop_two, hP, hR1, drop_enc]
  have p16 : s.drop (pP s + 16) = enc 8 m.of_.toNat ++ (enc 1 (fullN m.full) ++ (lineB m.anc ++ R2)) := by rw [show pP s + 16 = pP s + 8 + 8 from rfl, drop_two, p8, drop_enc]
  have p24 : s.drop (pP s + 24) = enc 1 (fullN m.full) ++ (lineB m.anc ++ R2) := by rw [show pP s + 24 = pP s + 16 + 8 from rfl, drop_two, p16, drop_enc]
  have p25 : s.drop (pP s + 25) = lineB m.anc ++ R2 := by rw [show pP s + 25 = pP s + 24 + 1 from rfl, drop_two, p24, drop_enc]
  obtain ⟨a1, a2, a3, a4⟩ := ln_back an1 R2
  rw [← p25] at a1 a2 a3 a4
  have hQ : s.drop (pQ s) = R2 := by
    unfold lnR at a4
    unfold pQ
    rw [show pP s + 26 + 16 * lnN (s.drop (pP s + 25)) = pP s + 25 + (1 + 16 * lnN (s.drop (pP s + 25))) from by omega, drop_two]
    exact a4
  have q8 : s.drop (pQ s + 8) = bitsB m.bits ++ R3 := by rw [drop_two, hQ, hR2, drop_enc]
  have qlen : pQ s + 8 ≤ s.length := by
    have := congrArg List.length hQ
    rw [hR2, List.length_drop, List.length_append, enc_length] at this
    omega
  obtain ⟨b1, b2, b3⟩ := parse_bytes17 hm.bits.1 hm.bits.2 R3
  rw [← q8] at b1 b2 b3
  have hR : pR s = R3 := b3
  have r0 : R3 = enc 1 m.sizes.length ++ (m.sizes.map (fun n => UInt8.ofNat n.toNat) ++ (enc 8 m.from_.toNat ++ (enc 8 m.to_.toNat ++ writesB m.ws))) := by rw [hR3]; unfold szB; rw [enc1_flat, List.append_assoc]
  have hN : pN s = m.sizes.length := by unfold pN; rw [hR, r0, take_enc, dec_enc_of_lt (by omega)]
  have r1 : R3.drop 1 = m.sizes.map (fun n => UInt8.ofNat n.toNat) ++ (enc 8 m.from_.toNat ++ (enc 8 m.to_.toNat ++ writesB m.ws)) := by rw [r0, drop_enc]
  have rn : R3.drop (1 + pN s) = enc 8 m.from_.toNat ++ (enc 8 m.to_.toNat ++ writesB m.ws) := by
    rw [drop_two, r1, hN, List.drop_append_of_le_length (by simp), List.drop_of_length_le (by simp)]; rfl
  have rn8 : R3.drop (9 + pN s) = enc 8 m.to_.toNat ++ writesB m.ws := by rw [show 9 + pN s = 1 + pN s + 8 from by omega, drop_two, rn, drop_enc]
  have rn16 : R3.drop (1 + pN s + 16) = writesB m.ws := by rw [show 1 + pN s + 16 = 9 + pN s + 8 from by omega, drop_two, rn8, drop_enc]
  refine ⟨⟨l1, a1, qlen, b1, ?_, ?_⟩, ?_⟩
  · rw [hR, r0]
    intro e
    have := congrArg List.length e
    rw [List.length_append, enc_length] at this
    simp at this
  · have := ws_back hm.ws []
    rw [List.append_nil] at this
    rw [hR, rn16, this]
  · have k0 : ((dec (s.take 1) : Nat) : Int) = m.kind := by
      have := hm.kind
      rw [e0, take_enc, dec_enc_of_lt (by omega)]; omega
    have kf : decide (dec ((s.drop (pP s + 24)).take 1) = 1) = m.full := by
      rw [p24, take_enc, dec_enc_of_lt (by unfold fullN; split <;> omega)]
      unfold fullN
      cases m.full <;> rfl
    have ks : (((pR s).drop 1).take (pN s)).map (fun c => (c.toNat : Int)) = m.sizes := by
      rw [hR, r1, hN]
      have : ((m.sizes.map (fun n => UInt8.ofNat n.toNat)) ++ (enc 8 m.from_.toNat ++ (enc 8 m.to_.toNat ++ writesB m.ws))).take m.sizes.length = m.sizes.map (fun n => UInt8.ofNat n.toNat) := by
        rw [List.take_append_of_le_length (by simp), List.take_of_length_le (by simp)]
      rw [this]
      exact sizes_back sz2
    have k1 := atN_enc17 hm.epoch e1
    have k2 := atN_enc17 hm.seq (hP.trans hR1)
    have k3 := atN_enc17 hm.n p8
    have k4 := atN_enc17 hm.of_ p16
    have k5 := atN_enc17 an2 (hQ.trans hR2)
    have k6 := atN_enc17 hm.from_ (by rw [hR]; exact rn : (pR s).drop (1 + pN s) = _)
    have k7 := atN_enc17 hm.to_ (by rw [hR]; exact rn8 : (pR s).drop (9 + pN s) = _)
    obtain ⟨f0, f1, f2, f3, f4, f5, f6, f7, f8, f9, f10, f11, f12, f13⟩ := m
    unfold cand
    dsimp only at *
    rw [k0, k1, l3, k2, k3, k4, kf, a3, k5, b2, ks, k6, k7]
/-- Where a step fails there is no message. -/
theorem told_not {s : List UInt8} (h : ∀ ws, CandOk s ws → ¬ Told s (cand s ws)) : ∀ m, ¬ Told s m := fun m hm => by
  obtain ⟨h1, h2⟩ := told_cand hm
  exact h _ h1 (by rw [h2]; exact hm)
end Go.Proofs.Ytkpoeigoocbgeaa
