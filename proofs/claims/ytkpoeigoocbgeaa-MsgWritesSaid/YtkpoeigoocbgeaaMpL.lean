/- The program's Parse, plain: what its reader has behind each part, which message that makes, and that the bytes are that message's just if nothing lacked. No program in sight. -/
import Derived.Test.YtkpoeigoocbgeaaMpG
namespace Go.Proofs.Ytkpoeigoocbgeaa

theorem rNum_bytes {k : Nat} (h1 : 1 ≤ k) (h8 : k ≤ 8) {s : Rd} (h : (rNum (k : Int) s).2 = false) : s.2 = false ∧ s.1 = enc k (numN s.1 (k : Int)).toNat ++ (rNum (k : Int) s).1 := by
  obtain ⟨a, b, c⟩ := rNum_ok h
  have hl := ((numE_iff17 h1 h8).1 b).1
  refine ⟨a, ?_⟩
  rw [c, numN_ok b, Int.toNat_natCast, enc_take hl, List.take_append_drop]
theorem rNum_enc {k v : Nat} (h1 : 1 ≤ k) (h8 : k ≤ 8) (hv : v < 256 ^ k) (hm : v ≤ 9223372036854775807) (r : List UInt8) (b : Bool) : rNum (k : Int) (enc k v ++ r, b) = (r, b) ∧ numN (enc k v ++ r) (k : Int) = v := by
  have e := numE_enc h1 h8 hv hm r
  refine ⟨?_, numN_enc h1 h8 hv hm r⟩
  unfold rNum
  dsimp only
  rw [numR_enc h1 h8 hv hm r, e]
  simp
theorem numN_one_le {r : List UInt8} (h : ¬ 1 < numN r 1) : numN r 1 = 0 ∨ numN r 1 = 1 := by have := numN_bound r 1; omega
theorem rFl_bytes {s : Rd} (h : (rFl s).2 = false) : s.2 = false ∧ s.1 = enc 1 (fullN (decide (numN s.1 1 = 1))) ++ (rFl s).1 := by
  unfold rFl at h ⊢
  dsimp only at h ⊢
  rw [Bool.or_eq_false_iff, decide_eq_false_iff_not] at h
  obtain ⟨h1, h2⟩ := rNum_bytes (k := 1) (by omega) (by omega) h.1
  refine ⟨h1, ?_⟩
  rw [show ((1 : Nat) : Int) = 1 from rfl] at h2
  have e : (numN s.1 1).toNat = fullN (decide (numN s.1 1 = 1)) := by
    unfold fullN
    rcases numN_one_le h.2 with h | h <;> rw [h] <;> rfl
  rw [← e]
  exact h2
theorem rFl_enc (q : Bool) (r : List UInt8) (b : Bool) : rFl (enc 1 (fullN q) ++ r, b) = (r, b) ∧ decide (numN (enc 1 (fullN q) ++ r) 1 = 1) = q := by
  obtain ⟨h1, h2⟩ := rNum_enc (k := 1) (v := fullN q) (by omega) (by omega) (by unfold fullN; split <;> omega) (by unfold fullN; split <;> omega) r b
  rw [show ((1 : Nat) : Int) = 1 from rfl] at h1 h2
  unfold rFl
  dsimp only
  rw [h1, h2]
  cases q <;> simp [fullN]
theorem rLn_bytes {s : Rd} (h : (rLn s).2 = false) : s.2 = false ∧ s.1 = lineB (vLn s.1) ++ (rLn s).1 := by
  unfold rLn vLn at *
  dsimp only at h ⊢
  rw [Bool.or_eq_false_iff, Bool.not_eq_false'] at h
  refine ⟨h.1, ?_⟩
  rw [if_pos h.2, if_pos h.2]
  exact (ln_bytes h.2).2
theorem rLn_enc {l : List Br} (h : lined l = true) (r : List UInt8) (b : Bool) : rLn (lineB l ++ r, b) = (r, b) ∧ vLn (lineB l ++ r) = l := by
  obtain ⟨h1, _, h3, h4⟩ := ln_back h r
  unfold rLn vLn
  dsimp only
  rw [if_pos h1, if_pos h1, h1, h3, h4]
  simp
def encs17 (l : List Int) : List UInt8 := l.flatMap fun n => enc 1 n.toNat
theorem encs17_cons (x : Int) (l : List Int) : encs17 (x :: l) = enc 1 x.toNat ++ encs17 l := rfl
theorem elts_all : ∀ (n : Nat) (r : List UInt8), n * 5 ≤ r.length → eltsB (parseN n r) = r.take (n * 5)
  | 0, r, _ => by rw [Nat.zero_mul, List.take_zero]; rfl
  | n + 1, r, h => by
    have ih := elts_all n (r.drop 5) (by rw [List.length_drop]; omega)
    rw [show eltsB (parseN (n + 1) r) = eltB (eltOf r) ++ eltsB (parseN n (r.drop 5)) from by unfold eltsB; rw [parseN]; simp, ih, show (n + 1) * 5 = 5 + n * 5 from by omega, List.take_add]
    congr 1
    unfold eltB eltOf
    dsimp only
    rw [Int.toNat_natCast, Int.toNat_natCast, enc_take (by omega), enc_take (by rw [List.length_drop]; omega), show (5 : Nat) = 1 + 4 from rfl, List.take_add]
theorem rBt_bytes {s : Rd} (h : (rBt s).2 = false) : s.2 = false ∧ s.1 = bitsB (parM s.1) ++ (rBt s).1 := by
  unfold rBt at *
  dsimp only at h ⊢
  rw [Bool.or_eq_false_iff, decide_eq_false_iff_not, Decidable.not_not] at h
  refine ⟨h.1, ?_⟩
  have hp := h.2
  have hc : ¬ (s.1.length = 0 ∨ s.1.length - 1 < 5 * parN s.1) := by
    intro hc
    unfold parE at hp
    rw [if_pos hc] at hp
    omega
  unfold parM parR
  rw [if_pos hp, if_pos hp, show bitsB (parseN (parN s.1) (s.1.drop 1)) = bytM (parseN (parN s.1) (s.1.drop 1)) from rfl]
  unfold bytM
  rw [parseN_length, elts_all _ _ (by rw [List.length_drop]; omega)]
  unfold parN
  rw [enc_take (by omega), Nat.mul_comm 5, List.append_assoc]
  have e : ((s.1.drop 1).take (dec (s.1.take 1) * 5)) ++ s.1.drop (1 + dec (s.1.take 1) * 5) = s.1.drop 1 := by
    rw [← List.drop_drop, List.take_append_drop]
  rw [e, List.take_append_drop]
theorem rBt_enc {m : List Bt} (h : BitsOk m) (r : List UInt8) (b : Bool) : rBt (bitsB m ++ r, b) = (r, b) ∧ parM (bitsB m ++ r) = m := by
  obtain ⟨h1, h2, h3⟩ := parse_bytes17 h.1 h.2 r
  unfold rBt
  dsimp only
  rw [h1, h2, h3]
  simp
theorem sz_all : ∀ (n : Nat) {s : Rd}, (itN szStep n s).2 = false → s.2 = false ∧ s.1 = encs17 (elN szEl szStep n s) ++ (itN szStep n s).1
  | 0, s, h => ⟨h, rfl⟩
  | n + 1, s, h => by
    obtain ⟨h1, h2⟩ := sz_all n (s := szStep s) h
    obtain ⟨g1, g2⟩ := rNum_bytes (k := 1) (by omega) (by omega) (s := s) h1
    refine ⟨g1, ?_⟩
    show s.1 = encs17 (szEl s :: elN szEl szStep n (szStep s)) ++ (itN szStep n (szStep s)).1
    rw [encs17_cons, List.append_assoc, ← h2]
    exact g2
theorem sz_enc : ∀ {l : List Int} (r : List UInt8) (b : Bool), (∀ x ∈ l, 0 ≤ x ∧ x ≤ 255) → itN szStep l.length (encs17 l ++ r, b) = (r, b) ∧ elN szEl szStep l.length (encs17 l ++ r, b) = l
  | [], r, b, _ => ⟨rfl, rfl⟩
  | x :: l, r, b, h => by
    have hx := h x (by simp)
    obtain ⟨h1, h2⟩ := rNum_enc (k := 1) (v := x.toNat) (by omega) (by omega) (by omega) (by omega) (encs17 l ++ r) b
    rw [show ((1 : Nat) : Int) = 1 from rfl] at h1 h2
    obtain ⟨g1, g2⟩ := sz_enc (l := l) r b (fun y hy => h y (List.mem_cons_of_mem _ hy))
    rw [encs17_cons, List.append_assoc]
    constructor
    · show itN szStep l.length (rNum 1 (enc 1 x.toNat ++ (encs17 l ++ r), b)) = _
      rw [h1, g1]
    · show szEl (enc 1 x.toNat ++ (encs17 l ++ r), b) :: elN szEl szStep l.length (rNum 1 (enc 1 x.toNat ++ (encs17 l ++ r), b)) = _
      rw [h1, g2]
      unfold szEl
      rw [h2]
      congr 1
      omega
theorem rSz_bytes {s : Rd} (h : (rSz s).2 = false) : s.2 = false ∧ s.1 = szB (vSz s) ++ (rSz s).1 := by
  unfold rSz vSz at *
  obtain ⟨h1, h2⟩ := sz_all _ h
  obtain ⟨g1, g2⟩ := rNum_bytes (k := 1) (by omega) (by omega) (s := s) h1
  refine ⟨g1, ?_⟩
  rw [show ((1 : Nat) : Int) = 1 from rfl] at g2
  unfold szB
  rw [elN_length, List.append_assoc, show (elN szEl szStep (tlN s.1) (rNum 1 s)).flatMap (fun n => enc 1 n.toNat) = encs17 (elN szEl szStep (tlN s.1) (rNum 1 s)) from rfl, ← h2]
  exact g2
theorem rSz_enc {l : List Int} (hl : l.length ≤ 255) (h : ∀ x ∈ l, 0 ≤ x ∧ x ≤ 255) (r : List UInt8) (b : Bool) : rSz (szB l ++ r, b) = (r, b) ∧ vSz (szB l ++ r, b) = l := by
  obtain ⟨h1, h2⟩ := rNum_enc (k := 1) (v := l.length) (by omega) (by omega) (by omega) (by omega) (encs17 l ++ r) b
  rw [show ((1 : Nat) : Int) = 1 from rfl] at h1 h2
  have e : szB l ++ r = enc 1 l.length ++ (encs17 l ++ r) := by unfold szB; rw [List.append_assoc]; rfl
  have hn : tlN (szB l ++ r) = l.length := by unfold tlN; rw [e, h2]; omega
  unfold rSz vSz
  dsimp only
  rw [hn, e, h1]
  exact sz_enc r b h

/-! ### The message -/
def p1 (s : List UInt8) : Rd := rNum 1 (s, false)
def p2 (s : List UInt8) : Rd := rNum 8 (p1 s)
def p3 (s : List UInt8) : Rd := rLn (p2 s)
def p4 (s : List UInt8) : Rd := rNum 8 (p3 s)
def p5 (s : List UInt8) : Rd := rNum 8 (p4 s)
def p6 (s : List UInt8) : Rd := rNum 8 (p5 s)
def p7 (s : List UInt8) : Rd := rFl (p6 s)
def p8 (s : List UInt8) : Rd := rLn (p7 s)
def p9 (s : List UInt8) : Rd := rNum 8 (p8 s)
def p10 (s : List UInt8) : Rd := rBt (p9 s)
def p11 (s : List UInt8) : Rd := rSz (p10 s)
def p12 (s : List UInt8) : Rd := rNum 8 (p11 s)
def p13 (s : List UInt8) : Rd := rNum 8 (p12 s)
/-- What the parts make. -/
def pm (s : List UInt8) (ws : List Wr) : Mg where
  kind := numN s 1
  epoch := numN (p1 s).1 8
  line := vLn (p2 s).1
  seq := numN (p3 s).1 8
  n := numN (p4 s).1 8
  of_ := numN (p5 s).1 8
  full := decide (numN (p6 s).1 1 = 1)
  anc := vLn (p7 s).1
  ancS := numN (p8 s).1 8
  bits := parM (p9 s).1
  sizes := vSz (p10 s)
  from_ := numN (p11 s).1 8
  to_ := numN (p12 s).1 8
  ws := ws
theorem pm_bytes {s : List UInt8} {ws : List Wr} (h : (p13 s).2 = false) (hw : wsAt (p13 s).1 = some (ws, [])) : mgB (pm s ws) = s := by
  obtain ⟨h12, e13⟩ := rNum_bytes (k := 8) (by omega) (by omega) h
  obtain ⟨h11, e12⟩ := rNum_bytes (k := 8) (by omega) (by omega) h12
  obtain ⟨h10, e11⟩ := rSz_bytes h11
  obtain ⟨h9, e10⟩ := rBt_bytes h10
  obtain ⟨h8, e9⟩ := rNum_bytes (k := 8) (by omega) (by omega) h9
  obtain ⟨h7, e8⟩ := rLn_bytes h8
  obtain ⟨h6, e7⟩ := rFl_bytes h7
  obtain ⟨h5, e6⟩ := rNum_bytes (k := 8) (by omega) (by omega) h6
  obtain ⟨h4, e5⟩ := rNum_bytes (k := 8) (by omega) (by omega) h5
  obtain ⟨h3, e4⟩ := rNum_bytes (k := 8) (by omega) (by omega) h4
  obtain ⟨h2, e3⟩ := rLn_bytes h3
  obtain ⟨h1, e2⟩ := rNum_bytes (k := 8) (by omega) (by omega) h2
  obtain ⟨_, e1⟩ := rNum_bytes (k := 1) (by omega) (by omega) h1
  have ew := ws_bytes hw
  rw [List.append_nil] at ew
  unfold mgB pm
  dsimp only
  rw [← ew]
  have e13' : (p12 s).1 = enc 8 (numN (p12 s).1 8).toNat ++ (p13 s).1 := e13
  have e12' : (p11 s).1 = enc 8 (numN (p11 s).1 8).toNat ++ (p12 s).1 := e12
  have e11' : (p10 s).1 = szB (vSz (p10 s)) ++ (p11 s).1 := e11
  have e10' : (p9 s).1 = bitsB (parM (p9 s).1) ++ (p10 s).1 := e10
  have e9' : (p8 s).1 = enc 8 (numN (p8 s).1 8).toNat ++ (p9 s).1 := e9
  have e8' : (p7 s).1 = lineB (vLn (p7 s).1) ++ (p8 s).1 := e8
  have e7' : (p6 s).1 = enc 1 (fullN (decide (numN (p6 s).1 1 = 1))) ++ (p7 s).1 := e7
  have e6' : (p5 s).1 = enc 8 (numN (p5 s).1 8).toNat ++ (p6 s).1 := e6
  have e5' : (p4 s).1 = enc 8 (numN (p4 s).1 8).toNat ++ (p5 s).1 := e5
  have e4' : (p3 s).1 = enc 8 (numN (p3 s).1 8).toNat ++ (p4 s).1 := e4
  have e3' : (p2 s).1 = lineB (vLn (p2 s).1) ++ (p3 s).1 := e3
  have e2' : (p1 s).1 = enc 8 (numN (p1 s).1 8).toNat ++ (p2 s).1 := e2
  have e1' : s = enc 1 (numN s 1).toNat ++ (p1 s).1 := e1
  rw [← e13', ← e12', ← e11', ← e10', ← e9', ← e8', ← e7', ← e6', ← e5', ← e4', ← e3', ← e2', ← e1']
theorem pm_yes {s : List UInt8} {ws : List Wr} (h : (p13 s).2 = false) (hw : wsAt (p13 s).1 = some (ws, [])) (hm : MgOk (pm s ws)) : Told s (pm s ws) := ⟨hm, pm_bytes h hw⟩
theorem pm_told {s : List UInt8} {m : Mg} (h : Told s m) : (p13 s).2 = false ∧ wsAt (p13 s).1 = some (m.ws, []) ∧ pm s m.ws = m := by
  obtain ⟨hm, hs⟩ := h
  obtain ⟨an1, an2⟩ := anc_fit hm.anc
  obtain ⟨sz1, sz2⟩ := blankOk_each hm.sizes
  have fit : ∀ {n : Int} (_ : fitB n = true) (r : List UInt8), rNum 8 (enc 8 n.toNat ++ r, false) = (r, false) ∧ numN (enc 8 n.toNat ++ r) 8 = n := fun {n} hn r => by
    rw [fitB_iff] at hn
    obtain ⟨a, b⟩ := rNum_enc (k := 8) (v := n.toNat) (by omega) (by omega) (by omega) (by omega) r false
    refine ⟨a, ?_⟩
    rw [show (8 : Int) = ((8 : Nat) : Int) from rfl, b]
    omega
  subst hs
  have hk := hm.kind
  obtain ⟨a1, b1⟩ := rNum_enc (k := 1) (v := m.kind.toNat) (by omega) (by omega) (by omega) (by omega) (enc 8 m.epoch.toNat ++ (lineB m.line ++ (enc 8 m.seq.toNat ++ (enc 8 m.n.toNat ++ (enc 8 m.of_.toNat ++ (enc 1 (fullN m.full) ++ (lineB m.anc ++ (enc 8 m.ancS.toNat ++ (bitsB m.bits ++ (szB m.sizes ++ (enc 8 m.from_.toNat ++ (enc 8 m.to_.toNat ++ writesB m.ws)))))))))))) false
  have q1 : p1 (mgB m) = _ := a1
  have v1 : numN (mgB m) 1 = m.kind := by
    have : numN (mgB m) 1 = (m.kind.toNat : Int) := b1
    rw [this]; omega
  have q2 : p2 (mgB m) = _ := (congrArg (rNum 8) q1).trans (fit hm.epoch _).1
  have v2 : numN (p1 (mgB m)).1 8 = m.epoch := by rw [q1]; exact (fit hm.epoch _).2
  have q3 : p3 (mgB m) = _ := (congrArg (rLn) q2).trans (rLn_enc hm.line _ _).1
  have v3 : vLn (p2 (mgB m)).1 = m.line := by rw [q2]; exact (rLn_enc hm.line _ false).2
  have q4 : p4 (mgB m) = _ := (congrArg (rNum 8) q3).trans (fit hm.seq _).1
  have v4 : numN (p3 (mgB m)).1 8 = m.seq := by rw [q3]; exact (fit hm.seq _).2
  have q5 : p5 (mgB m) = _ := (congrArg (rNum 8) q4).trans (fit hm.n _).1
  have v5 : numN (p4 (mgB m)).1 8 = m.n := by rw [q4]; exact (fit hm.n _).2
  have q6 : p6 (mgB m) = _ := (congrArg (rNum 8) q5).trans (fit hm.of_ _).1
  have v6 : numN (p5 (mgB m)).1 8 = m.of_ := by rw [q5]; exact (fit hm.of_ _).2
  have q7 : p7 (mgB m) = _ := (congrArg (rFl) q6).trans (rFl_enc _ _ _).1
  have v7 : decide (numN (p6 (mgB m)).1 1 = 1) = m.full := by rw [q6]; exact (rFl_enc _ _ false).2
  have q8 : p8 (mgB m) = _ := (congrArg (rLn) q7).trans (rLn_enc an1 _ _).1
  have v8 : vLn (p7 (mgB m)).1 = m.anc := by rw [q7]; exact (rLn_enc an1 _ false).2
  have q9 : p9 (mgB m) = _ := (congrArg (rNum 8) q8).trans (fit an2 _).1
  have v9 : numN (p8 (mgB m)).1 8 = m.ancS := by rw [q8]; exact (fit an2 _).2
  have q10 : p10 (mgB m) = _ := (congrArg (rBt) q9).trans (rBt_enc hm.bits _ _).1
  have v10 : parM (p9 (mgB m)).1 = m.bits := by rw [q9]; exact (rBt_enc hm.bits _ false).2
  have q11 : p11 (mgB m) = _ := (congrArg (rSz) q10).trans (rSz_enc (by omega) sz2 _ _).1
  have v11 : vSz (p10 (mgB m)) = m.sizes := by rw [q10]; exact (rSz_enc (by omega) sz2 _ _).2
  have q12 : p12 (mgB m) = _ := (congrArg (rNum 8) q11).trans (fit hm.from_ _).1
  have v12 : numN (p11 (mgB m)).1 8 = m.from_ := by rw [q11]; exact (fit hm.from_ _).2
  have q13 : p13 (mgB m) = _ := (congrArg (rNum 8) q12).trans (fit hm.to_ _).1
  have v13 : numN (p12 (mgB m)).1 8 = m.to_ := by rw [q12]; exact (fit hm.to_ _).2
  refine ⟨by rw [q13], ?_, ?_⟩
  · rw [q13]
    have := ws_back hm.ws []
    rw [List.append_nil] at this
    exact this
  · unfold pm
    rw [v1, v2, v3, v4, v5, v6, v7, v8, v9, v10, v11, v12, v13]
/-- Where a part lacks, or what the parts make is no message, there is none. -/
theorem pm_no {s : List UInt8} (h : ∀ ws, (p13 s).2 = false → wsAt (p13 s).1 = some (ws, []) → ¬ MgOk (pm s ws)) : ∀ m, ¬ Told s m := fun m hm => by
  obtain ⟨h1, h2, h3⟩ := pm_told hm
  exact h _ h1 h2 (by rw [h3]; exact hm.1)
theorem p_le (s : List UInt8) : (p1 s).1.length ≤ s.length ∧ (p2 s).1.length ≤ s.length ∧ (p3 s).1.length ≤ s.length ∧ (p4 s).1.length ≤ s.length ∧ (p5 s).1.length ≤ s.length ∧ (p6 s).1.length ≤ s.length ∧ (p7 s).1.length ≤ s.length ∧ (p8 s).1.length ≤ s.length ∧ (p9 s).1.length ≤ s.length ∧ (p10 s).1.length ≤ s.length ∧ (p11 s).1.length ≤ s.length ∧ (p12 s).1.length ≤ s.length ∧ (p13 s).1.length ≤ s.length := by
  have h1 : (p1 s).1.length ≤ s.length := rNum_le _ _
  have h2 : (p2 s).1.length ≤ s.length := Nat.le_trans (rNum_le _ _) h1
  have h3 : (p3 s).1.length ≤ s.length := Nat.le_trans (rLn_le _) h2
  have h4 : (p4 s).1.length ≤ s.length := Nat.le_trans (rNum_le _ _) h3
  have h5 : (p5 s).1.length ≤ s.length := Nat.le_trans (rNum_le _ _) h4
  have h6 : (p6 s).1.length ≤ s.length := Nat.le_trans (rNum_le _ _) h5
  have h7 : (p7 s).1.length ≤ s.length := Nat.le_trans (rFl_le _) h6
  have h8 : (p8 s).1.length ≤ s.length := Nat.le_trans (rLn_le _) h7
  have h9 : (p9 s).1.length ≤ s.length := Nat.le_trans (rNum_le _ _) h8
  have h10 : (p10 s).1.length ≤ s.length := Nat.le_trans (rBt_le _) h9
  have h11 : (p11 s).1.length ≤ s.length := Nat.le_trans (rSz_le _) h10
  have h12 : (p12 s).1.length ≤ s.length := Nat.le_trans (rNum_le _ _) h11
  exact ⟨h1, h2, h3, h4, h5, h6, h7, h8, h9, h10, h11, h12, Nat.le_trans (rNum_le _ _) h12⟩
end Go.Proofs.Ytkpoeigoocbgeaa
