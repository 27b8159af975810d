/- A reader of bytes, plain: what the program's reader has left behind numbers and texts, and whether anything lacked; lines, writes and sizes taken so. No program in sight. -/
import Derived.Test.YtkpoeigoocbgeaaMsgQ
namespace Go.Proofs.Ytkpoeigoocbgeaa

/-- What a reader has left, and whether something lacked. -/
abbrev Rd := List UInt8 × Bool
def rNum (k : Int) (s : Rd) : Rd := (numR s.1 k, s.2 || decide (numE s.1 k ≠ 0))
def rTxt (s : Rd) : Rd := (takeR s.1, s.2 || decide (takeE s.1 ≠ 0))
theorem rNum_ok {k : Nat} {s : Rd} (h : (rNum (k : Int) s).2 = false) : s.2 = false ∧ numE s.1 (k : Int) = 0 ∧ (rNum (k : Int) s) = (s.1.drop k, false) := by
  unfold rNum at h ⊢
  dsimp only at h ⊢
  rw [Bool.or_eq_false_iff, decide_eq_false_iff_not, Decidable.not_not] at h
  refine ⟨h.1, h.2, ?_⟩
  rw [numR_ok h.2, h.1, h.2]; rfl
theorem rNum_of {k : Nat} {r : List UInt8} (h : numE r (k : Int) = 0) : rNum (k : Int) (r, false) = (r.drop k, false) := by
  unfold rNum
  dsimp only
  rw [numR_ok h, h]; rfl
theorem rTxt_ok {s : Rd} (h : (rTxt s).2 = false) : s.2 = false ∧ takeE s.1 = 0 ∧ rTxt s = ((s.1.drop 2).drop (dec (s.1.take 2)), false) := by
  unfold rTxt at h ⊢
  dsimp only at h ⊢
  rw [Bool.or_eq_false_iff, decide_eq_false_iff_not, Decidable.not_not] at h
  refine ⟨h.1, h.2, ?_⟩
  rw [takeR_ok h.2, h.1, h.2]; rfl
theorem rTxt_of {r : List UInt8} (h : takeE r = 0) : rTxt (r, false) = ((r.drop 2).drop (dec (r.take 2)), false) := by
  unfold rTxt
  dsimp only
  rw [takeR_ok h, h]; rfl
theorem numR_le17 (l : List UInt8) (k : Int) : (numR l k).length ≤ l.length := by unfold numR; split <;> simp
theorem takeR_le17 (l : List UInt8) : (takeR l).length ≤ l.length := by
  unfold takeR
  split
  · rw [List.length_drop, List.length_drop]; omega
  · simp
theorem takeA_le17 (l : List UInt8) : (takeA l).length ≤ l.length := by
  unfold takeA
  split
  · rw [List.length_take, List.length_drop]; omega
  · simp
theorem rNum_le (k : Int) (s : Rd) : (rNum k s).1.length ≤ s.1.length := numR_le17 _ _
theorem rTxt_le (s : Rd) : (rTxt s).1.length ≤ s.1.length := takeR_le17 _
theorem numE_iff17 {r : List UInt8} {k : Nat} (h1 : 1 ≤ k) (h2 : k ≤ 8) : numE r (k : Int) = 0 ↔ k ≤ r.length ∧ dec (r.take k) < 9223372036854775808 := by
  by_cases h : k ≤ r.length
  · rw [numE_get h1 h2 h]
    have hl : (r.take k).length = k := by rw [List.length_take]; omega
    constructor
    · intro e
      refine ⟨h, ?_⟩
      rcases Nat.lt_or_ge (dec (r.take k)) 9223372036854775808 with h' | h'
      · exact h'
      · rw [getE_big (by omega) (by omega) h'] at e; cases e
    · rintro ⟨_, h'⟩
      exact getE_ok (by omega) (by omega) h'
  · rw [numE_short (by omega) (by omega) (by omega)]
    constructor
    · intro e; cases e
    · rintro ⟨h', _⟩; omega
theorem numN_bound (r : List UInt8) (k : Int) : 0 ≤ numN r k := by
  unfold numN; split <;> omega
theorem numN_lt256 (r : List UInt8) : numN r 1 < 256 := by
  unfold numN
  split
  · have := dec_take_lt256 r 1
    rw [show (1 : Int).toNat = 1 from rfl]; omega
  · omega
theorem numN_lt65536 (r : List UInt8) : numN r 2 < 65536 := by
  unfold numN
  split
  · have := dec_take_lt256 r 2
    rw [show (2 : Int).toNat = 2 from rfl]; omega
  · omega
theorem numE_fail1 {r : List UInt8} : numE r 1 = 0 ↔ 1 ≤ r.length := by
  have := numE_iff17 (r := r) (k := 1) (by omega) (by omega)
  rw [show ((1 : Nat) : Int) = 1 from rfl] at this
  rw [this]
  have := dec_take_lt256 r 1
  constructor
  · exact fun h => h.1
  · exact fun h => ⟨h, by omega⟩
theorem numE_fail2 {r : List UInt8} : numE r 2 = 0 ↔ 2 ≤ r.length := by
  have := numE_iff17 (r := r) (k := 2) (by omega) (by omega)
  rw [show ((2 : Nat) : Int) = 2 from rfl] at this
  rw [this]
  have := dec_take_lt256 r 2
  constructor
  · exact fun h => h.1
  · exact fun h => ⟨h, by omega⟩

/-! ### Steps one behind the other -/
def itN {σ : Type} (f : σ → σ) : Nat → σ → σ
  | 0, s => s
  | n + 1, s => itN f n (f s)
def elN {σ α : Type} (e : σ → α) (f : σ → σ) : Nat → σ → List α
  | 0, _ => []
  | n + 1, s => e s :: elN e f n (f s)
theorem itN_succ {σ : Type} (f : σ → σ) : ∀ (n : Nat) (s : σ), itN f (n + 1) s = f (itN f n s)
  | 0, _ => rfl
  | n + 1, s => by show itN f (n + 1) (f s) = _; rw [itN_succ f n (f s)]; rfl
theorem elN_succ {σ α : Type} (e : σ → α) (f : σ → σ) : ∀ (n : Nat) (s : σ), elN e f (n + 1) s = elN e f n s ++ [e (itN f n s)]
  | 0, _ => rfl
  | n + 1, s => by show e s :: elN e f (n + 1) (f s) = _; rw [elN_succ e f n (f s)]; rfl
theorem elN_length {σ α : Type} (e : σ → α) (f : σ → σ) : ∀ (n : Nat) (s : σ), (elN e f n s).length = n
  | 0, _ => rfl
  | n + 1, s => by show (elN e f n (f s)).length + 1 = _; rw [elN_length e f n (f s)]
theorem itN_le {f : Rd → Rd} (hf : ∀ s, (f s).1.length ≤ s.1.length) : ∀ (n : Nat) (s : Rd), (itN f n s).1.length ≤ s.1.length
  | 0, _ => Nat.le_refl _
  | n + 1, s => Nat.le_trans (itN_le hf n (f s)) (hf s)
theorem itN_bad {f : Rd → Rd} (hf : ∀ s, (f s).2 = false → s.2 = false) : ∀ (n : Nat) (s : Rd), (itN f n s).2 = false → s.2 = false
  | 0, _, h => h
  | n + 1, s, h => hf _ (itN_bad hf n (f s) h)

/-! ### Lines -/
def brStep (s : Rd) : Rd := rNum 8 (rNum 8 s)
def brEl (s : Rd) : Br := (numN s.1 8, numN (rNum 8 s).1 8)
def szStep (s : Rd) : Rd := rNum 1 s
def szEl (s : Rd) : Int := numN s.1 1
def wrStep (s : Rd) : Rd := rTxt (rNum 1 (rNum 1 s))
def wrEl (s : Rd) : Wr := ⟨numN s.1 1, numN (rNum 1 s).1 1, str (takeA (rNum 1 (rNum 1 s)).1)⟩
theorem brStep_le (s : Rd) : (brStep s).1.length ≤ s.1.length := Nat.le_trans (rNum_le _ _) (rNum_le _ _)
theorem wrStep_le (s : Rd) : (wrStep s).1.length ≤ s.1.length := Nat.le_trans (rTxt_le _) (Nat.le_trans (rNum_le _ _) (rNum_le _ _))
theorem brStep_ok {s : Rd} (h : (brStep s).2 = false) : s.2 = false ∧ 16 ≤ s.1.length ∧ brStep s = (s.1.drop 16, false) ∧ brEl s = brOf s.1 := by
  unfold brStep at h ⊢
  obtain ⟨h1, h2, h3⟩ := rNum_ok (k := 8) h
  obtain ⟨h4, h5, h6⟩ := rNum_ok (k := 8) h1
  rw [show ((8 : Nat) : Int) = 8 from rfl] at h2 h3 h5 h6
  rw [h6] at h2
  dsimp only at h2
  have l1 := ((numE_iff17 (k := 8) (by omega) (by omega)).1 h5).1
  have l2 := ((numE_iff17 (k := 8) (by omega) (by omega)).1 h2).1
  rw [List.length_drop] at l2
  refine ⟨h4, by omega, ?_, ?_⟩
  · rw [h3, h6, List.drop_drop]
  · unfold brEl brOf
    rw [h6]
    dsimp only
    rw [show (8 : Int) = ((8 : Nat) : Int) from rfl, numN_ok h5, numN_ok h2]
theorem brStep_of {r : List UInt8} (h : 16 ≤ r.length) (h1 : (brOf r).1 < 9223372036854775808) (h2 : (brOf r).2 < 9223372036854775808) : brStep (r, false) = (r.drop 16, false) ∧ brEl (r, false) = brOf r := by
  unfold brOf at h1 h2
  dsimp only at h1 h2
  have e1 : numE r ((8 : Nat) : Int) = 0 := (numE_iff17 (k := 8) (by omega) (by omega)).2 ⟨by omega, by omega⟩
  have e2 : numE (r.drop 8) ((8 : Nat) : Int) = 0 := (numE_iff17 (k := 8) (by omega) (by omega)).2 ⟨by rw [List.length_drop]; omega, by omega⟩
  have h : (brStep (r, false)).2 = false := by
    unfold brStep
    rw [show (8 : Int) = ((8 : Nat) : Int) from rfl, rNum_of e1, rNum_of e2]
  obtain ⟨_, _, h3, h4⟩ := brStep_ok h
  exact ⟨h3, h4⟩
theorem brStep_bad (s : Rd) (h : (brStep s).2 = false) : s.2 = false := (brStep_ok h).1
theorem br_all : ∀ (n : Nat) {s : Rd}, (itN brStep n s).2 = false → s.2 = false ∧ 16 * n ≤ s.1.length ∧ elN brEl brStep n s = brsOf n s.1 ∧ itN brStep n s = (s.1.drop (16 * n), false)
  | 0, (r, b), h => ⟨h, Nat.zero_le _, rfl, by show (r, b) = _; have h : b = false := h; rw [h]; rfl⟩
  | n + 1, s, h => by
    obtain ⟨h1, h2, h3, h4⟩ := br_all n (s := brStep s) h
    obtain ⟨g1, g2, g3, g4⟩ := brStep_ok h1
    rw [g3] at h2 h3 h4
    dsimp only at h2 h3 h4
    rw [List.length_drop] at h2
    refine ⟨g1, by omega, ?_, ?_⟩
    · show brEl s :: elN brEl brStep n (brStep s) = brOf s.1 :: brsOf n (s.1.drop 16)
      rw [g4, g3, h3]
    · show itN brStep n (brStep s) = _
      rw [g3, h4, List.drop_drop]
      congr 2
      omega
theorem br_all_of : ∀ (n : Nat) {r : List UInt8}, 16 * n ≤ r.length → (∀ x ∈ brsOf n r, x.1 < 9223372036854775808 ∧ x.2 < 9223372036854775808) → (itN brStep n (r, false)).2 = false
  | 0, _, _, _ => rfl
  | n + 1, r, h, hx => by
    show (itN brStep n (brStep (r, false))).2 = false
    have h0 := hx (brOf r) (by show brOf r ∈ brOf r :: _; simp)
    rw [(brStep_of (by omega) h0.1 h0.2).1]
    exact br_all_of n (by rw [List.length_drop]; omega) (fun x hm => hx x (by show x ∈ brOf r :: _; exact List.mem_cons_of_mem _ hm))
/-- A line taken by a reader: what it has left, and which branches. -/
def tlN (s : List UInt8) : Nat := (numN s 1).toNat
def tlS (s : List UInt8) : Rd := itN brStep (tlN s) (rNum 1 (s, false))
def tlL (s : List UInt8) : List Br := elN brEl brStep (tlN s) (rNum 1 (s, false))
theorem tlN_lt (s : List UInt8) : tlN s < 256 := by have := numN_lt256 s; have := numN_bound s 1; unfold tlN; omega
theorem tlL_length (s : List UInt8) : (tlL s).length = tlN s := elN_length _ _ _ _
theorem tl_ok (s : List UInt8) : ((tlS s).2 = false ∧ lined (tlL s) = true) ↔ lnOk s = true := by
  constructor
  · rintro ⟨h1, h2⟩
    obtain ⟨a1, a2, a3, a4⟩ := br_all _ h1
    obtain ⟨b1, b2, b3⟩ := rNum_ok (k := 1) a1
    rw [show ((1 : Nat) : Int) = 1 from rfl] at b2 b3
    dsimp only at b2
    have hl := numE_fail1.1 b2
    have hn : tlN s = lnN s := by unfold tlN lnN; rw [show (1 : Int) = ((1 : Nat) : Int) from rfl, numN_ok b2, Int.toNat_natCast]
    unfold tlL at h2
    rw [a3, b3, hn] at h2
    rw [b3, hn] at a2
    dsimp only at a2 h2
    rw [List.length_drop] at a2
    unfold lnOk
    rw [h2, decide_eq_true ⟨hl, by omega⟩]; rfl
  · intro h
    have h' := h
    unfold lnOk at h
    rw [Bool.and_eq_true, decide_eq_true_iff] at h
    obtain ⟨⟨h1, h2⟩, h3⟩ := h
    have e1 : numE s ((1 : Nat) : Int) = 0 := numE_fail1.2 h1
    have hn : tlN s = lnN s := by unfold tlN lnN; rw [show (1 : Int) = ((1 : Nat) : Int) from rfl, numN_ok e1, Int.toNat_natCast]
    have hf := (lined_fit h3).1
    have hg : (tlS s).2 = false := by
      unfold tlS
      rw [show (1 : Int) = ((1 : Nat) : Int) from rfl, rNum_of e1, hn]
      exact br_all_of _ (by rw [List.length_drop]; omega) (fun x hx => by have := hf x hx; omega)
    refine ⟨hg, ?_⟩
    obtain ⟨a1, a2, a3, a4⟩ := br_all _ hg
    unfold tlL
    rw [a3, hn, show (1 : Int) = ((1 : Nat) : Int) from rfl, rNum_of e1]
    exact h3
theorem tl_is {s : List UInt8} (h : lnOk s = true) : tlL s = lnL s ∧ (tlS s).1 = lnR s := by
  obtain ⟨hg, _⟩ := (tl_ok s).2 h
  obtain ⟨a1, a2, a3, a4⟩ := br_all _ hg
  obtain ⟨b1, b2, b3⟩ := rNum_ok (k := 1) a1
  rw [show ((1 : Nat) : Int) = 1 from rfl] at b2 b3
  dsimp only at b2
  have hn : tlN s = lnN s := by unfold tlN lnN; rw [show (1 : Int) = ((1 : Nat) : Int) from rfl, numN_ok b2, Int.toNat_natCast]
  constructor
  · unfold tlL lnL
    rw [a3, b3, hn]
  · unfold tlS lnR
    rw [a4, b3, hn]
    dsimp only
    rw [List.drop_drop]

/-! ### Writes -/
theorem wrStep_ok {s : Rd} (h : (wrStep s).2 = false) : s.2 = false ∧ 4 ≤ s.1.length ∧ 4 + wrZ s.1 ≤ s.1.length ∧ wrStep s = (s.1.drop (4 + wrZ s.1), false) ∧ wrEl s = wrOf s.1 := by
  unfold wrStep at h ⊢
  obtain ⟨h1, h2, h3⟩ := rTxt_ok h
  obtain ⟨h4, h5, h6⟩ := rNum_ok (k := 1) h1
  obtain ⟨h7, h8, h9⟩ := rNum_ok (k := 1) h4
  rw [show ((1 : Nat) : Int) = 1 from rfl] at h5 h6 h8 h9
  rw [h9] at h5 h6
  dsimp only at h5 h6
  rw [h9, h6] at h2 h3
  dsimp only at h2 h3
  have l1 := numE_fail1.1 h8
  have l2 := numE_fail1.1 h5
  rw [List.drop_drop, show 1 + 1 = 2 from rfl] at h2 h3
  have hT : takeE (s.1.drop 2) = 0 → 2 ≤ (s.1.drop 2).length ∧ dec ((s.1.drop 2).take 2) ≤ (s.1.drop 2).length - 2 := by
    intro e
    unfold takeE at e
    split at e
    · cases e
    · omega
  obtain ⟨l3, l4⟩ := hT h2
  rw [List.length_drop] at l2 l3 l4
  have hz : dec ((s.1.drop 2).take 2) = wrZ s.1 := rfl
  refine ⟨h7, by omega, by omega, ?_, ?_⟩
  · rw [h9, h6, List.drop_drop, h3, hz, List.drop_drop, List.drop_drop]
    congr 2
    omega
  · unfold wrEl wrOf
    rw [h9, h6]
    dsimp only
    rw [show (1 : Int) = ((1 : Nat) : Int) from rfl, numN_ok h8, numN_ok h5, List.drop_drop, takeA_ok h2, List.drop_drop]
    rfl
theorem wrStep_of {r : List UInt8} (h1 : 4 ≤ r.length) (h2 : 4 + wrZ r ≤ r.length) : (wrStep (r, false)).2 = false := by
  have e1 : numE r ((1 : Nat) : Int) = 0 := numE_fail1.2 (by omega)
  have e2 : numE (r.drop 1) ((1 : Nat) : Int) = 0 := numE_fail1.2 (by rw [List.length_drop]; omega)
  have e3 : takeE ((r.drop 1).drop 1) = 0 := by
    rw [List.drop_drop]
    exact takeE_ok (by rw [List.length_drop]; omega) (by rw [List.length_drop]; show wrZ r ≤ _; omega)
  unfold wrStep
  rw [show (1 : Int) = ((1 : Nat) : Int) from rfl, rNum_of e1, rNum_of e2, rTxt_of e3]
theorem wrStep_bad (s : Rd) (h : (wrStep s).2 = false) : s.2 = false := (wrStep_ok h).1
theorem wrs_all : ∀ (n : Nat) {s : Rd}, (itN wrStep n s).2 = false → s.2 = false ∧ wrsGo n s.1 = some (elN wrEl wrStep n s, (itN wrStep n s).1)
  | 0, s, h => ⟨h, rfl⟩
  | n + 1, s, h => by
    obtain ⟨h1, h2⟩ := wrs_all n (s := wrStep s) h
    obtain ⟨g1, g2, g3, g4, g5⟩ := wrStep_ok h1
    refine ⟨g1, ?_⟩
    show (if 4 ≤ s.1.length ∧ 4 + wrZ s.1 ≤ s.1.length then (match wrsGo n (s.1.drop (4 + wrZ s.1)) with | some p => some (wrOf s.1 :: p.1, p.2) | none => none) else none) = _
    rw [if_pos ⟨g2, g3⟩]
    rw [g4] at h2
    dsimp only at h2
    rw [h2]
    show some (wrOf s.1 :: elN wrEl wrStep n _, _) = some (wrEl s :: elN wrEl wrStep n (wrStep s), (itN wrStep n (wrStep s)).1)
    rw [g5, g4]
theorem wrs_of : ∀ (n : Nat) {r : List UInt8} {ws : List Wr} {rest : List UInt8}, wrsGo n r = some (ws, rest) → (itN wrStep n (r, false)).2 = false
  | 0, _, _, _, _ => rfl
  | n + 1, r, ws, rest, h => by
    have h : (if 4 ≤ r.length ∧ 4 + wrZ r ≤ r.length then (match wrsGo n (r.drop (4 + wrZ r)) with | some p => some (wrOf r :: p.1, p.2) | none => none) else none) = some (ws, rest) := h
    split at h
    · rename_i hc
      split at h
      · rename_i p hp
        show (itN wrStep n (wrStep (r, false))).2 = false
        obtain ⟨_, _, _, g4, _⟩ := wrStep_ok (wrStep_of hc.1 hc.2)
        rw [g4]
        exact wrs_of n (ws := p.1) (rest := p.2) hp
      · cases h
    · cases h
def twN (s : List UInt8) : Nat := (numN s 2).toNat
def twS (s : List UInt8) : Rd := itN wrStep (twN s) (rNum 2 (s, false))
def twL (s : List UInt8) : List Wr := elN wrEl wrStep (twN s) (rNum 2 (s, false))
theorem twN_lt (s : List UInt8) : twN s < 65536 := by have := numN_lt65536 s; have := numN_bound s 2; unfold twN; omega
theorem twL_length (s : List UInt8) : (twL s).length = twN s := elN_length _ _ _ _
theorem tw_some {s : List UInt8} (h : (twS s).2 = false) : wsAt s = some (twL s, (twS s).1) := by
  obtain ⟨h1, h2⟩ := wrs_all _ h
  obtain ⟨b1, b2, b3⟩ := rNum_ok (k := 2) h1
  rw [show ((2 : Nat) : Int) = 2 from rfl] at b2 b3
  dsimp only at b2
  have hl := numE_fail2.1 b2
  have hn : twN s = dec (s.take 2) := by unfold twN; rw [show (2 : Int) = ((2 : Nat) : Int) from rfl, numN_ok b2, Int.toNat_natCast]
  unfold wsAt
  rw [if_neg (by omega), ← hn]
  have : (rNum 2 (s, false)).1 = s.drop 2 := by rw [b3]
  rw [this] at h2
  exact h2
theorem tw_of {s : List UInt8} {ws : List Wr} {rest : List UInt8} (h : wsAt s = some (ws, rest)) : (twS s).2 = false ∧ twL s = ws ∧ (twS s).1 = rest := by
  have h0 := h
  unfold wsAt at h
  split at h
  · cases h
  · rename_i hl
    have e1 : numE s ((2 : Nat) : Int) = 0 := numE_fail2.2 (by omega)
    have hn : twN s = dec (s.take 2) := by unfold twN; rw [show (2 : Int) = ((2 : Nat) : Int) from rfl, numN_ok e1, Int.toNat_natCast]
    have hg : (twS s).2 = false := by
      unfold twS
      rw [show (2 : Int) = ((2 : Nat) : Int) from rfl, rNum_of e1, hn]
      exact wrs_of _ h
    have := tw_some hg
    rw [h0] at this
    simp only [Option.some.injEq, Prod.mk.injEq] at this
    exact ⟨hg, this.1.symm, this.2.symm⟩
theorem tw_long {s : List UInt8} (h : 128 < twN s) : ∀ ws rest, wsAt s = some (ws, rest) → writable ws = false := by
  intro ws rest e
  obtain ⟨_, h2, _⟩ := tw_of e
  have := twL_length s
  rw [h2] at this
  rw [Bool.eq_false_iff]
  intro e
  have := ((writable_iff _).1 e).1
  omega
theorem wrEl_fit (s : Rd) : 0 ≤ (wrEl s).vol ∧ (wrEl s).vol < 256 ∧ 0 ≤ (wrEl s).block ∧ (wrEl s).block < 256 := ⟨numN_bound _ _, numN_lt256 _, numN_bound _ _, numN_lt256 _⟩
end Go.Proofs.Ytkpoeigoocbgeaa
