/- Plain: a sector that the program decodes is the document's header written anew, and the other way round. Plain: the document's way to look for a log is the program's. Plain: what the document reads of a slot and of a record is what the program reads. -/
import Derived.Test.YtlelfakememckaaGreatDoorWalO
import Derived.Test.YtlelfakememckaaGreatDoorWalX
import Derived.Test.YtlelfakememckaaGreatDoorWalM
import Derived.Test.YtlelfakememckaaGreatDoorWalRefB
namespace Go.Proofs.YtlelfakememckaaGreatDoor

theorem zero_list {l : List UInt8} (h : zeroB l = true) : l = List.replicate l.length 0 := by
  unfold zeroB at h
  rw [List.all_eq_true] at h
  exact List.eq_replicate_iff.2 ⟨rfl, fun x hx => by simpa using h x hx⟩
theorem nums_back {r : List UInt8} {k : Nat} {ks ys : List Int} (h1 : 1 ≤ k) (h2 : k ≤ 8) (h : numsOf r ((k : Int) :: ks) = some ys) :
    ∃ m l zs, r = enc k m ++ l ∧ m < 256 ^ k ∧ m ≤ 9223372036854775807 ∧ ys = (m : Int) :: zs ∧ numsOf l ks = some zs := by
  rw [numsOf] at h
  split at h
  · rename_i he
    obtain ⟨zs, hz, rfl⟩ := Option.map_eq_some_iff.1 h
    have hn : numN r (k : Int) = (dec (r.take k) : Int) := by unfold numN; rw [if_pos he, Int.toNat_natCast]
    have hr : numR r (k : Int) = r.drop k := by unfold numR; rw [if_pos he, Int.toNat_natCast]
    have hl : k ≤ r.length ∧ getE (r.take k) = 0 := by
      unfold numE at he
      rw [if_neg (by omega)] at he
      split at he
      · exact absurd he (by decide)
      · exact ⟨by omega, by rwa [Int.toNat_natCast] at he⟩
    have htl : (r.take k).length = k := by rw [List.length_take]; omega
    have hd : dec (r.take k) < 9223372036854775808 := by
      have := hl.2
      unfold getE at this
      rw [if_neg (by rw [htl]; omega)] at this
      split at this
      · exact absurd this (by decide)
      · omega
    have hlt := dec_lt (r.take k)
    rw [htl] at hlt
    have he2 := enc_dec (r.take k)
    rw [htl] at he2
    refine ⟨dec (r.take k), r.drop k, zs, ?_, hlt, by omega, by rw [hn], by rw [← hr]; exact hz⟩
    rw [he2, List.take_append_drop]
  · cases h
theorem nums_nil {r : List UInt8} {ys : List Int} (h : numsOf r [] = some ys) : r = List.replicate r.length 0 ∧ ys = [] := by
  rw [numsOf] at h
  split at h
  · rename_i hz
    exact ⟨zero_list hz, by cases h; rfl⟩
  · cases h
theorem headOf_back {l : List UInt8} {c : UInt8} {ks ys : List Int} (h : headOf l c ks = some ys) : ∃ r, l = c :: r ∧ numsOf r ks = some ys := by
  unfold headOf at h
  split at h
  · rename_i hc
    unfold cutE at hc
    cases l with
    | nil => cases hc
    | cons x r =>
      have hx : x = c := by simpa using hc
      subst hx
      refine ⟨r, rfl, ?_⟩
      unfold cutR cutE at h
      simpa using h
  · cases h

theorem decR_back {l : List UInt8} {a b : Int} (hl : l.length = 32) (h : decR l = some (a, b)) : ∃ num len : Nat, a = (num : Int) ∧ b = (len : Int) ∧ num ≤ 9223372036854775807 ∧ len < 4294967296 ∧ l = padB (recHead a b) := by
  unfold decR at h
  split at h
  · rename_i x y hh
    simp only [Option.some.injEq, Prod.mk.injEq] at h
    obtain ⟨rfl, rfl⟩ := h
    obtain ⟨r, rfl, hr⟩ := headOf_back hh
    obtain ⟨m1, l1, z1, rfl, q1, q2, e1, hr1⟩ := nums_back (k := 8) (by omega) (by omega) hr
    obtain ⟨m2, l2, z2, rfl, q3, q4, e2, hr2⟩ := nums_back (k := 4) (by omega) (by omega) hr1
    obtain ⟨e3, rfl⟩ := nums_nil hr2
    rw [e2] at e1
    simp only [List.cons.injEq, and_true] at e1
    obtain ⟨rfl, rfl⟩ := e1
    have q3' : m2 < 4294967296 := by simpa using q3
    refine ⟨m1, m2, rfl, rfl, q2, q3', ?_⟩
    have e0 : padB (recHead m1 m2) = 82 :: (enc 8 m1 ++ (enc 4 m2 ++ List.replicate 19 0)) := by
      unfold padB; rw [recHead_len q2 q3', recHead_enc q2 q3']; simp
    have hl2 : l2.length = 19 := by
      simp only [List.length_cons, List.length_append, enc_length] at hl
      omega
    rw [e0, e3, hl2]
  · cases h

theorem decS_back {l : List UInt8} {a b c d : Int} (hl : l.length = 32) (h : decS l = some (a, b, c, d)) : ∃ gen len pos num : Nat, a = (gen : Int) ∧ b = (len : Int) ∧ c = (pos : Int) ∧ d = (num : Int) ∧ gen ≤ 9223372036854775807 ∧ len < 4294967296 ∧ pos < 4294967296 ∧ num ≤ 9223372036854775807 ∧ l = padB (slotHead a b c d) := by
  unfold decS at h
  split at h
  · rename_i x y z u hh
    simp only [Option.some.injEq, Prod.mk.injEq] at h
    obtain ⟨rfl, rfl, rfl, rfl⟩ := h
    obtain ⟨r, rfl, hr⟩ := headOf_back hh
    obtain ⟨m1, l1, z1, rfl, q1, p1, e1, hr1⟩ := nums_back (k := 8) (by omega) (by omega) hr
    obtain ⟨m2, l2, z2, rfl, q2, p2, e2, hr2⟩ := nums_back (k := 4) (by omega) (by omega) hr1
    obtain ⟨m3, l3, z3, rfl, q3, p3, e3, hr3⟩ := nums_back (k := 4) (by omega) (by omega) hr2
    obtain ⟨m4, l4, z4, rfl, q4, p4, e4, hr4⟩ := nums_back (k := 8) (by omega) (by omega) hr3
    obtain ⟨e5, rfl⟩ := nums_nil hr4
    rw [e2, e3, e4] at e1
    simp only [List.cons.injEq, and_true] at e1
    obtain ⟨rfl, rfl, rfl, rfl⟩ := e1
    have q2' : m2 < 4294967296 := by simpa using q2
    have q3' : m3 < 4294967296 := by simpa using q3
    refine ⟨m1, m2, m3, m4, rfl, rfl, rfl, rfl, p1, q2', q3', p4, ?_⟩
    have e0 : padB (slotHead m1 m2 m3 m4) = 83 :: (enc 8 m1 ++ (enc 4 m2 ++ (enc 4 m3 ++ (enc 8 m4 ++ List.replicate 7 0)))) := by
      unfold padB; rw [slotHead_len p1 q2' q3' p4, slotHead_enc p1 q2' q3' p4]; simp
    have hl4 : l4.length = 7 := by
      simp only [List.length_cons, List.length_append, enc_length] at hl
      omega
    rw [e0, e5, hl4]
  · cases h

/-- A number within a sector, as the document reads it. -/
def fld (x : List UInt8) (i j : Nat) : Int := getN ((x.drop i).take (j - i))
theorem getN_nat (l : List UInt8) : ∃ m : Nat, getN l = (m : Int) ∧ m ≤ 9223372036854775807 := by
  unfold getN
  split
  · rename_i h
    refine ⟨dec l, rfl, ?_⟩
    unfold getE at h
    split at h
    · exact absurd h (by decide)
    · split at h
      · exact absurd h (by decide)
      · omega
  · exact ⟨0, rfl, by omega⟩
theorem getN_four {l : List UInt8} (h : l.length ≤ 4) : ∃ m : Nat, getN l = (m : Int) ∧ m < 4294967296 := by
  have hd := dec_lt l
  have hp : 256 ^ l.length ≤ 256 ^ 4 := Nat.pow_le_pow_right (by omega) h
  have h4 : (256 : Nat) ^ 4 = 4294967296 := by decide
  unfold getN
  split
  · exact ⟨dec l, rfl, by omega⟩
  · exact ⟨0, rfl, by omega⟩
theorem fldN_enc {k m : Nat} (h1 : 1 ≤ k) (h2 : k ≤ 8) (h : m < 256 ^ k) (hm : m ≤ 9223372036854775807) : getN (enc k m) = (m : Int) := by
  have hd : dec (enc k m) = m := dec_enc_of_lt h
  have he : getE (enc k m) = 0 := by
    unfold getE
    rw [enc_length, if_neg (by omega), if_neg (by rw [hd]; omega)]
  unfold getN
  rw [if_pos he, hd]
theorem mid_enc {c : UInt8} {a b : List UInt8} {i k m : Nat} (ha : (c :: a).length = i) : ((c :: a ++ (enc k m ++ b)).drop i).take k = enc k m := by
  rw [List.drop_left' ha, List.take_left' (enc_length _ _)]
theorem rec_fld {num len : Nat} (h1 : num ≤ 9223372036854775807) (h2 : len < 4294967296) : fld (padB (recHead num len)) 9 13 = (len : Int) := by
  have e0 : padB (recHead num len) = 82 :: enc 8 num ++ (enc 4 len ++ List.replicate 19 0) := by
    unfold padB; rw [recHead_len h1 h2, recHead_enc h1 h2]; simp
  unfold fld
  rw [e0, mid_enc (by simp [enc_length])]
  exact fldN_enc (by omega) (by omega) (by simpa using h2) (by omega)
theorem slot_fld {gen len pos num : Nat} (h0 : gen ≤ 9223372036854775807) (h1 : len < 4294967296) (h2 : pos < 4294967296) (h3 : num ≤ 9223372036854775807) :
    fld (padB (slotHead gen len pos num)) 1 9 = (gen : Int) ∧ fld (padB (slotHead gen len pos num)) 9 13 = (len : Int) ∧ fld (padB (slotHead gen len pos num)) 13 17 = (pos : Int) ∧ fld (padB (slotHead gen len pos num)) 17 25 = (num : Int) := by
  have e0 : padB (slotHead gen len pos num) = 83 :: (enc 8 gen ++ (enc 4 len ++ (enc 4 pos ++ (enc 8 num ++ List.replicate 7 0)))) := by
    unfold padB; rw [slotHead_len h0 h1 h2 h3, slotHead_enc h0 h1 h2 h3]; simp
  have e1 : padB (slotHead gen len pos num) = 83 :: [] ++ (enc 8 gen ++ (enc 4 len ++ (enc 4 pos ++ (enc 8 num ++ List.replicate 7 0)))) := by rw [e0]; rfl
  have e2 : padB (slotHead gen len pos num) = 83 :: enc 8 gen ++ (enc 4 len ++ (enc 4 pos ++ (enc 8 num ++ List.replicate 7 0))) := by rw [e0]; rfl
  have e3 : padB (slotHead gen len pos num) = 83 :: (enc 8 gen ++ enc 4 len) ++ (enc 4 pos ++ (enc 8 num ++ List.replicate 7 0)) := by rw [e0]; simp
  have e4 : padB (slotHead gen len pos num) = 83 :: (enc 8 gen ++ enc 4 len ++ enc 4 pos) ++ (enc 8 num ++ List.replicate 7 0) := by rw [e0]; simp
  unfold fld
  refine ⟨?_, ?_, ?_, ?_⟩
  · rw [e1, mid_enc (by simp)]
    exact fldN_enc (by omega) (by omega) (by omega) h0
  · rw [e2, mid_enc (by simp [enc_length])]
    exact fldN_enc (by omega) (by omega) (by simpa using h1) (by omega)
  · rw [e3, mid_enc (by simp [enc_length])]
    exact fldN_enc (by omega) (by omega) (by simpa using h2) (by omega)
  · rw [e4, mid_enc (by simp [enc_length])]
    exact fldN_enc (by omega) (by omega) (by omega) h3

/-- A record's header: the document writes it anew, the program decodes it. -/
theorem rec_same {x : List UInt8} {num : Nat} (hl : x.length = 32) (hn : num ≤ 9223372036854775807) : (x = padB (recHead num (fld x 9 13)) ↔ decR x = some ((num : Int), fld x 9 13)) ∧ ∀ a b, decR x = some (a, b) → b = fld x 9 13 := by
  obtain ⟨m, hm, hm4⟩ := getN_four (l := (x.drop 9).take (13 - 9)) (by rw [List.length_take]; omega)
  have hf : fld x 9 13 = (m : Int) := hm
  refine ⟨⟨fun h => ?_, fun h => ?_⟩, fun a b h => ?_⟩
  · rw [hf] at h ⊢
    have := decR_enc (num := num) (len := m) hn hm4
    rw [← h] at this
    exact this
  · obtain ⟨_, _, _, _, _, _, e⟩ := decR_back hl h
    exact e
  · obtain ⟨u, v, rfl, rfl, h1, h2, e⟩ := decR_back hl h
    rw [e]
    exact (rec_fld h1 h2).symm
/-- A slot's header, likewise. -/
theorem slot_same {x : List UInt8} (hl : x.length = 32) : (x = padB (slotHead (fld x 1 9) (fld x 9 13) (fld x 13 17) (fld x 17 25)) ↔ decS x = some (fld x 1 9, fld x 9 13, fld x 13 17, fld x 17 25)) ∧ ∀ a b c d, decS x = some (a, b, c, d) → a = fld x 1 9 ∧ b = fld x 9 13 ∧ c = fld x 13 17 ∧ d = fld x 17 25 := by
  obtain ⟨m0, e0, h0⟩ := getN_nat ((x.drop 1).take (9 - 1))
  obtain ⟨m1, e1, h1⟩ := getN_four (l := (x.drop 9).take (13 - 9)) (by rw [List.length_take]; omega)
  obtain ⟨m2, e2, h2⟩ := getN_four (l := (x.drop 13).take (17 - 13)) (by rw [List.length_take]; omega)
  obtain ⟨m3, e3, h3⟩ := getN_nat ((x.drop 17).take (25 - 17))
  have f0 : fld x 1 9 = (m0 : Int) := e0
  have f1 : fld x 9 13 = (m1 : Int) := e1
  have f2 : fld x 13 17 = (m2 : Int) := e2
  have f3 : fld x 17 25 = (m3 : Int) := e3
  refine ⟨⟨fun h => ?_, fun h => ?_⟩, fun a b c d h => ?_⟩
  · rw [f0, f1, f2, f3] at h ⊢
    have := decS_enc (gen := m0) (len := m1) (pos := m2) (num := m3) h0 h1 h2 h3
    rw [← h] at this
    exact this
  · obtain ⟨_, _, _, _, _, _, _, _, _, _, _, _, e⟩ := decS_back hl h
    exact e
  · obtain ⟨a', b', c', d', rfl, rfl, rfl, rfl, k0, k1, k2, k3, e⟩ := decS_back hl h
    obtain ⟨q0, q1, q2, q3⟩ := slot_fld k0 k1 k2 k3
    rw [e]
    exact ⟨q0.symm, q1.symm, q2.symm, q3.symm⟩
end Go.Proofs.YtlelfakememckaaGreatDoor

namespace Go.Proofs.YtlelfakememckaaGreatDoor

/-- Does a slot count, as the document says? -/
def DocSlot (x : List UInt8) (n slot k : Nat) : Prop :=
  x = padB (slotHead (fld x 1 9) (fld x 9 13) (fld x 13 17) (fld x 17 25)) ∧ 1 ≤ fld x 1 9 ∧ fld x 1 9 ≤ 1099511627776 ∧ fld x 1 9 % 2 = (k : Int) ∧ fld x 9 13 ≤ 32 * ((slot : Int) - 1) ∧ fld x 13 17 < (n : Int) - 2 * (slot : Int) ∧ 1 ≤ fld x 17 25 ∧ fld x 17 25 ≤ 1099511627776
theorem sec_mod {g : Int} {slot k : Nat} (hs : 2 ≤ slot) (hk : k ≤ 1) : g % 2 * (slot : Int) = ((k * slot : Nat) : Int) ↔ g % 2 = (k : Int) := by
  have h2 : g % 2 = 0 ∨ g % 2 = 1 := by omega
  have hk2 : k = 0 ∨ k = 1 := by omega
  rcases h2 with e | e <;> rcases hk2 with rfl | rfl <;> rw [e] <;> simp <;> omega
/-- The step over a slot. -/
theorem step_doc {xs : List (List UInt8)} {slot k : Nat} (hs : 2 ≤ slot) (hk : k ≤ 1) (hf : 2 * slot + 3 ≤ xs.length) (hx : ∀ x ∈ xs, x.length = 32) (cur : Hd) :
    (DocSlot (xs.getD (k * slot) []) xs.length slot k ∧ cur.1 < fld (xs.getD (k * slot) []) 1 9 → stepS xs slot (k * slot) cur = (fld (xs.getD (k * slot) []) 1 9, fld (xs.getD (k * slot) []) 9 13, fld (xs.getD (k * slot) []) 13 17, fld (xs.getD (k * slot) []) 17 25)) ∧
    (¬ (DocSlot (xs.getD (k * slot) []) xs.length slot k ∧ cur.1 < fld (xs.getD (k * slot) []) 1 9) → stepS xs slot (k * slot) cur = cur) := by
  have hks : k * slot ≤ slot := by
    calc k * slot ≤ 1 * slot := Nat.mul_le_mul_right _ hk
      _ = slot := Nat.one_mul _
  have hl : (xs.getD (k * slot) []).length = 32 := by
    rw [List.getD_eq_getElem?_getD, List.getElem?_eq_getElem (by omega)]
    exact hx _ (List.getElem_mem _)
  unfold stepS
  generalize xs.getD (k * slot) [] = x at *
  obtain ⟨h1, h2⟩ := slot_same hl
  have hsm := sec_mod (g := fld x 1 9) hs hk
  cases hd : decS x with
  | none =>
    rw [hd] at h1
    refine ⟨fun h => ?_, fun _ => rfl⟩
    have := h1.1 h.1.1
    cases this
  | some r =>
    obtain ⟨a, b, c, d⟩ := r
    obtain ⟨rfl, rfl, rfl, rfl⟩ := h2 a b c d hd
    have hx2 := h1.2 hd
    refine ⟨fun h => ?_, fun h => ?_⟩
    · obtain ⟨⟨_, g1, g2, g3, g4, g5, g6, g7⟩, hlt⟩ := h
      simp only
      rw [if_pos]
      unfold validB
      rw [Bool.and_eq_true, decide_eq_true_iff, decide_eq_true_iff]
      exact ⟨⟨g1, g2, hsm.2 g3, g4, g5, g6, g7⟩, hlt⟩
    · simp only
      rw [if_neg]
      intro hv
      unfold validB at hv
      rw [Bool.and_eq_true, decide_eq_true_iff, decide_eq_true_iff] at hv
      obtain ⟨⟨g1, g2, g3, g4, g5, g6, g7⟩, hlt⟩ := hv
      exact h ⟨⟨hx2, g1, g2, hsm.1 g3, g4, g5, g6, g7⟩, hlt⟩

/-- Is there a record, as the document says? -/
def DocRec (x : List UInt8) (m used : Nat) (num : Int) : Prop := x = padB (recHead num (fld x 9 13)) ∧ fld x 9 13 ≤ 32 * (m : Int) ∧ used + 1 + secs (fld x 9 13).toNat < m
theorem rec_doc {xs : List (List UInt8)} {v : WalV} (hok : v.Ok xs.length) (hx : ∀ x ∈ xs, x.length = 32) (hn : 0 ≤ v.num) (hn2 : v.num ≤ 9223372036854775807) :
    (DocRec (xs.getD (2 * v.slot + v.place xs.length 0) []) (xs.length - 2 * v.slot) v.used v.num → recAt xs v = some (fld (xs.getD (2 * v.slot + v.place xs.length 0) []) 9 13).toNat) ∧
    (¬ DocRec (xs.getD (2 * v.slot + v.place xs.length 0) []) (xs.length - 2 * v.slot) v.used v.num → recAt xs v = none) := by
  have hp := WalV.place_lt hok 0
  have hfit := hok.fit
  have hl : (xs.getD (2 * v.slot + v.place xs.length 0) []).length = 32 := by
    rw [List.getD_eq_getElem?_getD, List.getElem?_eq_getElem (by omega)]
    exact hx _ (List.getElem_mem _)
  unfold recAt
  generalize xs.getD (2 * v.slot + v.place xs.length 0) [] = x at *
  obtain ⟨num, hnum⟩ := Int.eq_ofNat_of_zero_le hn
  rw [hnum] at hn2
  obtain ⟨h1, h2⟩ := rec_same (num := num) hl (by omega)
  obtain ⟨z, hz, hz4⟩ := getN_four (l := (x.drop 9).take (13 - 9)) (by rw [List.length_take]; omega)
  have hf : fld x 9 13 = (z : Int) := hz
  unfold DocRec
  rw [hnum]
  rw [hf] at h1 h2 ⊢
  rw [Int.toNat_natCast]
  refine ⟨fun h => ?_, fun h => ?_⟩
  · obtain ⟨q1, q2, q3⟩ := h
    rw [h1.1 q1]
    simp only
    rw [Int.toNat_natCast, if_pos]
    exact ⟨trivial, by omega⟩
  · cases hd : decR x with
    | none => rfl
    | some r =>
      obtain ⟨a, b⟩ := r
      have hb := h2 a b hd
      subst hb
      simp only
      rw [Int.toNat_natCast, if_neg]
      rintro ⟨e, hlt⟩
      rw [e] at hd
      refine h ⟨h1.2 hd, ?_, by omega⟩
      unfold secs at hlt
      omega
end Go.Proofs.YtlelfakememckaaGreatDoor

namespace Go.Proofs.YtlelfakememckaaGreatDoor

theorem readB_on {d : DSt} (hoff : d.off = false) {x : Nat} (hx : x < d.seen.length) : d.readB (x : Int) = d.seen.getD x [] := by
  have hh : d.has (x : Int) = true := by unfold DSt.has; simp; omega
  have he : d.readE (x : Int) = 0 := by unfold DSt.readE; rw [hoff, if_neg (by simp), if_pos hh]
  unfold DSt.readB
  rw [if_pos he, Int.toNat_natCast]
theorem getD_32 {xs : List (List UInt8)} (hx : ∀ x ∈ xs, x.length = 32) {i : Nat} (hi : i < xs.length) : (xs.getD i []).length = 32 := by
  rw [List.getD_eq_getElem?_getD, List.getElem?_eq_getElem hi]
  exact hx _ (List.getElem_mem _)
theorem readB_32 {d : DSt} (hoff : d.off = false) (hx : ∀ x ∈ d.seen, x.length = 32) {i : Nat} (hi : i < d.seen.length) : (d.readB (i : Int)).length = 32 := by
  rw [readB_on hoff hi]; exact getD_32 hx hi
theorem map_range_drop (xs : List (List UInt8)) (o : Nat) : ∀ k : Nat, o + k ≤ xs.length → (List.range k).map (fun j => xs.getD (o + j) []) = (xs.drop o).take k
  | 0, _ => by simp
  | k + 1, h => by
    rw [List.range_succ, List.map_append, map_range_drop xs o k (by omega)]
    have hk : k < (xs.drop o).length := by rw [List.length_drop]; omega
    rw [List.take_succ_eq_append_getElem hk]
    simp only [List.map_cons, List.map_nil, List.getElem_drop]
    rw [List.getD_eq_getElem?_getD, List.getElem?_eq_getElem (by omega)]
    rfl
theorem slots_read {d : DSt} (hoff : d.off = false) {slot k : Nat} (h : k * slot + slot ≤ d.seen.length) (hs : 1 ≤ slot) : readsL d (slotsL slot k) = ((d.seen.drop (k * slot + 1)).take (slot - 1)).flatten := by
  unfold readsL slotsL
  rw [List.map_map, ← map_range_drop d.seen (k * slot + 1) (slot - 1) (by omega)]
  congr 1
  refine List.map_congr_left fun j hj => ?_
  have := List.mem_range.1 hj
  exact readB_on hoff (show k * slot + 1 + j < d.seen.length by omega)
theorem take_flat {l : List (List UInt8)} (hl : ∀ x ∈ l, x.length = 32) {k n : Nat} (hn : n ≤ 32 * k) (hk : k ≤ l.length) : l.flatten.take n = (l.take k).flatten.take n := by
  have h : l.flatten = (l.take k).flatten ++ (l.drop k).flatten := by rw [← List.flatten_append, List.take_append_drop]
  have hf : (l.take k).flatten.length = 32 * k := by
    rw [flatten_32 _ (fun x hx => hl x (List.mem_of_mem_take hx)), List.length_take]; omega
  rw [h, List.take_append_of_le_length (by omega)]
theorem secs_le {n k : Nat} (h : n ≤ 32 * k) : secs n ≤ k := by unfold secs; omega
theorem le_secs (n : Nat) : n ≤ 32 * secs n := by unfold secs; omega
/-- The state that the document reads. -/
theorem state_link {d : DSt} (hoff : d.off = false) (hx : ∀ x ∈ d.seen, x.length = 32) {slot k gen len : Nat} (h : k * slot + slot ≤ d.seen.length) (hs : 1 ≤ slot) (hg : gen % 2 = k) (hl : len ≤ 32 * (slot - 1)) :
    (readsL d (slotsL slot k)).take len = stateOf d.seen slot gen len := by
  rw [slots_read hoff h hs]
  unfold stateOf
  rw [hg, take_flat (k := secs len) (fun x hx' => hx x (List.mem_of_mem_drop (List.mem_of_mem_take hx'))) (le_secs len) (by rw [List.length_take, List.length_drop]; have := secs_le hl; omega)]
  rw [List.take_take, Nat.min_eq_left (secs_le hl)]
theorem range_tail (k : Nat) : (List.range (1 + k)).tail = (List.range k).map (fun i => 1 + i) := by
  rw [Nat.add_comm, List.range_succ_eq_map, List.tail_cons]
  exact List.map_congr_left fun i _ => by omega
theorem around_tail (slot m place k : Nat) : (aroundL slot m place (1 + k)).tail = (List.range k).map (fun i => 2 * slot + (place + (1 + i)) % m) := by
  unfold aroundL
  rw [← List.map_tail, range_tail, List.map_map]
  rfl
/-- The record that the document reads. -/
theorem rec_link {d : DSt} (hoff : d.off = false) {v : WalV} (hok : v.Ok d.seen.length) (len : Nat) :
    (readsL d ((aroundL v.slot (d.seen.length - 2 * v.slot) v.next (1 + secs len)).tail)).take len = recB d.seen v len := by
  rw [around_tail]
  unfold readsL recB recSecs
  rw [List.map_map]
  congr 2
  refine List.map_congr_left fun i hi => ?_
  have hp := WalV.place_lt hok (1 + i)
  have hfit := hok.fit
  unfold WalV.place at hp
  exact readB_on hoff (show 2 * v.slot + (v.next + (1 + i)) % (d.seen.length - 2 * v.slot) < d.seen.length by omega)
end Go.Proofs.YtlelfakememckaaGreatDoor
