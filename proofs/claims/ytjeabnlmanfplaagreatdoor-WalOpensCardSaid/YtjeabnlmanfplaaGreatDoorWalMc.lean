/- Plain: a sector that the program decodes is the document's header written anew, and the other way round. Plain: the document's way to look for a log is the program's. Plain: what the document reads of a slot and of a record is what the program reads. Contract of the document's slotOf where the slot does not count. Contract of the document's slotOf where the slot counts. The document's Find: the log's block in memory; what slotOf answers; the loop over both slots. Contract of the document's Find. -/
import Derived.Test.YtjeabnlmanfplaaGreatDoorWalMa
import Derived.Test.YtjeabnlmanfplaaGreatDoorWalX
import Derived.Test.YtjeabnlmanfplaaGreatDoorWalT
import Derived.Test.YtjeabnlmanfplaaGreatDoorWalRefB
import Derived.StillTailTactics
import Derived.Deep.CutRange
namespace Go.Proofs.YtjeabnlmanfplaaGreatDoor

theorem zero_list {l : List UInt8} (h : zeroB l = true) : l = List.replicate l.length 0 := by
  unfold zeroB at h
  rw [List.all_eq_true] at h
  exact List.eq_replicate_iff.2 ⟨rfl, fun x hx => by simpa using h x hx⟩
theorem nums_back {r : List UInt8} {k : Nat} {ks ys : List Int} (h1 : 1 ≤ k) (h2 : k ≤ 8) (h : numsOf r ((k : Int) :: ks) = some ys) :
    ∃ m l zs, r = enc k m ++ l ∧ m < 256 ^ k ∧ m ≤ 9223372036854775807 ∧ ys = (m : Int) :: zs ∧ numsOf l ks = some zs := by
  rw [numsOf] at h
  split at h
  · rename_i he
    obtain ⟨zs, hz, rfl⟩ := Option.map_eq_some_iff.1 h
    have hn : numN r (k : Int) = (dec (r.take k) : Int) := by unfold numN; rw [if_pos he, Int.toNat_natCast]
    have hr : numR r (k : Int) = r.drop k := by unfold numR; rw [if_pos he, Int.toNat_natCast]
    have hl : k ≤ r.length ∧ getE (r.take k) = 0 := by
      unfold numE at he
      rw [if_neg (by omega)] at he
      split at he
      · exact absurd he (by decide)
      · exact ⟨by omega, by rwa [Int.toNat_natCast] at he⟩
    have htl : (r.take k).length = k := by rw [List.length_take]; omega
    have hd : dec (r.take k) < 9223372036854775808 := by
      have := hl.2
      unfold getE at this
      rw [if_neg (by rw [htl]; omega)] at this
      split at this
      · exact absurd this (by decide)
      · omega
    have hlt := dec_lt (r.take k)
    rw [htl] at hlt
    have he2 := enc_dec (r.take k)
    rw [htl] at he2
    refine ⟨dec (r.take k), r.drop k, zs, ?_, hlt, by omega, by rw [hn], by rw [← hr]; exact hz⟩
    rw [he2, List.take_append_drop]
  · cases h
theorem nums_nil {r : List UInt8} {ys : List Int} (h : numsOf r [] = some ys) : r = List.replicate r.length 0 ∧ ys = [] := by
  rw [numsOf] at h
  split at h
  · rename_i hz
    exact ⟨zero_list hz, by cases h; rfl⟩
  · cases h
theorem headOf_back {l : List UInt8} {c : UInt8} {ks ys : List Int} (h : headOf l c ks = some ys) : ∃ r, l = c :: r ∧ numsOf r ks = some ys := by
  unfold headOf at h
  split at h
  · rename_i hc
    unfold cutE at hc
    cases l with
    | nil => cases hc
    | cons x r =>
      have hx : x = c := by simpa using hc
      subst hx
      refine ⟨r, rfl, ?_⟩
      unfold cutR cutE at h
      simpa using h
  · cases h

theorem decR_back {l : List UInt8} {a b : Int} (hl : l.length = 32) (h : decR l = some (a, b)) : ∃ num len : Nat, a = (num : Int) ∧ b = (len : Int) ∧ num ≤ 9223372036854775807 ∧ len < 4294967296 ∧ l = padB (recHead a b) := by
  unfold decR at h
  split at h
  · rename_i x y hh
    simp only [Option.some.injEq, Prod.mk.injEq] at h
    obtain ⟨rfl, rfl⟩ := h
    obtain ⟨r, rfl, hr⟩ := headOf_back hh
    obtain ⟨m1, l1, z1, rfl, q1, q2, e1, hr1⟩ := nums_back (k := 8) (by omega) (by omega) hr
    obtain ⟨m2, l2, z2, rfl, q3, q4, e2, hr2⟩ := nums_back (k := 4) (by omega) (by omega) hr1
    obtain ⟨e3, rfl⟩ := nums_nil hr2
    rw [e2] at e1
    simp only [List.cons.injEq, and_true] at e1
    obtain ⟨rfl, rfl⟩ := e1
    have q3' : m2 < 4294967296 := by simpa using q3
    refine ⟨m1, m2, rfl, rfl, q2, q3', ?_⟩
    have e0 : padB (recHead m1 m2) = 82 :: (enc 8 m1 ++ (enc 4 m2 ++ List.replicate 19 0)) := by
      unfold padB; rw [recHead_len q2 q3', recHead_enc q2 q3']; simp
    have hl2 : l2.length = 19 := by
      simp only [List.length_cons, List.length_append, enc_length] at hl
      omega
    rw [e0, e3, hl2]
  · cases h

theorem decS_back {l : List UInt8} {a b c d : Int} (hl : l.length = 32) (h : decS l = some (a, b, c, d)) : ∃ gen len pos num : Nat, a = (gen : Int) ∧ b = (len : Int) ∧ c = (pos : Int) ∧ d = (num : Int) ∧ gen ≤ 9223372036854775807 ∧ len < 4294967296 ∧ pos < 4294967296 ∧ num ≤ 9223372036854775807 ∧ l = padB (slotHead a b c d) := by
  unfold decS at h
  split at h
  · rename_i x y z u hh
    simp only [Option.some.injEq, Prod.mk.injEq] at h
    obtain ⟨rfl, rfl, rfl, rfl⟩ := h
    obtain ⟨r, rfl, hr⟩ := headOf_back hh
    obtain ⟨m1, l1, z1, rfl, q1, p1, e1, hr1⟩ := nums_back (k := 8) (by omega) (by omega) hr
    obtain ⟨m2, l2, z2, rfl, q2, p2, e2, hr2⟩ := nums_back (k := 4) (by omega) (by omega) hr1
    obtain ⟨m3, l3, z3, rfl, q3, p3, e3, hr3⟩ := nums_back (k := 4) (by omega) (by omega) hr2
    obtain ⟨m4, l4, z4, rfl, q4, p4, e4, hr4⟩ := nums_back (k := 8) (by omega) (by omega) hr3
    obtain ⟨e5, rfl⟩ := nums_nil hr4
    rw [e2, e3, e4] at e1
    simp only [List.cons.injEq, and_true] at e1
    obtain ⟨rfl, rfl, rfl, rfl⟩ := e1
    have q2' : m2 < 4294967296 := by simpa using q2
    have q3' : m3 < 4294967296 := by simpa using q3
    refine ⟨m1, m2, m3, m4, rfl, rfl, rfl, rfl, p1, q2', q3', p4, ?_⟩
    have e0 : padB (slotHead m1 m2 m3 m4) = 83 :: (enc 8 m1 ++ (enc 4 m2 ++ (enc 4 m3 ++ (enc 8 m4 ++ List.replicate 7 0)))) := by
      unfold padB; rw [slotHead_len p1 q2' q3' p4, slotHead_enc p1 q2' q3' p4]; simp
    have hl4 : l4.length = 7 := by
      simp only [List.length_cons, List.length_append, enc_length] at hl
      omega
    rw [e0, e5, hl4]
  · cases h

/-- A number within a sector, as the document reads it. -/
def fld (x : List UInt8) (i j : Nat) : Int := getN ((x.drop i).take (j - i))
theorem getN_nat (l : List UInt8) : ∃ m : Nat, getN l = (m : Int) ∧ m ≤ 9223372036854775807 := by
  unfold getN
  split
  · rename_i h
    refine ⟨dec l, rfl, ?_⟩
    unfold getE at h
    split at h
    · exact absurd h (by decide)
    · split at h
      · exact absurd h (by decide)
      · omega
  · exact ⟨0, rfl, by omega⟩
theorem getN_four {l : List UInt8} (h : l.length ≤ 4) : ∃ m : Nat, getN l = (m : Int) ∧ m < 4294967296 := by
  have hd := dec_lt l
  have hp : 256 ^ l.length ≤ 256 ^ 4 := Nat.pow_le_pow_right (by omega) h
  have h4 : (256 : Nat) ^ 4 = 4294967296 := by decide
  unfold getN
  split
  · exact ⟨dec l, rfl, by omega⟩
  · exact ⟨0, rfl, by omega⟩
theorem fldN_enc {k m : Nat} (h1 : 1 ≤ k) (h2 : k ≤ 8) (h : m < 256 ^ k) (hm : m ≤ 9223372036854775807) : getN (enc k m) = (m : Int) := by
  have hd : dec (enc k m) = m := dec_enc_of_lt h
  have he : getE (enc k m) = 0 := by
    unfold getE
    rw [enc_length, if_neg (by omega), if_neg (by rw [hd]; omega)]
  unfold getN
  rw [if_pos he, hd]
theorem mid_enc {c : UInt8} {a b : List UInt8} {i k m : Nat} (ha : (c :: a).length = i) : ((c :: a ++ (enc k m ++ b)).drop i).take k = enc k m := by
  rw [List.drop_left' ha, List.take_left' (enc_length _ _)]
theorem rec_fld {num len : Nat} (h1 : num ≤ 9223372036854775807) (h2 : len < 4294967296) : fld (padB (recHead num len)) 9 13 = (len : Int) := by
  have e0 : padB (recHead num len) = 82 :: enc 8 num ++ (enc 4 len ++ List.replicate 19 0) := by
    unfold padB; rw [recHead_len h1 h2, recHead_enc h1 h2]; simp
  unfold fld
  rw [e0, mid_enc (by simp [enc_length])]
  exact fldN_enc (by omega) (by omega) (by simpa using h2) (by omega)
theorem slot_fld {gen len pos num : Nat} (h0 : gen ≤ 9223372036854775807) (h1 : len < 4294967296) (h2 : pos < 4294967296) (h3 : num ≤ 9223372036854775807) :
    fld (padB (slotHead gen len pos num)) 1 9 = (gen : Int) ∧ fld (padB (slotHead gen len pos num)) 9 13 = (len : Int) ∧ fld (padB (slotHead gen len pos num)) 13 17 = (pos : Int) ∧ fld (padB (slotHead gen len pos num)) 17 25 = (num : Int) := by
  have e0 : padB (slotHead gen len pos num) = 83 :: (enc 8 gen ++ (enc 4 len ++ (enc 4 pos ++ (enc 8 num ++ List.replicate 7 0)))) := by
    unfold padB; rw [slotHead_len h0 h1 h2 h3, slotHead_enc h0 h1 h2 h3]; simp
  have e1 : padB (slotHead gen len pos num) = 83 :: [] ++ (enc 8 gen ++ (enc 4 len ++ (enc 4 pos ++ (enc 8 num ++ List.replicate 7 0)))) := by rw [e0]; rfl
  have e2 : padB (slotHead gen len pos num) = 83 :: enc 8 gen ++ (enc 4 len ++ (enc 4 pos ++ (enc 8 num ++ List.replicate 7 0))) := by rw [e0]; rfl
  have e3 : padB (slotHead gen len pos num) = 83 :: (enc 8 gen ++ enc 4 len) ++ (enc 4 pos ++ (enc 8 num ++ List.replicate 7 0)) := by rw [e0]; simp
  have e4 : padB (slotHead gen len pos num) = 83 :: (enc 8 gen ++ enc 4 len ++ enc 4 pos) ++ (enc 8 num ++ List.replicate 7 0) := by rw [e0]; simp
  unfold fld
  refine ⟨?_, ?_, ?_, ?_⟩
  · rw [e1, mid_enc (by simp)]
    exact fldN_enc (by omega) (by omega) (by omega) h0
  · rw [e2, mid_enc (by simp [enc_length])]
    exact fldN_enc (by omega) (by omega) (by simpa using h1) (by omega)
  · rw [e3, mid_enc (by simp [enc_length])]
    exact fldN_enc (by omega) (by omega) (by simpa using h2) (by omega)
  · rw [e4, mid_enc (by simp [enc_length])]
    exact fldN_enc (by omega) (by omega) (by omega) h3

/-- A record's header: the document writes it anew, the program decodes it. -/
theorem rec_same {x : List UInt8} {num : Nat} (hl : x.length = 32) (hn : num ≤ 9223372036854775807) : (x = padB (recHead num (fld x 9 13)) ↔ decR x = some ((num : Int), fld x 9 13)) ∧ ∀ a b, decR x = some (a, b) → b = fld x 9 13 := by
  obtain ⟨m, hm, hm4⟩ := getN_four (l := (x.drop 9).take (13 - 9)) (by rw [List.length_take]; omega)
  have hf : fld x 9 13 = (m : Int) := hm
  refine ⟨⟨fun h => ?_, fun h => ?_⟩, fun a b h => ?_⟩
  · rw [hf] at h ⊢
    have := decR_enc (num := num) (len := m) hn hm4
    rw [← h] at this
    exact this
  · obtain ⟨_, _, _, _, _, _, e⟩ := decR_back hl h
    exact e
  · obtain ⟨u, v, rfl, rfl, h1, h2, e⟩ := decR_back hl h
    rw [e]
    exact (rec_fld h1 h2).symm
/-- A slot's header, likewise. -/
theorem slot_same {x : List UInt8} (hl : x.length = 32) : (x = padB (slotHead (fld x 1 9) (fld x 9 13) (fld x 13 17) (fld x 17 25)) ↔ decS x = some (fld x 1 9, fld x 9 13, fld x 13 17, fld x 17 25)) ∧ ∀ a b c d, decS x = some (a, b, c, d) → a = fld x 1 9 ∧ b = fld x 9 13 ∧ c = fld x 13 17 ∧ d = fld x 17 25 := by
  obtain ⟨m0, e0, h0⟩ := getN_nat ((x.drop 1).take (9 - 1))
  obtain ⟨m1, e1, h1⟩ := getN_four (l := (x.drop 9).take (13 - 9)) (by rw [List.length_take]; omega)
  obtain ⟨m2, e2, h2⟩ := getN_four (l := (x.drop 13).take (17 - 13)) (by rw [List.length_take]; omega)
  obtain ⟨m3, e3, h3⟩ := getN_nat ((x.drop 17).take (25 - 17))
  have f0 : fld x 1 9 = (m0 : Int) := e0
  have f1 : fld x 9 13 = (m1 : Int) := e1
  have f2 : fld x 13 17 = (m2 : Int) := e2
  have f3 : fld x 17 25 = (m3 : Int) := e3
  refine ⟨⟨fun h => ?_, fun h => ?_⟩, fun a b c d h => ?_⟩
  · rw [f0, f1, f2, f3] at h ⊢
    have := decS_enc (gen := m0) (len := m1) (pos := m2) (num := m3) h0 h1 h2 h3
    rw [← h] at this
    exact this
  · obtain ⟨_, _, _, _, _, _, _, _, _, _, _, _, e⟩ := decS_back hl h
    exact e
  · obtain ⟨a', b', c', d', rfl, rfl, rfl, rfl, k0, k1, k2, k3, e⟩ := decS_back hl h
    obtain ⟨q0, q1, q2, q3⟩ := slot_fld k0 k1 k2 k3
    rw [e]
    exact ⟨q0.symm, q1.symm, q2.symm, q3.symm⟩
end Go.Proofs.YtjeabnlmanfplaaGreatDoor

namespace Go.Proofs.YtjeabnlmanfplaaGreatDoor

/-- Does a slot count, as the document says? -/
def DocSlot (x : List UInt8) (n slot k : Nat) : Prop :=
  x = padB (slotHead (fld x 1 9) (fld x 9 13) (fld x 13 17) (fld x 17 25)) ∧ 1 ≤ fld x 1 9 ∧ fld x 1 9 ≤ 1099511627776 ∧ fld x 1 9 % 2 = (k : Int) ∧ fld x 9 13 ≤ 32 * ((slot : Int) - 1) ∧ fld x 13 17 < (n : Int) - 2 * (slot : Int) ∧ 1 ≤ fld x 17 25 ∧ fld x 17 25 ≤ 1099511627776
theorem sec_mod {g : Int} {slot k : Nat} (hs : 2 ≤ slot) (hk : k ≤ 1) : g % 2 * (slot : Int) = ((k * slot : Nat) : Int) ↔ g % 2 = (k : Int) := by
  have h2 : g % 2 = 0 ∨ g % 2 = 1 := by omega
  have hk2 : k = 0 ∨ k = 1 := by omega
  rcases h2 with e | e <;> rcases hk2 with rfl | rfl <;> rw [e] <;> simp <;> omega
/-- The step over a slot. -/
theorem step_doc {xs : List (List UInt8)} {slot k : Nat} (hs : 2 ≤ slot) (hk : k ≤ 1) (hf : 2 * slot + 3 ≤ xs.length) (hx : ∀ x ∈ xs, x.length = 32) (cur : Hd) :
    (DocSlot (xs.getD (k * slot) []) xs.length slot k ∧ cur.1 < fld (xs.getD (k * slot) []) 1 9 → stepS xs slot (k * slot) cur = (fld (xs.getD (k * slot) []) 1 9, fld (xs.getD (k * slot) []) 9 13, fld (xs.getD (k * slot) []) 13 17, fld (xs.getD (k * slot) []) 17 25)) ∧
    (¬ (DocSlot (xs.getD (k * slot) []) xs.length slot k ∧ cur.1 < fld (xs.getD (k * slot) []) 1 9) → stepS xs slot (k * slot) cur = cur) := by
  have hks : k * slot ≤ slot := by
    calc k * slot ≤ 1 * slot := Nat.mul_le_mul_right _ hk
      _ = slot := Nat.one_mul _
  have hl : (xs.getD (k * slot) []).length = 32 := by
    rw [List.getD_eq_getElem?_getD, List.getElem?_eq_getElem (by omega)]
    exact hx _ (List.getElem_mem _)
  unfold stepS
  generalize xs.getD (k * slot) [] = x at *
  obtain ⟨h1, h2⟩ := slot_same hl
  have hsm := sec_mod (g := fld x 1 9) hs hk
  cases hd : decS x with
  | none =>
    rw [hd] at h1
    refine ⟨fun h => ?_, fun _ => rfl⟩
    have := h1.1 h.1.1
    cases this
  | some r =>
    obtain ⟨a, b, c, d⟩ := r
    obtain ⟨rfl, rfl, rfl, rfl⟩ := h2 a b c d hd
    have hx2 := h1.2 hd
    refine ⟨fun h => ?_, fun h => ?_⟩
    · obtain ⟨⟨_, g1, g2, g3, g4, g5, g6, g7⟩, hlt⟩ := h
      simp only
      rw [if_pos]
      unfold validB
      rw [Bool.and_eq_true, decide_eq_true_iff, decide_eq_true_iff]
      exact ⟨⟨g1, g2, hsm.2 g3, g4, g5, g6, g7⟩, hlt⟩
    · simp only
      rw [if_neg]
      intro hv
      unfold validB at hv
      rw [Bool.and_eq_true, decide_eq_true_iff, decide_eq_true_iff] at hv
      obtain ⟨⟨g1, g2, g3, g4, g5, g6, g7⟩, hlt⟩ := hv
      exact h ⟨⟨hx2, g1, g2, hsm.1 g3, g4, g5, g6, g7⟩, hlt⟩

/-- Is there a record, as the document says? -/
def DocRec (x : List UInt8) (m used : Nat) (num : Int) : Prop := x = padB (recHead num (fld x 9 13)) ∧ fld x 9 13 ≤ 32 * (m : Int) ∧ used + 1 + secs (fld x 9 13).toNat < m
theorem rec_doc {xs : List (List UInt8)} {v : WalV} (hok : v.Ok xs.length) (hx : ∀ x ∈ xs, x.length = 32) (hn : 0 ≤ v.num) (hn2 : v.num ≤ 9223372036854775807) :
    (DocRec (xs.getD (2 * v.slot + v.place xs.length 0) []) (xs.length - 2 * v.slot) v.used v.num → recAt xs v = some (fld (xs.getD (2 * v.slot + v.place xs.length 0) []) 9 13).toNat) ∧
    (¬ DocRec (xs.getD (2 * v.slot + v.place xs.length 0) []) (xs.length - 2 * v.slot) v.used v.num → recAt xs v = none) := by
  have hp := WalV.place_lt hok 0
  have hfit := hok.fit
  have hl : (xs.getD (2 * v.slot + v.place xs.length 0) []).length = 32 := by
    rw [List.getD_eq_getElem?_getD, List.getElem?_eq_getElem (by omega)]
    exact hx _ (List.getElem_mem _)
  unfold recAt
  generalize xs.getD (2 * v.slot + v.place xs.length 0) [] = x at *
  obtain ⟨num, hnum⟩ := Int.eq_ofNat_of_zero_le hn
  rw [hnum] at hn2
  obtain ⟨h1, h2⟩ := rec_same (num := num) hl (by omega)
  obtain ⟨z, hz, hz4⟩ := getN_four (l := (x.drop 9).take (13 - 9)) (by rw [List.length_take]; omega)
  have hf : fld x 9 13 = (z : Int) := hz
  unfold DocRec
  rw [hnum]
  rw [hf] at h1 h2 ⊢
  rw [Int.toNat_natCast]
  refine ⟨fun h => ?_, fun h => ?_⟩
  · obtain ⟨q1, q2, q3⟩ := h
    rw [h1.1 q1]
    simp only
    rw [Int.toNat_natCast, if_pos]
    exact ⟨trivial, by omega⟩
  · cases hd : decR x with
    | none => rfl
    | some r =>
      obtain ⟨a, b⟩ := r
      have hb := h2 a b hd
      subst hb
      simp only
      rw [Int.toNat_natCast, if_neg]
      rintro ⟨e, hlt⟩
      rw [e] at hd
      refine h ⟨h1.2 hd, ?_, by omega⟩
      unfold secs at hlt
      omega
end Go.Proofs.YtjeabnlmanfplaaGreatDoor

namespace Go.Proofs.YtjeabnlmanfplaaGreatDoor

theorem readB_on {d : DSt} (hoff : d.off = false) {x : Nat} (hx : x < d.seen.length) : d.readB (x : Int) = d.seen.getD x [] := by
  have hh : d.has (x : Int) = true := by unfold DSt.has; simp; omega
  have he : d.readE (x : Int) = 0 := by unfold DSt.readE; rw [hoff, if_neg (by simp), if_pos hh]
  unfold DSt.readB
  rw [if_pos he, Int.toNat_natCast]
theorem getD_32 {xs : List (List UInt8)} (hx : ∀ x ∈ xs, x.length = 32) {i : Nat} (hi : i < xs.length) : (xs.getD i []).length = 32 := by
  rw [List.getD_eq_getElem?_getD, List.getElem?_eq_getElem hi]
  exact hx _ (List.getElem_mem _)
theorem readB_32 {d : DSt} (hoff : d.off = false) (hx : ∀ x ∈ d.seen, x.length = 32) {i : Nat} (hi : i < d.seen.length) : (d.readB (i : Int)).length = 32 := by
  rw [readB_on hoff hi]; exact getD_32 hx hi
theorem map_range_drop (xs : List (List UInt8)) (o : Nat) : ∀ k : Nat, o + k ≤ xs.length → (List.range k).map (fun j => xs.getD (o + j) []) = (xs.drop o).take k
  | 0, _ => by simp
  | k + 1, h => by
    rw [List.range_succ, List.map_append, map_range_drop xs o k (by omega)]
    have hk : k < (xs.drop o).length := by rw [List.length_drop]; omega
    rw [List.take_succ_eq_append_getElem hk]
    simp only [List.map_cons, List.map_nil, List.getElem_drop]
    rw [List.getD_eq_getElem?_getD, List.getElem?_eq_getElem (by omega)]
    rfl
theorem slots_read {d : DSt} (hoff : d.off = false) {slot k : Nat} (h : k * slot + slot ≤ d.seen.length) (hs : 1 ≤ slot) : readsL d (slotsL slot k) = ((d.seen.drop (k * slot + 1)).take (slot - 1)).flatten := by
  unfold readsL slotsL
  rw [List.map_map, ← map_range_drop d.seen (k * slot + 1) (slot - 1) (by omega)]
  congr 1
  refine List.map_congr_left fun j hj => ?_
  have := List.mem_range.1 hj
  exact readB_on hoff (show k * slot + 1 + j < d.seen.length by omega)
theorem take_flat {l : List (List UInt8)} (hl : ∀ x ∈ l, x.length = 32) {k n : Nat} (hn : n ≤ 32 * k) (hk : k ≤ l.length) : l.flatten.take n = (l.take k).flatten.take n := by
  have h : l.flatten = (l.take k).flatten ++ (l.drop k).flatten := by rw [← List.flatten_append, List.take_append_drop]
  have hf : (l.take k).flatten.length = 32 * k := by
    rw [flatten_32 _ (fun x hx => hl x (List.mem_of_mem_take hx)), List.length_take]; omega
  rw [h, List.take_append_of_le_length (by omega)]
theorem secs_le {n k : Nat} (h : n ≤ 32 * k) : secs n ≤ k := by unfold secs; omega
theorem le_secs (n : Nat) : n ≤ 32 * secs n := by unfold secs; omega
/-- The state that the document reads. -/
theorem state_link {d : DSt} (hoff : d.off = false) (hx : ∀ x ∈ d.seen, x.length = 32) {slot k gen len : Nat} (h : k * slot + slot ≤ d.seen.length) (hs : 1 ≤ slot) (hg : gen % 2 = k) (hl : len ≤ 32 * (slot - 1)) :
    (readsL d (slotsL slot k)).take len = stateOf d.seen slot gen len := by
  rw [slots_read hoff h hs]
  unfold stateOf
  rw [hg, take_flat (k := secs len) (fun x hx' => hx x (List.mem_of_mem_drop (List.mem_of_mem_take hx'))) (le_secs len) (by rw [List.length_take, List.length_drop]; have := secs_le hl; omega)]
  rw [List.take_take, Nat.min_eq_left (secs_le hl)]
theorem range_tail (k : Nat) : (List.range (1 + k)).tail = (List.range k).map (fun i => 1 + i) := by
  rw [Nat.add_comm, List.range_succ_eq_map, List.tail_cons]
  exact List.map_congr_left fun i _ => by omega
theorem around_tail (slot m place k : Nat) : (aroundL slot m place (1 + k)).tail = (List.range k).map (fun i => 2 * slot + (place + (1 + i)) % m) := by
  unfold aroundL
  rw [← List.map_tail, range_tail, List.map_map]
  rfl
/-- The record that the document reads. -/
theorem rec_link {d : DSt} (hoff : d.off = false) {v : WalV} (hok : v.Ok d.seen.length) (len : Nat) :
    (readsL d ((aroundL v.slot (d.seen.length - 2 * v.slot) v.next (1 + secs len)).tail)).take len = recB d.seen v len := by
  rw [around_tail]
  unfold readsL recB recSecs
  rw [List.map_map]
  congr 2
  refine List.map_congr_left fun i hi => ?_
  have hp := WalV.place_lt hok (1 + i)
  have hfit := hok.fit
  unfold WalV.place at hp
  exact readB_on hoff (show 2 * v.slot + (v.next + (1 + i)) % (d.seen.length - 2 * v.slot) < d.seen.length by omega)
end Go.Proofs.YtjeabnlmanfplaaGreatDoor

namespace Go.Proofs.YtjeabnlmanfplaaGreatDoor
open Go.RowKit

set_option maxHeartbeats 8000000 in
set_option maxRecDepth 100000 in
theorem DocSlotOf_no {w : World} {d : DSt} (ho : d.Ok) (ht : d.Tru) {fA aA wA : Option Addr} {fc ac wc : Nat} (h : RefAt w w.heap.size d.firm d.loose fA aA ac wA wc) (hl : d.loose.length ≤ 1000001) (L : Int) (slot k : Nat) (hs : 2 ≤ slot) (hk : k ≤ 1) (hf : 2 * slot + 3 ≤ d.firm.length)
    (hx : (d.readB ((k * slot : Nat) : Int)).length = 32) (hno : ¬ DocSlot (d.readB ((k * slot : Nat) : Int)) d.firm.length slot k) :
    Calls Tryz.prog 50 #[.agg #[.slice fA d.firm.length fc, .slice aA d.loose.length ac, .slice wA d.loose.length wc, .int .i64 L, .bool d.off], .int .i64 slot, .int .i64 k] w fun e w' => e = .returned (.tuple #[.agg #[.int .i64 0, .int .i64 0, .int .i64 0, .int .i64 0, .string ⟨#[]⟩, .slice none 0 0], .bool false]) ∧ Below w.heap.size w w' := by
  have HSec : Hid (∀ w', Below w.heap.size w w' → ∀ x : Nat, Calls Tryz.prog 51 #[.agg #[.slice fA d.firm.length fc, .slice aA d.loose.length ac, .slice wA d.loose.length wc, .int .i64 L, .bool d.off], .int .i64 (x : Int)] w' fun e w'' => e = .returned (.string (str (d.readB (x : Int)))) ∧ Below w'.heap.size w' w'') := Lib.hid (fun w' hb x => DocSector_any ho ht (h.next hb) hl x L)
  have hN : d.firm.length ≤ 4096 := by rw [ho.len]; exact ho.le
  obtain ⟨P, hP⟩ : ∃ P : Nat, k * slot = P := ⟨_, rfl⟩
  have hPz : (k : Int) * (slot : Int) = (P : Int) := by rw [← hP]; simp
  have hks : k * slot ≤ slot := by
    calc k * slot ≤ 1 * slot := Nat.mul_le_mul_right _ hk
      _ = slot := Nat.one_mul _
  have hPs : P ≤ slot := by omega
  have hPw : IntKind.i64.wrap ((k : Int) * (slot : Int)) = (P : Int) := by rw [hPz, IntKind.wrap_i64]; omega
  rw [hP] at hx hno
  have HSc : Hid (∀ w', Below w.heap.size w w' → Calls Tryz.prog 51 #[.agg #[.slice fA d.firm.length fc, .slice aA d.loose.length ac, .slice wA d.loose.length wc, .int .i64 L, .bool d.off], .int .i64 (P : Int)] w' fun e w'' => e = .returned (.string (str (d.readB (P : Int)))) ∧ Below w'.heap.size w' w'') := Lib.hid (fun w' hb => HSec.out w' hb P)
  generalize d.readB (P : Int) = x at *
  generalize d.firm.length = N at *
  generalize d.loose.length = m at *
  generalize d.off = o at *
  have hxs : (str x).size = 32 := by rw [str_size]; exact hx
  have hG : ∀ i j : Nat, i ≤ j → j ≤ 32 → ∀ w, Calls Tryz.prog 52 #[.string (str x), .int .i64 i, .int .i64 j] w fun e w' => e = .returned (.int .i64 (fld x i j)) ∧ w = w' := fun i j hi hj w => by
    have := DocGet_any (str x) i j (by omega) hi (by omega) w
    rw [str_list] at this
    exact this
  obtain ⟨G, hg, hg2⟩ := getN_nat ((x.drop 1).take (9 - 1))
  obtain ⟨Z, hz, hz2⟩ := getN_four (l := (x.drop 9).take (13 - 9)) (by rw [List.length_take]; omega)
  obtain ⟨Q, hq, hq2⟩ := getN_four (l := (x.drop 13).take (17 - 13)) (by rw [List.length_take]; omega)
  obtain ⟨U, hu, hu2⟩ := getN_nat ((x.drop 17).take (25 - 17))
  have f0 : fld x 1 9 = (G : Int) := hg
  have f1 : fld x 9 13 = (Z : Int) := hz
  have f2 : fld x 13 17 = (Q : Int) := hq
  have f3 : fld x 17 25 = (U : Int) := hu
  have K0 := hG 1 9 (by omega) (by omega)
  have K1 := hG 9 13 (by omega) (by omega)
  have K2 := hG 13 17 (by omega) (by omega)
  have K3 := hG 17 25 (by omega) (by omega)
  rw [f0] at K0
  rw [f1] at K1
  rw [f2] at K2
  rw [f3] at K3
  replace K0 := Lib.hid K0
  replace K1 := Lib.hid K1
  replace K2 := Lib.hid K2
  replace K3 := Lib.hid K3
  have HSH : Hid (∀ w, Calls Tryz.prog 62 #[.int .i64 G, .int .i64 Z, .int .i64 Q, .int .i64 U] w fun e w' => e = .returned (.string (str (padB (slotHead G Z Q U)))) ∧ Below w.heap.size w w') := Lib.hid (fun w => DocSlotHead_any G Z Q U w (by omega) (by omega) (by omega) (by omega))
  unfold DocSlot at hno
  rw [f0, f1, f2, f3] at hno
  have hseq : (str x).toList = (str (padB (slotHead G Z Q U))).toList → x = padB (slotHead G Z Q U) := fun e => by rwa [Lib.toList_data, str_list, Lib.toList_data, str_list] at e
  obtain ⟨S, hS⟩ : ∃ S, str x = S := ⟨_, rfl⟩
  obtain ⟨S2, hS2⟩ : ∃ S, str (padB (slotHead G Z Q U)) = S := ⟨_, rfl⟩
  rw [hS] at HSc K0 K1 K2 K3 hseq
  rw [hS2] at HSH hseq
  have hw32 : (32 : Int) * ((slot : Int) - 1) = 32 * (slot : Int) - 32 := by omega
  have HB0 : Hid (Below w.heap.size w ((w.alloc (.cells #[.slice fA N fc, .slice aA m ac, .slice wA m wc, .int .i64 L, .bool o] 30)).alloc (.cells #[.int .i64 0, .int .i64 0, .int .i64 0, .int .i64 0, .string ⟨#[]⟩, .slice none 0 0] 38))) := Lib.hid (((Below.refl _ _).alloc (Nat.le_refl _) _).alloc (by simp) _)
  have HC0 : Hid (∀ w', Below ((w.alloc (.cells #[.slice fA N fc, .slice aA m ac, .slice wA m wc, .int .i64 L, .bool o] 30)).alloc (.cells #[.int .i64 0, .int .i64 0, .int .i64 0, .int .i64 0, .string ⟨#[]⟩, .slice none 0 0] 38)).heap.size ((w.alloc (.cells #[.slice fA N fc, .slice aA m ac, .slice wA m wc, .int .i64 L, .bool o] 30)).alloc (.cells #[.int .i64 0, .int .i64 0, .int .i64 0, .int .i64 0, .string ⟨#[]⟩, .slice none 0 0] 38)) w' → w'.heap[w.heap.size]? = some (.cells #[.slice fA N fc, .slice aA m ac, .slice wA m wc, .int .i64 L, .bool o] 30 (0, 0)) ∧ w'.heap[w.heap.size + 1]? = some (.cells #[.int .i64 0, .int .i64 0, .int .i64 0, .int .i64 0, .string ⟨#[]⟩, .slice none 0 0] 38 (0, 0))) := Lib.hid (fun w' hb => by
    have hsz : ((w.alloc (.cells #[.slice fA N fc, .slice aA m ac, .slice wA m wc, .int .i64 L, .bool o] 30)).alloc (.cells #[.int .i64 0, .int .i64 0, .int .i64 0, .int .i64 0, .string ⟨#[]⟩, .slice none 0 0] 38)).heap.size = w.heap.size + 1 + 1 := by simp
    rw [hsz] at hb
    refine ⟨?_, ?_⟩
    · rw [hb.block _ (by omega), Below.heap_alloc _ _ _ (by simp)]
      exact heap_alloc_new _ _
    · rw [hb.block _ (by omega)]
      have := heap_alloc_new (w.alloc (.cells #[.slice fA N fc, .slice aA m ac, .slice wA m wc, .int .i64 L, .bool o] 30)) (.cells #[.int .i64 0, .int .i64 0, .int .i64 0, .int .i64 0, .string ⟨#[]⟩, .slice none 0 0] 38)
      simpa using this)
  clear ho ht h hl HSec hG hg hz hq hu f0 f1 f2 f3 hx hxs hS hS2 hP hPz hks
  go_enter Tryz.func50, Tryz.ntmps50
  go_wp2_with fail
  refine (HSc.out _ HB0.out).mono ?_
  rintro e w1 ⟨rfl, hb1⟩
  have HB1 := Lib.hid (below_next HB0.out hb1)
  replace HC0 := Lib.hid (fun w' (hb : Below w1.heap.size w1 w') => HC0.out w' (below_next hb1 hb))
  clear hb1
  go_wp2_with fail
  refine (K0.out _).mono ?_
  rintro e w' ⟨rfl, rfl⟩
  go_wp2_with fail
  refine (K1.out _).mono ?_
  rintro e w' ⟨rfl, rfl⟩
  go_wp2_with fail
  refine (K2.out _).mono ?_
  rintro e w' ⟨rfl, rfl⟩
  go_wp2_with fail
  refine (K3.out _).mono ?_
  rintro e w' ⟨rfl, rfl⟩
  go_wp2_with fail
  refine (HSH.out _).mono ?_
  rintro e w2 ⟨rfl, hb2⟩
  have HB2 := Lib.hid (below_next HB1.out hb2)
  obtain ⟨h1, h2⟩ := HC0.out _ hb2
  clear hb2 HC0
  have d0 : w2.cell? ⟨w.heap.size, 0, none⟩ = some (.slice fA N fc) := by rw [Lib.cell_of_heap h1]; rfl
  have k0 := Lib.cell_of_heap h2
  have k1 := Lib.frozen_of_heap h2
  have HH2 := Lib.hid h2
  clear h1 h2
  have n0 : (0 : Int) ≤ (G : Int) := Int.natCast_nonneg _
  have n1 : (0 : Int) ≤ (U : Int) := Int.natCast_nonneg _
  have n2 : (0 : Int) ≤ (Q : Int) := Int.natCast_nonneg _
  have n3 : (0 : Int) ≤ (Z : Int) := Int.natCast_nonneg _
  by_cases q0 : S.toList = S2.toList
  case neg =>
    clear hno hseq
    go_wp2_with fail
    exact bodyPost_ret (v := .tuple #[.agg #[.int .i64 0, .int .i64 0, .int .i64 0, .int .i64 0, .string ⟨#[]⟩, .slice none 0 0], .bool false]) (by simp [results, Tryz.results50, go_sem, k0]) rfl ⟨rfl, (((((HB2.out.setCell (by simp) _).setCell (by simp) _).setCell (by simp) _).setCell (by simp) _).setCell (by simp) _).setCell (by simp) _⟩
  by_cases q1 : 1 ≤ (G : Int)
  case neg =>
    have r1 : (G : Int) < 1 := by omega
    clear hno hseq
    go_wp2_with fail
    exact bodyPost_ret (v := .tuple #[.agg #[.int .i64 0, .int .i64 0, .int .i64 0, .int .i64 0, .string ⟨#[]⟩, .slice none 0 0], .bool false]) (by simp [results, Tryz.results50, go_sem, k0]) rfl ⟨rfl, (((((HB2.out.setCell (by simp) _).setCell (by simp) _).setCell (by simp) _).setCell (by simp) _).setCell (by simp) _).setCell (by simp) _⟩
  have r1 : ¬ (G : Int) < 1 := by omega
  by_cases q2 : (G : Int) ≤ 1099511627776
  case neg =>
    have r2 : 1099511627776 < (G : Int) := by omega
    clear hno hseq
    go_wp2_with fail
    exact bodyPost_ret (v := .tuple #[.agg #[.int .i64 0, .int .i64 0, .int .i64 0, .int .i64 0, .string ⟨#[]⟩, .slice none 0 0], .bool false]) (by simp [results, Tryz.results50, go_sem, k0]) rfl ⟨rfl, (((((HB2.out.setCell (by simp) _).setCell (by simp) _).setCell (by simp) _).setCell (by simp) _).setCell (by simp) _).setCell (by simp) _⟩
  have r2 : ¬ 1099511627776 < (G : Int) := by omega
  by_cases q3 : (G : Int) % 2 = (k : Int)
  case neg =>
    clear hno hseq
    go_wp2_with fail
    exact bodyPost_ret (v := .tuple #[.agg #[.int .i64 0, .int .i64 0, .int .i64 0, .int .i64 0, .string ⟨#[]⟩, .slice none 0 0], .bool false]) (by simp [results, Tryz.results50, go_sem, k0]) rfl ⟨rfl, (((((HB2.out.setCell (by simp) _).setCell (by simp) _).setCell (by simp) _).setCell (by simp) _).setCell (by simp) _).setCell (by simp) _⟩
  by_cases q4 : (Z : Int) ≤ 32 * ((slot : Int) - 1)
  case neg =>
    have r4 : 32 * ((slot : Int) - 1) < (Z : Int) := by omega
    clear hno hseq
    go_wp2_with fail
    exact bodyPost_ret (v := .tuple #[.agg #[.int .i64 0, .int .i64 0, .int .i64 0, .int .i64 0, .string ⟨#[]⟩, .slice none 0 0], .bool false]) (by simp [results, Tryz.results50, go_sem, k0]) rfl ⟨rfl, (((((HB2.out.setCell (by simp) _).setCell (by simp) _).setCell (by simp) _).setCell (by simp) _).setCell (by simp) _).setCell (by simp) _⟩
  have r4 : ¬ 32 * ((slot : Int) - 1) < (Z : Int) := by omega
  by_cases q5 : (Q : Int) < (N : Int) - 2 * (slot : Int)
  case neg =>
    have r5 : (N : Int) - 2 * (slot : Int) ≤ (Q : Int) := by omega
    clear hno hseq
    go_wp2_with fail
    exact bodyPost_ret (v := .tuple #[.agg #[.int .i64 0, .int .i64 0, .int .i64 0, .int .i64 0, .string ⟨#[]⟩, .slice none 0 0], .bool false]) (by simp [results, Tryz.results50, go_sem, k0]) rfl ⟨rfl, (((((HB2.out.setCell (by simp) _).setCell (by simp) _).setCell (by simp) _).setCell (by simp) _).setCell (by simp) _).setCell (by simp) _⟩
  have r5 : ¬ (N : Int) - 2 * (slot : Int) ≤ (Q : Int) := by omega
  by_cases q6 : 1 ≤ (U : Int)
  case neg =>
    have r6 : (U : Int) < 1 := by omega
    clear hno hseq
    go_wp2_with fail
    exact bodyPost_ret (v := .tuple #[.agg #[.int .i64 0, .int .i64 0, .int .i64 0, .int .i64 0, .string ⟨#[]⟩, .slice none 0 0], .bool false]) (by simp [results, Tryz.results50, go_sem, k0]) rfl ⟨rfl, (((((HB2.out.setCell (by simp) _).setCell (by simp) _).setCell (by simp) _).setCell (by simp) _).setCell (by simp) _).setCell (by simp) _⟩
  have r6 : ¬ (U : Int) < 1 := by omega
  by_cases q7 : (U : Int) ≤ 1099511627776
  case neg =>
    have r7 : 1099511627776 < (U : Int) := by omega
    clear hno hseq
    go_wp2_with fail
    exact bodyPost_ret (v := .tuple #[.agg #[.int .i64 0, .int .i64 0, .int .i64 0, .int .i64 0, .string ⟨#[]⟩, .slice none 0 0], .bool false]) (by simp [results, Tryz.results50, go_sem, k0]) rfl ⟨rfl, (((((HB2.out.setCell (by simp) _).setCell (by simp) _).setCell (by simp) _).setCell (by simp) _).setCell (by simp) _).setCell (by simp) _⟩
  have r7 : ¬ 1099511627776 < (U : Int) := by omega
  exact absurd ⟨hseq q0, q1, q2, q3, q4, q5, q6, q7⟩ hno
end Go.Proofs.YtjeabnlmanfplaaGreatDoor

namespace Go.Proofs.YtjeabnlmanfplaaGreatDoor
open Go.RowKit

set_option maxHeartbeats 8000000 in
set_option maxRecDepth 100000 in
theorem DocSlotOf_yes {w : World} {d : DSt} (ho : d.Ok) (ht : d.Tru) {fA aA wA : Option Addr} {fc ac wc : Nat} (h : RefAt w w.heap.size d.firm d.loose fA aA ac wA wc) (hl : d.loose.length ≤ 1000001) (L : Int) (slot k : Nat) (hs : 2 ≤ slot) (hk : k ≤ 1) (hf : 2 * slot + 3 ≤ d.firm.length)
    (hx : (d.readB ((k * slot : Nat) : Int)).length = 32) (hx32 : ∀ x : Nat, x < d.firm.length → (d.readB (x : Int)).length = 32) (hno : DocSlot (d.readB ((k * slot : Nat) : Int)) d.firm.length slot k) :
    Calls Tryz.prog 50 #[.agg #[.slice fA d.firm.length fc, .slice aA d.loose.length ac, .slice wA d.loose.length wc, .int .i64 L, .bool d.off], .int .i64 slot, .int .i64 k] w fun e w' => e = .returned (.tuple #[.agg #[.int .i64 (fld (d.readB ((k * slot : Nat) : Int)) 1 9), .int .i64 (fld (d.readB ((k * slot : Nat) : Int)) 13 17), .int .i64 (fld (d.readB ((k * slot : Nat) : Int)) 17 25), .int .i64 0, .string (str ((readsL d (slotsL slot k)).take (fld (d.readB ((k * slot : Nat) : Int)) 9 13).toNat)), .slice none 0 0], .bool true]) ∧ Below w.heap.size w w' := by
  have HSec : Hid (∀ w', Below w.heap.size w w' → ∀ x : Nat, Calls Tryz.prog 51 #[.agg #[.slice fA d.firm.length fc, .slice aA d.loose.length ac, .slice wA d.loose.length wc, .int .i64 L, .bool d.off], .int .i64 (x : Int)] w' fun e w'' => e = .returned (.string (str (d.readB (x : Int)))) ∧ Below w'.heap.size w' w'') := Lib.hid (fun w' hb x => DocSector_any ho ht (h.next hb) hl x L)
  have hN : d.firm.length ≤ 4096 := by rw [ho.len]; exact ho.le
  obtain ⟨P, hP⟩ : ∃ P : Nat, k * slot = P := ⟨_, rfl⟩
  have hPz : (k : Int) * (slot : Int) = (P : Int) := by rw [← hP]; simp
  have hks : k * slot ≤ slot := by
    calc k * slot ≤ 1 * slot := Nat.mul_le_mul_right _ hk
      _ = slot := Nat.one_mul _
  have hPs : P ≤ slot := by omega
  have hPw : IntKind.i64.wrap ((k : Int) * (slot : Int)) = (P : Int) := by rw [hPz, IntKind.wrap_i64]; omega
  have hslots : ∀ x ∈ slotsL slot k, x < d.firm.length := fun x hx => by
    unfold slotsL at hx
    obtain ⟨j, hj, rfl⟩ := List.mem_map.1 hx
    have := List.mem_range.1 hj
    omega
  have HBy : Hid (∀ (w' : World) (A : Option Addr) (c n : Nat), Below w.heap.size w w' → Lies w' w'.heap.size A ((slotsL slot k).map natV) → n ≤ 32 * (slot - 1) → Calls Tryz.prog 56 #[.agg #[.slice fA d.firm.length fc, .slice aA d.loose.length ac, .slice wA d.loose.length wc, .int .i64 L, .bool d.off], .int .i64 n, .slice A (slot - 1) c] w' fun e w'' => e = .returned (.string (str ((readsL d (slotsL slot k)).take n))) ∧ Below w'.heap.size w' w'') := Lib.hid (fun w' A c n hb hA hn => by
    have := DocBytes_any (c := c) (fc := fc) (ac := ac) (wc := wc) ho ht (h.next hb) hl L n (slotsL slot k) hA (fun x hx => hx32 x (hslots x hx)) (by rw [slotsL_length]; exact hn) (by rw [slotsL_length]; omega)
    rw [slotsL_length] at this
    exact this)
  have HSl := Lib.hid (fun w' => DocSlots_any slot k (by omega) hk (by omega) w')
  obtain ⟨RD, hRD⟩ : ∃ RD, readsL d (slotsL slot k) = RD := ⟨_, rfl⟩
  rw [hRD] at HBy ⊢
  clear hRD hslots
  rw [hP] at hx hno ⊢
  have HSc : Hid (∀ w', Below w.heap.size w w' → Calls Tryz.prog 51 #[.agg #[.slice fA d.firm.length fc, .slice aA d.loose.length ac, .slice wA d.loose.length wc, .int .i64 L, .bool d.off], .int .i64 (P : Int)] w' fun e w'' => e = .returned (.string (str (d.readB (P : Int)))) ∧ Below w'.heap.size w' w'') := Lib.hid (fun w' hb => HSec.out w' hb P)
  generalize d.readB (P : Int) = x at *
  generalize d.firm.length = N at *
  generalize d.loose.length = m at *
  generalize d.off = o at *
  have hxs : (str x).size = 32 := by rw [str_size]; exact hx
  have hG : ∀ i j : Nat, i ≤ j → j ≤ 32 → ∀ w, Calls Tryz.prog 52 #[.string (str x), .int .i64 i, .int .i64 j] w fun e w' => e = .returned (.int .i64 (fld x i j)) ∧ w = w' := fun i j hi hj w => by
    have := DocGet_any (str x) i j (by omega) hi (by omega) w
    rw [str_list] at this
    exact this
  obtain ⟨G, hg, hg2⟩ := getN_nat ((x.drop 1).take (9 - 1))
  obtain ⟨Z, hz, hz2⟩ := getN_four (l := (x.drop 9).take (13 - 9)) (by rw [List.length_take]; omega)
  obtain ⟨Q, hq, hq2⟩ := getN_four (l := (x.drop 13).take (17 - 13)) (by rw [List.length_take]; omega)
  obtain ⟨U, hu, hu2⟩ := getN_nat ((x.drop 17).take (25 - 17))
  have f0 : fld x 1 9 = (G : Int) := hg
  have f1 : fld x 9 13 = (Z : Int) := hz
  have f2 : fld x 13 17 = (Q : Int) := hq
  have f3 : fld x 17 25 = (U : Int) := hu
  have K0 := hG 1 9 (by omega) (by omega)
  have K1 := hG 9 13 (by omega) (by omega)
  have K2 := hG 13 17 (by omega) (by omega)
  have K3 := hG 17 25 (by omega) (by omega)
  rw [f0] at K0
  rw [f1] at K1
  rw [f2] at K2
  rw [f3] at K3
  replace K0 := Lib.hid K0
  replace K1 := Lib.hid K1
  replace K2 := Lib.hid K2
  replace K3 := Lib.hid K3
  have HSH : Hid (∀ w, Calls Tryz.prog 62 #[.int .i64 G, .int .i64 Z, .int .i64 Q, .int .i64 U] w fun e w' => e = .returned (.string (str (padB (slotHead G Z Q U)))) ∧ Below w.heap.size w w') := Lib.hid (fun w => DocSlotHead_any G Z Q U w (by omega) (by omega) (by omega) (by omega))
  unfold DocSlot at hno
  rw [f0, f1, f2, f3] at hno ⊢
  rw [Int.toNat_natCast]
  have hseq : (str x).toList = (str (padB (slotHead G Z Q U))).toList := by rw [← hno.1]
  obtain ⟨S, hS⟩ : ∃ S, str x = S := ⟨_, rfl⟩
  obtain ⟨S2, hS2⟩ : ∃ S, str (padB (slotHead G Z Q U)) = S := ⟨_, rfl⟩
  rw [hS] at HSc K0 K1 K2 K3 hseq
  rw [hS2] at HSH hseq
  have hw32 : (32 : Int) * ((slot : Int) - 1) = 32 * (slot : Int) - 32 := by omega
  have HB0 : Hid (Below w.heap.size w ((w.alloc (.cells #[.slice fA N fc, .slice aA m ac, .slice wA m wc, .int .i64 L, .bool o] 30)).alloc (.cells #[.int .i64 0, .int .i64 0, .int .i64 0, .int .i64 0, .string ⟨#[]⟩, .slice none 0 0] 38))) := Lib.hid (((Below.refl _ _).alloc (Nat.le_refl _) _).alloc (by simp) _)
  have HC0 : Hid (∀ w', Below ((w.alloc (.cells #[.slice fA N fc, .slice aA m ac, .slice wA m wc, .int .i64 L, .bool o] 30)).alloc (.cells #[.int .i64 0, .int .i64 0, .int .i64 0, .int .i64 0, .string ⟨#[]⟩, .slice none 0 0] 38)).heap.size ((w.alloc (.cells #[.slice fA N fc, .slice aA m ac, .slice wA m wc, .int .i64 L, .bool o] 30)).alloc (.cells #[.int .i64 0, .int .i64 0, .int .i64 0, .int .i64 0, .string ⟨#[]⟩, .slice none 0 0] 38)) w' → w'.heap[w.heap.size]? = some (.cells #[.slice fA N fc, .slice aA m ac, .slice wA m wc, .int .i64 L, .bool o] 30 (0, 0)) ∧ w'.heap[w.heap.size + 1]? = some (.cells #[.int .i64 0, .int .i64 0, .int .i64 0, .int .i64 0, .string ⟨#[]⟩, .slice none 0 0] 38 (0, 0))) := Lib.hid (fun w' hb => by
    have hsz : ((w.alloc (.cells #[.slice fA N fc, .slice aA m ac, .slice wA m wc, .int .i64 L, .bool o] 30)).alloc (.cells #[.int .i64 0, .int .i64 0, .int .i64 0, .int .i64 0, .string ⟨#[]⟩, .slice none 0 0] 38)).heap.size = w.heap.size + 1 + 1 := by simp
    rw [hsz] at hb
    refine ⟨?_, ?_⟩
    · rw [hb.block _ (by omega), Below.heap_alloc _ _ _ (by simp)]
      exact heap_alloc_new _ _
    · rw [hb.block _ (by omega)]
      have := heap_alloc_new (w.alloc (.cells #[.slice fA N fc, .slice aA m ac, .slice wA m wc, .int .i64 L, .bool o] 30)) (.cells #[.int .i64 0, .int .i64 0, .int .i64 0, .int .i64 0, .string ⟨#[]⟩, .slice none 0 0] 38)
      simpa using this)
  obtain ⟨_, q1, q2, q3, q4, q5, q6, q7⟩ := hno
  have HZ : Hid (Z ≤ 32 * (slot - 1)) := Lib.hid (by omega)
  have hb2k : k ≤ 4096 := by omega
  clear ho ht h hl HSec hG hg hz hq hu f0 f1 f2 f3 hx hx32 hxs hS hS2 hP hPz hks
  go_enter Tryz.func50, Tryz.ntmps50
  go_wp2_with fail
  refine (HSc.out _ HB0.out).mono ?_
  rintro e w1 ⟨rfl, hb1⟩
  have HB1 := Lib.hid (below_next HB0.out hb1)
  replace HC0 := Lib.hid (fun w' (hb : Below w1.heap.size w1 w') => HC0.out w' (below_next hb1 hb))
  clear hb1
  go_wp2_with fail
  refine (K0.out _).mono ?_
  rintro e w' ⟨rfl, rfl⟩
  go_wp2_with fail
  refine (K1.out _).mono ?_
  rintro e w' ⟨rfl, rfl⟩
  go_wp2_with fail
  refine (K2.out _).mono ?_
  rintro e w' ⟨rfl, rfl⟩
  go_wp2_with fail
  refine (K3.out _).mono ?_
  rintro e w' ⟨rfl, rfl⟩
  go_wp2_with fail
  refine (HSH.out _).mono ?_
  rintro e w2 ⟨rfl, hb2⟩
  have HB2 := Lib.hid (below_next HB1.out hb2)
  obtain ⟨h1, h2⟩ := HC0.out _ hb2
  clear hb2 HC0
  have HH1 := Lib.hid h1
  have d0 : w2.cell? ⟨w.heap.size, 0, none⟩ = some (.slice fA N fc) := by rw [Lib.cell_of_heap h1]; rfl
  have k0 := Lib.cell_of_heap h2
  have k1 := Lib.frozen_of_heap h2
  have HH2 := Lib.hid h2
  clear h1 h2
  have n0 : (0 : Int) ≤ (G : Int) := Int.natCast_nonneg _
  have n1 : (0 : Int) ≤ (U : Int) := Int.natCast_nonneg _
  have n2 : (0 : Int) ≤ (Q : Int) := Int.natCast_nonneg _
  have n3 : (0 : Int) ≤ (Z : Int) := Int.natCast_nonneg _
  have r1 : ¬ (G : Int) < 1 := by omega
  have r2 : ¬ 1099511627776 < (G : Int) := by omega
  have r4 : ¬ 32 * ((slot : Int) - 1) < (Z : Int) := by omega
  have r5 : ¬ (N : Int) - 2 * (slot : Int) ≤ (Q : Int) := by omega
  have r6 : ¬ (U : Int) < 1 := by omega
  have r7 : ¬ 1099511627776 < (U : Int) := by omega
  go_wp2_with fail
  have HDC : ∀ w', Below (w.heap.size + 1) w2 w' → w'.cell? ⟨w.heap.size, 0, none⟩ = some (.slice fA N fc) ∧ w'.cell? ⟨w.heap.size, 1, none⟩ = some (.slice aA m ac) ∧ w'.cell? ⟨w.heap.size, 2, none⟩ = some (.slice wA m wc) ∧ w'.cell? ⟨w.heap.size, 3, none⟩ = some (.int .i64 L) ∧ w'.cell? ⟨w.heap.size, 4, none⟩ = some (.bool o) := fun w' hb => by
    have hh : w'.heap[w.heap.size]? = _ := (hb.block w.heap.size (by omega)).trans HH1.out
    refine ⟨?_, ?_, ?_, ?_, ?_⟩ <;> rw [Lib.cell_of_heap hh] <;> rfl
  have hH2 : w.heap.size + 1 < w2.heap.size := heap_lt HH2.out
  replace HDC := Lib.hid HDC
  clear d0 k0 k1
  refine wp_region_held_drew (S := fun w' => Below (w.heap.size + 1) w2 w') (by kernel_rfl) (Below.refl _ _).drew (fun hHeld => ?_)
  refine wpAnyH_take (i := 0) (oi := { dst := some 73, op := Op.move (Operand.tmp 9), type := 3, pos := "ref.go:90", after := #[], guard := none }) (v := .int .i64 G) rfl (by kernel_rfl) (by kernel_rfl) (by kernel_rfl) (fun _ _ _ h => h) (Or.inl ⟨by rfl, fun w hS => by go_simp⟩) hHeld ?_
  try simp only [Act.put, List.setIfInBounds_toArray, List.set_cons_zero, List.set_cons_succ]
  refine wpAnyH_take (i := 1) (oi := { dst := some 74, op := Op.move (Operand.tmp 11), type := 3, pos := "ref.go:90", after := #[], guard := none }) (v := .int .i64 Q) rfl (by kernel_rfl) (by kernel_rfl) (by kernel_rfl) (fun _ _ _ h => h) (Or.inl ⟨by rfl, fun w hS => by go_simp⟩) hHeld ?_
  try simp only [Act.put, List.setIfInBounds_toArray, List.set_cons_zero, List.set_cons_succ]
  refine wpAnyH_take (i := 2) (oi := { dst := some 75, op := Op.move (Operand.tmp 12), type := 3, pos := "ref.go:90", after := #[], guard := none }) (v := .int .i64 U) rfl (by kernel_rfl) (by kernel_rfl) (by kernel_rfl) (fun _ _ _ h => h) (Or.inl ⟨by rfl, fun w hS => by go_simp⟩) hHeld ?_
  try simp only [Act.put, List.setIfInBounds_toArray, List.set_cons_zero, List.set_cons_succ]
  refine wpAnyH_take (i := 3) (oi := { dst := some 76, op := Op.load 30 (Operand.tmp 3), type := 30, pos := "ref.go:90", after := #[], guard := none }) (v := .agg #[.slice fA N fc, .slice aA m ac, .slice wA m wc, .int .i64 L, .bool o]) rfl (by kernel_rfl) (by kernel_rfl) (by kernel_rfl) (fun _ _ _ h => h) (Or.inl ⟨by rfl, fun w hS => by obtain ⟨s0, s1, s2, s3, s4⟩ := HDC.out w hS; go_simp⟩) hHeld ?_
  try simp only [Act.put, List.setIfInBounds_toArray, List.set_cons_zero, List.set_cons_succ]
  refine wpAnyH_take (i := 4) (oi := { dst := some 77, op := Op.move (Operand.tmp 10), type := 3, pos := "ref.go:90", after := #[], guard := none }) (v := .int .i64 Z) rfl (by kernel_rfl) (by kernel_rfl) (by kernel_rfl) (fun _ _ _ h => h) (Or.inl ⟨by rfl, fun w hS => by go_simp⟩) hHeld ?_
  try simp only [Act.put, List.setIfInBounds_toArray, List.set_cons_zero, List.set_cons_succ]
  refine wpAnyH_take (i := 5) (oi := { dst := some 78, op := Op.move (Operand.tmp 1), type := 3, pos := "ref.go:90", after := #[], guard := none }) (v := .int .i64 slot) rfl (by kernel_rfl) (by kernel_rfl) (by kernel_rfl) (fun _ _ _ h => h) (Or.inl ⟨by rfl, fun w hS => by go_simp⟩) hHeld ?_
  try simp only [Act.put, List.setIfInBounds_toArray, List.set_cons_zero, List.set_cons_succ]
  refine wpAnyH_take (i := 6) (oi := { dst := some 79, op := Op.move (Operand.tmp 2), type := 3, pos := "ref.go:90", after := #[], guard := none }) (v := .int .i64 k) rfl (by kernel_rfl) (by kernel_rfl) (by kernel_rfl) (fun _ _ _ h => h) (Or.inl ⟨by rfl, fun w hS => by go_simp⟩) hHeld ?_
  try simp only [Act.put, List.setIfInBounds_toArray, List.set_cons_zero, List.set_cons_succ]
  have HBd : Hid (Below w2.heap.size w2 w2.drew) := Lib.hid (Below.refl _ _).drew
  generalize w2.drew = W at *
  refine wpAnyH_ready (rs := [7]) (by kernel_rfl) (by simp) ?_
  refine AllReadyH.cons (o := { dst := some 80, op := Op.call { callee := Callee.value (Operand.func 61), args := #[Operand.tmp 78, Operand.tmp 79], argTypes := #[3, 3] }, type := 28, pos := "ref.go:90", after := #[{ on := 5, ground := Ground.data }, { on := 6, ground := Ground.data }], guard := none }) rfl (fun K hK => ?_) AllReadyH.nil
  rw [if_pos (by rfl)]
  go_simp
  refine (HSl.out _).mono ?_
  rintro e w4 ⟨A4, c4, rfl, hl4, hb4⟩
  go_wp2_with fail
  have HB4 := Lib.hid (below_next HBd.out hb4)
  have HL4 := Lib.hid hl4
  clear hl4 hb4
  refine hK.out _ _ (HB4.out.mono (by omega)) (fun hHeld2 => ?_)
  clear hK K
  try simp only [Act.put, List.setIfInBounds_toArray, List.set_cons_zero, List.set_cons_succ]
  refine wpAnyH_ready (rs := [8]) (by kernel_rfl) (by simp) ?_
  refine AllReadyH.cons (o := { dst := some 81, op := Op.call { callee := Callee.value (Operand.func 56), args := #[Operand.tmp 76, Operand.tmp 77, Operand.tmp 80], argTypes := #[30, 3, 28] }, type := 9, pos := "ref.go:90", after := #[{ on := 3, ground := Ground.data }, { on := 4, ground := Ground.data }, { on := 7, ground := Ground.data }, { on := 7, ground := Ground.chain }], guard := none }) rfl (fun K hK => ?_) AllReadyH.nil
  rw [if_pos (by rfl)]
  go_simp
  refine (HBy.out _ _ _ _ (HB2.out.trans (HB4.out.mono HB2.out.size)) HL4.out HZ.out).mono ?_
  rintro e w5 ⟨rfl, hb5⟩
  go_wp2_with fail
  have HB5 := Lib.hid (below_next HB4.out hb5)
  clear hb5
  refine hK.out _ _ (HB5.out.mono (by omega)) (fun hHeld3 => ?_)
  clear hK K
  try simp only [Act.put, List.setIfInBounds_toArray, List.set_cons_zero, List.set_cons_succ]
  refine wpAnyH_take (i := 9) (oi := { dst := some 82, op := Op.build 38 #[(0, Operand.tmp 73), (1, Operand.tmp 74), (2, Operand.tmp 75), (4, Operand.tmp 81)], type := 38, pos := "ref.go:90", after := #[{ on := 0, ground := Ground.data }, { on := 1, ground := Ground.data }, { on := 2, ground := Ground.data }, { on := 8, ground := Ground.data }], guard := none }) (v := .agg #[.int .i64 G, .int .i64 Q, .int .i64 U, .int .i64 0, .string (str (RD.take Z)), .slice none 0 0]) rfl (by kernel_rfl) (by kernel_rfl) (by kernel_rfl) (fun _ _ _ h => h) (Or.inl ⟨by rfl, fun w hS => by go_simp⟩) hHeld3 ?_
  try simp only [Act.put, List.setIfInBounds_toArray, List.set_cons_zero, List.set_cons_succ]
  have hR5 : w5.heap[w.heap.size + 1]? = some (.cells #[.int .i64 0, .int .i64 0, .int .i64 0, .int .i64 0, .string ⟨#[]⟩, .slice none 0 0] 38 (0, 0)) := (HB5.out.block _ hH2).trans HH2.out
  have k0 := Lib.cell_of_heap hR5
  have k1 := Lib.frozen_of_heap hR5
  obtain ⟨ST, hST⟩ : ∃ ST, str (RD.take Z) = ST := ⟨_, rfl⟩
  rw [hST]
  refine wpAnyH_ready (rs := [10]) (by kernel_rfl) (by simp) ?_
  refine AllReadyH.cons (o := { dst := none, op := Op.store 38 (Operand.tmp 6) (Operand.tmp 82), type := 0, pos := "ref.go:90", after := #[{ on := 9, ground := Ground.data }, { on := 8, ground := Ground.chain }, { on := 0, ground := Ground.phase }, { on := 1, ground := Ground.phase }, { on := 2, ground := Ground.phase }, { on := 3, ground := Ground.phase }, { on := 4, ground := Ground.phase }, { on := 5, ground := Ground.phase }, { on := 6, ground := Ground.phase }, { on := 7, ground := Ground.phase }, { on := 8, ground := Ground.phase }, { on := 9, ground := Ground.phase }], guard := none }) rfl (fun K hK => ?_) AllReadyH.nil
  rw [if_pos (by rfl)]
  go_simp
  have HRR := Lib.hid (row_set (row_set (row_set (row_set (row_set (row_set hR5 0 (.int .i64 G)) 1 (.int .i64 Q)) 2 (.int .i64 U)) 3 (.int .i64 0)) 4 (.string ST)) 5 (.slice none 0 0))
  have HBR : Hid (Below (w.heap.size + 1) w2 ((((((w5.setCell ⟨w.heap.size + 1, 0, none⟩ (.int .i64 G)).setCell ⟨w.heap.size + 1, 1, none⟩ (.int .i64 Q)).setCell ⟨w.heap.size + 1, 2, none⟩ (.int .i64 U)).setCell ⟨w.heap.size + 1, 3, none⟩ (.int .i64 0)).setCell ⟨w.heap.size + 1, 4, none⟩ (.string ST)).setCell ⟨w.heap.size + 1, 5, none⟩ (.slice none 0 0))) := Lib.hid ((((((((HB5.out.mono (show w.heap.size + 1 ≤ w2.heap.size by omega)).setCell (Nat.le_refl _) _).setCell (Nat.le_refl _) _).setCell (Nat.le_refl _) _).setCell (Nat.le_refl _) _).setCell (Nat.le_refl _) _).setCell (Nat.le_refl _) _))
  refine hK.out _ _ HBR.out (fun hHeld4 => ?_)
  clear hK K
  try simp only [Act.put, List.setIfInBounds_toArray, List.set_cons_zero, List.set_cons_succ]
  generalize (((((w5.setCell ⟨w.heap.size + 1, 0, none⟩ (.int .i64 G)).setCell ⟨w.heap.size + 1, 1, none⟩ (.int .i64 Q)).setCell ⟨w.heap.size + 1, 2, none⟩ (.int .i64 U)).setCell ⟨w.heap.size + 1, 3, none⟩ (.int .i64 0)).setCell ⟨w.heap.size + 1, 4, none⟩ (.string ST)).setCell ⟨w.heap.size + 1, 5, none⟩ (.slice none 0 0) = w6 at *
  refine wpAnyH_take (i := 11) (oi := { dst := some 7, op := Op.assign (Operand.const (Value.bool true)), type := 4, pos := "ref.go:90", after := #[{ on := 10, ground := Ground.chain }, { on := 0, ground := Ground.phase }, { on := 1, ground := Ground.phase }, { on := 2, ground := Ground.phase }, { on := 3, ground := Ground.phase }, { on := 4, ground := Ground.phase }, { on := 5, ground := Ground.phase }, { on := 6, ground := Ground.phase }, { on := 7, ground := Ground.phase }, { on := 8, ground := Ground.phase }, { on := 9, ground := Ground.phase }, { on := 10, ground := Ground.phase }], guard := none }) (v := .bool true) rfl (by kernel_rfl) (by kernel_rfl) (by kernel_rfl) (fun _ _ _ h => h) (Or.inl ⟨by rfl, fun w hS => by go_simp⟩) hHeld4 ?_
  try simp only [Act.put, List.setIfInBounds_toArray, List.set_cons_zero, List.set_cons_succ]
  refine wpAnyH_done (by kernel_rfl) ?_ _
  have k9 := Lib.cell_of_heap HRR.out
  clear k0 k1
  go_wp2_with fail
  (try simp only [Exit.inBlock, Exit.then])
  exact bodyPost_ret (v := .tuple #[.agg #[.int .i64 G, .int .i64 Q, .int .i64 U, .int .i64 0, .string ST, .slice none 0 0], .bool true]) (by simp [results, Tryz.results50, go_sem, k9]) rfl ⟨by rw [← hST], HB2.out.trans (HBR.out.mono (by omega))⟩
end Go.Proofs.YtjeabnlmanfplaaGreatDoor

namespace Go.Proofs.YtjeabnlmanfplaaGreatDoor
open Go.RowKit

/-- A log's block, as the document keeps it. -/
def Six (w : World) (G : Nat) (gen place num used : Int) (st : ByteArray) (v : Value) : Prop := w.heap[G]? = some (.cells #[.int .i64 gen, .int .i64 place, .int .i64 num, .int .i64 used, .string st, v] 38 (0, 0))
theorem Six.cells {w : World} {G : Nat} {gen place num used : Int} {st : ByteArray} {v : Value} (h : Six w G gen place num used st v) : w.cell? ⟨G, 0, none⟩ = some (.int .i64 gen) ∧ w.cell? ⟨G, 1, none⟩ = some (.int .i64 place) ∧ w.cell? ⟨G, 2, none⟩ = some (.int .i64 num) ∧ w.cell? ⟨G, 3, none⟩ = some (.int .i64 used) ∧ w.cell? ⟨G, 4, none⟩ = some (.string st) ∧ w.cell? ⟨G, 5, none⟩ = some v ∧ (∀ j, w.frozen? ⟨G, j, none⟩ = false) := by
  refine ⟨?_, ?_, ?_, ?_, ?_, ?_, fun j => Lib.frozen_of_heap h j⟩ <;> rw [Lib.cell_of_heap h] <;> rfl
theorem Six.below {w w' : World} {G : Nat} {gen place num used : Int} {st : ByteArray} {v : Value} (h : Six w G gen place num used st v) (hb : Below w.heap.size w w') : Six w' G gen place num used st v := (hb.block G (heap_lt h)).trans h
theorem Six.new (w : World) (gen place num used : Int) (st : ByteArray) (v : Value) : Six (w.alloc (.cells #[.int .i64 gen, .int .i64 place, .int .i64 num, .int .i64 used, .string st, v] 38)) w.heap.size gen place num used st v := heap_alloc_new _ _
theorem Six.set {w : World} {G : Nat} {gen place num used : Int} {st : ByteArray} {v : Value} (h : Six w G gen place num used st v) (gen2 place2 num2 used2 : Int) (st2 : ByteArray) (v2 : Value) :
    Six ((((((w.setCell ⟨G, 0, none⟩ (.int .i64 gen2)).setCell ⟨G, 1, none⟩ (.int .i64 place2)).setCell ⟨G, 2, none⟩ (.int .i64 num2)).setCell ⟨G, 3, none⟩ (.int .i64 used2)).setCell ⟨G, 4, none⟩ (.string st2)).setCell ⟨G, 5, none⟩ v2) G gen2 place2 num2 used2 st2 v2 :=
  row_set (row_set (row_set (row_set (row_set (row_set h 0 _) 1 _) 2 _) 3 _) 4 _) 5 _
theorem Six.far {w : World} {G : Nat} {gen place num used : Int} {st : ByteArray} {v : Value} (h : Six w G gen place num used st v) {p : Addr} (hp : G ≠ p.block) (u : Value) : Six (w.setCell p u) G gen place num used st v := (Below.heap_setCell _ _ _ _ hp).trans h
theorem Six.set1 {w : World} {G : Nat} {gen place num used : Int} {st : ByteArray} {v : Value} (h : Six w G gen place num used st v) (x : Int) : Six (w.setCell ⟨G, 1, none⟩ (.int .i64 x)) G gen x num used st v := row_set h 1 _
theorem Six.set2 {w : World} {G : Nat} {gen place num used : Int} {st : ByteArray} {v : Value} (h : Six w G gen place num used st v) (x : Int) : Six (w.setCell ⟨G, 2, none⟩ (.int .i64 x)) G gen place x used st v := row_set h 2 _
theorem Six.set3 {w : World} {G : Nat} {gen place num used : Int} {st : ByteArray} {v : Value} (h : Six w G gen place num used st v) (x : Int) : Six (w.setCell ⟨G, 3, none⟩ (.int .i64 x)) G gen place num x st v := row_set h 3 _
theorem Six.set5 {w : World} {G : Nat} {gen place num used : Int} {st : ByteArray} {v : Value} (h : Six w G gen place num used st v) (x : Value) : Six (w.setCell ⟨G, 5, none⟩ x) G gen place num used st x := row_set h 5 _

/-- Within Find: the disk's block, the answer's, the log's. -/
structure FindSt (w wr : World) (a b c dl e : Value) (gen place num used : Int) (st : ByteArray) (v : Value) : Prop where
  five : Five wr w.heap.size a b c dl e
  res : Six wr (w.heap.size + 1) 0 0 0 0 ⟨#[]⟩ (.slice none 0 0)
  g : Six wr (w.heap.size + 1 + 1) gen place num used st v
  bel : Below w.heap.size w wr
theorem FindSt.next {w wr w' : World} {a b c dl e : Value} {gen place num used : Int} {st : ByteArray} {v : Value} (h : FindSt w wr a b c dl e gen place num used st v) (hb : Below wr.heap.size wr w') : FindSt w w' a b c dl e gen place num used st v :=
  ⟨h.five.below hb (heap_lt h.five), h.res.below hb, h.g.below hb, h.bel.trans (hb.mono h.bel.size)⟩
theorem FindSt.put {w wr : World} {a b c dl e : Value} {gen place num used : Int} {st : ByteArray} {v : Value} (h : FindSt w wr a b c dl e gen place num used st v) (gen2 place2 num2 used2 : Int) (st2 : ByteArray) (v2 : Value) :
    FindSt w ((((((wr.setCell ⟨w.heap.size + 1 + 1, 0, none⟩ (.int .i64 gen2)).setCell ⟨w.heap.size + 1 + 1, 1, none⟩ (.int .i64 place2)).setCell ⟨w.heap.size + 1 + 1, 2, none⟩ (.int .i64 num2)).setCell ⟨w.heap.size + 1 + 1, 3, none⟩ (.int .i64 used2)).setCell ⟨w.heap.size + 1 + 1, 4, none⟩ (.string st2)).setCell ⟨w.heap.size + 1 + 1, 5, none⟩ v2) a b c dl e gen2 place2 num2 used2 st2 v2 := by
  have hn : ∀ j, w.heap.size ≠ (⟨w.heap.size + 1 + 1, j, none⟩ : Addr).block := fun j => by show w.heap.size ≠ w.heap.size + 1 + 1; omega
  have hn1 : ∀ j, w.heap.size + 1 ≠ (⟨w.heap.size + 1 + 1, j, none⟩ : Addr).block := fun j => by show w.heap.size + 1 ≠ w.heap.size + 1 + 1; omega
  have hb : ∀ j, w.heap.size ≤ (⟨w.heap.size + 1 + 1, j, none⟩ : Addr).block := fun j => by show w.heap.size ≤ w.heap.size + 1 + 1; omega
  exact ⟨(((((h.five.far (hn _) _).far (hn _) _).far (hn _) _).far (hn _) _).far (hn _) _).far (hn _) _, (((((h.res.far (hn1 _) _).far (hn1 _) _).far (hn1 _) _).far (hn1 _) _).far (hn1 _) _).far (hn1 _) _, h.g.set _ _ _ _ _ _, (((((h.bel.setCell (hb _) _).setCell (hb _) _).setCell (hb _) _).setCell (hb _) _).setCell (hb _) _).setCell (hb _) _⟩
theorem FindSt.start (w : World) (a b c dl e : Value) : FindSt w (((w.alloc (.cells #[a, b, c, dl, e] 30)).alloc (.cells #[.int .i64 0, .int .i64 0, .int .i64 0, .int .i64 0, .string ⟨#[]⟩, .slice none 0 0] 38)).alloc (.cells #[.int .i64 0, .int .i64 0, .int .i64 1, .int .i64 0, .string ⟨#[]⟩, .slice none 0 0] 38)) a b c dl e 0 0 1 0 ⟨#[]⟩ (.slice none 0 0) := by
  obtain ⟨w1, h1⟩ : ∃ w1, w.alloc (.cells #[a, b, c, dl, e] 30) = w1 := ⟨_, rfl⟩
  have k1 : Five w1 w.heap.size a b c dl e := by rw [← h1]; exact Five.new _ _ _ _ _ _
  have b1 : Below w.heap.size w w1 := by rw [← h1]; exact (Below.refl _ _).alloc (Nat.le_refl _) _
  have s1 : w1.heap.size = w.heap.size + 1 := by rw [← h1]; simp
  rw [h1]
  obtain ⟨w2, h2⟩ : ∃ w2, w1.alloc (.cells #[.int .i64 0, .int .i64 0, .int .i64 0, .int .i64 0, .string ⟨#[]⟩, .slice none 0 0] 38) = w2 := ⟨_, rfl⟩
  have k2 : Six w2 (w.heap.size + 1) 0 0 0 0 ⟨#[]⟩ (.slice none 0 0) := by rw [← h2, ← s1]; exact Six.new _ _ _ _ _ _ _
  have b2 : Below w1.heap.size w1 w2 := by rw [← h2]; exact (Below.refl _ _).alloc (Nat.le_refl _) _
  have s2 : w2.heap.size = w.heap.size + 1 + 1 := by rw [← h2]; simp [s1]
  rw [h2]
  have b3 : Below w2.heap.size w2 (w2.alloc (.cells #[.int .i64 0, .int .i64 0, .int .i64 1, .int .i64 0, .string ⟨#[]⟩, .slice none 0 0] 38)) := (Below.refl _ _).alloc (Nat.le_refl _) _
  refine ⟨(k1.below b2 (heap_lt k1)).below b3 (heap_lt (k1.below b2 (heap_lt k1))), k2.below b3, ?_, below_next (below_next b1 b2) b3⟩
  rw [← s2]; exact Six.new _ _ _ _ _ _ _

/-- What slotOf answers. -/
def slotYes (d : DSt) (slot k : Nat) : Value := .tuple #[.agg #[.int .i64 (fld (d.readB ((k * slot : Nat) : Int)) 1 9), .int .i64 (fld (d.readB ((k * slot : Nat) : Int)) 13 17), .int .i64 (fld (d.readB ((k * slot : Nat) : Int)) 17 25), .int .i64 0, .string (str (stateOf d.seen slot (fld (d.readB ((k * slot : Nat) : Int)) 1 9).toNat (fld (d.readB ((k * slot : Nat) : Int)) 9 13).toNat)), .slice none 0 0], .bool true]
theorem DocSlotOf_st {w : World} {d : DSt} (ho : d.Ok) (ht : d.Tru) {fA aA wA : Option Addr} {fc ac wc : Nat} (h : RefAt w w.heap.size d.firm d.loose fA aA ac wA wc) (hl : d.loose.length ≤ 1000001) (L : Int) (slot k : Nat) (hs : 2 ≤ slot) (hk : k ≤ 1) (hf : 2 * slot + 3 ≤ d.seen.length)
    (hoff : d.off = false) (hx : ∀ x ∈ d.seen, x.length = 32) (hyes : DocSlot (d.seen.getD (k * slot) []) d.seen.length slot k) :
    Calls Tryz.prog 50 #[.agg #[.slice fA d.firm.length fc, .slice aA d.loose.length ac, .slice wA d.loose.length wc, .int .i64 L, .bool d.off], .int .i64 slot, .int .i64 k] w fun e w' => e = .returned (slotYes d slot k) ∧ Below w.heap.size w w' := by
  have hks : k * slot ≤ slot := by
    calc k * slot ≤ 1 * slot := Nat.mul_le_mul_right _ hk
      _ = slot := Nat.one_mul _
  have hlen := ho.len
  have hr := readB_on (x := k * slot) hoff (by omega)
  have hyes2 : DocSlot (d.readB ((k * slot : Nat) : Int)) d.firm.length slot k := by rw [hr, hlen]; exact hyes
  have := DocSlotOf_yes (fc := fc) (ac := ac) (wc := wc) ho ht h hl L slot k hs hk (by omega) (by rw [hr]; exact getD_32 hx (by omega)) (fun x hx' => readB_32 hoff hx (by omega)) hyes2
  unfold slotYes
  obtain ⟨_, g1, _, g3, g4, _, _, _⟩ := hyes2
  have hst : (readsL d (slotsL slot k)).take (fld (d.readB ((k * slot : Nat) : Int)) 9 13).toNat = stateOf d.seen slot (fld (d.readB ((k * slot : Nat) : Int)) 1 9).toNat (fld (d.readB ((k * slot : Nat) : Int)) 9 13).toNat := state_link hoff hx (by omega) (by omega) (by omega) (by omega)
  rw [hst] at this
  exact this
end Go.Proofs.YtjeabnlmanfplaaGreatDoor

namespace Go.Proofs.YtjeabnlmanfplaaGreatDoor
open Go.RowKit

theorem curQ_next {xs : List (List UInt8)} {slot k : Nat} (hk : k < 2) : curQ xs slot (k + 1) = stepS xs slot (k * slot) (curQ xs slot k) := by
  match k, hk with
  | 0, _ => rw [Nat.zero_mul]; rfl
  | 1, _ => rw [Nat.one_mul]; rfl
theorem FindSt.keep {w wr w' : World} {a b c dl e : Value} {gen place num used : Int} {st : ByteArray} {v : Value} (h : FindSt w wr a b c dl e gen place num used st v) (hb : Below (w.heap.size + 1 + 1 + 1) wr w') : FindSt w w' a b c dl e gen place num used st v :=
  ⟨h.five.below hb (by omega), (hb.block _ (by omega)).trans h.res, (hb.block _ (by omega)).trans h.g, h.bel.trans (hb.mono (by omega))⟩
theorem FindSt.big {w wr : World} {a b c dl e : Value} {gen place num used : Int} {st : ByteArray} {v : Value} (h : FindSt w wr a b c dl e gen place num used st v) : w.heap.size + 1 + 1 + 1 ≤ wr.heap.size := by have := heap_lt h.g; omega

/-- What Find leaves. -/
def FindEnd (d : DSt) (slot : Nat) (w : World) (e : Ending) (w' : World) : Prop :=
  ∃ A c, e = .returned (.agg #[.int .i64 (openV 0 d slot).gen, .int .i64 (openV 0 d slot).next, .int .i64 (openV 0 d slot).num, .int .i64 (openV 0 d slot).used, .string (str (openS d slot)), .slice A (openR 0 d slot).length c]) ∧ Lies w' w'.heap.size A ((openR 0 d slot).map secV) ∧ Below w.heap.size w w'

/-- A region whose callees leave what was there, from a later world on. -/
theorem wp_region_in {P : Program} {id : Nat} {Q : Exit → Act → World → Prop} {a : Act} {V w : World} {l : List Oper} (hw : Below V.heap.size V w) (hm : P.follows .mixedOrders = true) (hB : Region.lexB .any l.toArray = true)
    (h : wpQuiet P l.toArray (fun w' => ∃ p : LatW V, w' = p.wd) (fun a' => ∀ w', (∃ p : LatW V, w' = p.wd) → Q .normal a' w') l a) : (Code.region id l.toArray true).wp P Q a w :=
  wp_region_quiet (C := fun w' => ∃ p : LatW V, w' = p.wd) hm hB ⟨⟨w.drew, hw.drew⟩, rfl⟩ (by simpa using h)
theorem logD_desc : Tryz.prog.underlying 38 = some (.struct ((match Tryz.prog.underlying 38 with | some (.struct fs) => fs | _ => #[]))) := by kernel_rfl
theorem FindSt.rcs {w wr : World} {a b c dl e : Value} {gen place num used : Int} {st : ByteArray} {v : Value} (h : FindSt w wr a b c dl e gen place num used st v) (x : Value) : FindSt w (wr.setCell ⟨w.heap.size + 1 + 1, 5, none⟩ x) a b c dl e gen place num used st x :=
  ⟨h.five.far (by show w.heap.size ≠ w.heap.size + 1 + 1; omega) _, h.res.far (by show w.heap.size + 1 ≠ w.heap.size + 1 + 1; omega) _, h.g.set5 _, h.bel.setCell (by show w.heap.size ≤ w.heap.size + 1 + 1; omega) _⟩
theorem FindSt.use {w wr : World} {a b c dl e : Value} {gen place num used : Int} {st : ByteArray} {v : Value} (h : FindSt w wr a b c dl e gen place num used st v) (x : Int) : FindSt w (wr.setCell ⟨w.heap.size + 1 + 1, 3, none⟩ (.int .i64 x)) a b c dl e gen place num x st v :=
  ⟨h.five.far (by show w.heap.size ≠ w.heap.size + 1 + 1; omega) _, h.res.far (by show w.heap.size + 1 ≠ w.heap.size + 1 + 1; omega) _, h.g.set3 _, h.bel.setCell (by show w.heap.size ≤ w.heap.size + 1 + 1; omega) _⟩
theorem FindSt.pl {w wr : World} {a b c dl e : Value} {gen place num used : Int} {st : ByteArray} {v : Value} (h : FindSt w wr a b c dl e gen place num used st v) (x : Int) : FindSt w (wr.setCell ⟨w.heap.size + 1 + 1, 1, none⟩ (.int .i64 x)) a b c dl e gen x num used st v :=
  ⟨h.five.far (by show w.heap.size ≠ w.heap.size + 1 + 1; omega) _, h.res.far (by show w.heap.size + 1 ≠ w.heap.size + 1 + 1; omega) _, h.g.set1 _, h.bel.setCell (by show w.heap.size ≤ w.heap.size + 1 + 1; omega) _⟩
theorem FindSt.nu {w wr : World} {a b c dl e : Value} {gen place num used : Int} {st : ByteArray} {v : Value} (h : FindSt w wr a b c dl e gen place num used st v) (x : Int) : FindSt w (wr.setCell ⟨w.heap.size + 1 + 1, 2, none⟩ (.int .i64 x)) a b c dl e gen place x used st v :=
  ⟨h.five.far (by show w.heap.size ≠ w.heap.size + 1 + 1; omega) _, h.res.far (by show w.heap.size + 1 ≠ w.heap.size + 1 + 1; omega) _, h.g.set2 _, h.bel.setCell (by show w.heap.size ≤ w.heap.size + 1 + 1; omega) _⟩
theorem own_setBelow {w : World} {base : Nat} {e : TypeId} {size n : Nat} {v : Value} {xs : List Value} (h : w.ownsRow base e size v n xs) {p : Addr} (hp : p.block < base) (u : Value) : (w.setCell p u).ownsRow base e size v n xs :=
  h.kept (row := some p.block) ⟨rfl, rfl, rfl, by simp, fun i _ hne => Below.heap_setCell _ _ _ _ (fun e => hne (by rw [e]))⟩ (by
    cases hv : v.ownBlock with
    | none => exact Or.inl rfl
    | some b => refine Or.inr (fun e => ?_); cases e; have := (h.lt _ hv).1; omega)
theorem around_tl (slot m place k : Nat) : (aroundL slot m place (1 + k)).tail.length = k := by simp [aroundL]
theorem around_lt {n slot M place k : Nat} (hf : 2 * slot + 3 ≤ n) (hM : n - 2 * slot = M) {y : Nat} (hy : y ∈ (aroundL slot M place (1 + k)).tail) : y < n := by
  have := List.mem_of_mem_tail hy
  unfold aroundL at this
  obtain ⟨j, _, rfl⟩ := List.mem_map.1 this
  have := Nat.mod_lt (place + j) (show 0 < M by omega)
  show 2 * slot + (place + j) % M < n
  omega
theorem find_end {w wr : World} {d : DSt} {slot : Nat} {a b c0 dl e : Value} {gen num : Int} {next used vd vs : Nat} {dn : Bool} {ST : ByteArray} {A : Option Addr} {c : Nat} {pre : List (List UInt8)} {V0 : WalV} {f : Nat} {base : Nat}
    (hG : FindSt w wr a b c0 dl e gen next num used ST (.slice A pre.length c)) (hO : wr.ownsRow base 9 1 (.slice A pre.length c) pre.length (pre.map secV)) (hbase : w.heap.size + 1 < base)
    (hR : openR 0 d slot = (scanR d.seen d.seen.length V0).2) (hV : openV 0 d slot = (scanR d.seen d.seen.length V0).1) (hS : str (openS d slot) = ST)
    (hsc : scanR d.seen d.seen.length V0 = ((scanR d.seen f ⟨vd, vs, gen, num, next, used, dn⟩).1, pre ++ (scanR d.seen f ⟨vd, vs, gen, num, next, used, dn⟩).2)) (hst : scanR d.seen f ⟨vd, vs, gen, num, next, used, dn⟩ = (⟨vd, vs, gen, num, next, used, dn⟩, [])) :
    FindEnd d slot w (.returned (.agg #[.int .i64 gen, .int .i64 next, .int .i64 num, .int .i64 used, .string ST, .slice A pre.length c])) ((((((wr.setCell ⟨w.heap.size + 1, 0, none⟩ (.int .i64 gen)).setCell ⟨w.heap.size + 1, 1, none⟩ (.int .i64 next)).setCell ⟨w.heap.size + 1, 2, none⟩ (.int .i64 num)).setCell ⟨w.heap.size + 1, 3, none⟩ (.int .i64 used)).setCell ⟨w.heap.size + 1, 4, none⟩ (.string ST)).setCell ⟨w.heap.size + 1, 5, none⟩ (.slice A pre.length c)) := by
  rw [hst, List.append_nil] at hsc
  have eR : openR 0 d slot = pre := by rw [hR, hsc]
  have eV : openV 0 d slot = ⟨vd, vs, gen, num, next, used, dn⟩ := by rw [hV, hsc]
  have hb : ∀ j, w.heap.size ≤ (⟨w.heap.size + 1, j, none⟩ : Addr).block := fun j => by show w.heap.size ≤ w.heap.size + 1; omega
  refine ⟨A, c, by rw [eR, eV, hS], ?_, (((((hG.bel.setCell (hb _) _).setCell (hb _) _).setCell (hb _) _).setCell (hb _) _).setCell (hb _) _).setCell (hb _) _⟩
  rw [eR]
  obtain ⟨A2, c2, e2, _, hl⟩ := own_lies hO
  simp only [Value.slice.injEq] at e2
  obtain ⟨rfl, _, rfl⟩ := e2
  rcases hl with hl | ⟨b2, o2, hA, hlt, hcl⟩
  · exact .inl hl
  · have hbb : b2 ≠ w.heap.size + 1 := by
      have := own_fresh hO ⟨b2, o2, none⟩ hA
      simp only at this
      omega
    refine .inr ⟨b2, o2, hA, by simpa using hlt, fun i hi => ?_⟩
    rw [← hcl i hi]
    have hne : ∀ j, b2 ≠ (⟨w.heap.size + 1, j, none⟩ : Addr).block := fun j => hbb
    exact World.cell?_of_block (a := ⟨b2, o2 + i, none⟩) ((Below.heap_setCell _ _ _ _ (hne 5)).trans ((Below.heap_setCell _ _ _ _ (hne 4)).trans ((Below.heap_setCell _ _ _ _ (hne 3)).trans ((Below.heap_setCell _ _ _ _ (hne 2)).trans ((Below.heap_setCell _ _ _ _ (hne 1)).trans (Below.heap_setCell _ _ _ _ (hne 0)))))))

set_option maxHeartbeats 16000000 in
set_option maxRecDepth 100000 in
theorem DocFind_any {w : World} {d : DSt} (ho : d.Ok) (ht : d.Tru) {fA aA wA : Option Addr} {fc ac wc : Nat} (h : RefAt w w.heap.size d.firm d.loose fA aA ac wA wc) (hl : d.loose.length ≤ 1000001) (L : Int) (slot : Nat) (hs : 2 ≤ slot) (hf : 2 * slot + 3 ≤ d.seen.length)
    (hoff : d.off = false) (hx : ∀ x ∈ d.seen, x.length = 32) :
    Calls Tryz.prog 13 #[.agg #[.slice fA d.firm.length fc, .slice aA d.loose.length ac, .slice wA d.loose.length wc, .int .i64 L, .bool d.off], .int .i64 slot] w (FindEnd d slot w) := by
  have hlen := ho.len
  have hn4 := ho.le
  have HSY := Lib.hid (fun w' (hb : Below w.heap.size w w') k (hk : k ≤ 1) hy => DocSlotOf_st (fc := fc) (ac := ac) (wc := wc) ho ht (h.next hb) hl L slot k hs hk hf hoff hx hy)
  have HSN : Hid (∀ w', Below w.heap.size w w' → ∀ k, k ≤ 1 → ¬ DocSlot (d.seen.getD (k * slot) []) d.seen.length slot k → Calls Tryz.prog 50 #[.agg #[.slice fA d.firm.length fc, .slice aA d.loose.length ac, .slice wA d.loose.length wc, .int .i64 L, .bool d.off], .int .i64 slot, .int .i64 k] w' fun e w'' => e = .returned (.tuple #[.agg #[.int .i64 0, .int .i64 0, .int .i64 0, .int .i64 0, .string ⟨#[]⟩, .slice none 0 0], .bool false]) ∧ Below w'.heap.size w' w'') := Lib.hid (fun w' hb k hk hno => by
    have hks : k * slot ≤ slot := by
      calc k * slot ≤ 1 * slot := Nat.mul_le_mul_right _ hk
        _ = slot := Nat.one_mul _
    have hr := readB_on (x := k * slot) hoff (by omega)
    exact DocSlotOf_no (fc := fc) (ac := ac) (wc := wc) ho ht (h.next hb) hl L slot k hs hk (by omega) (by rw [hr]; exact getD_32 hx (by omega)) (by rw [hr, hlen]; exact hno))
  have HStep := Lib.hid (fun k (hk : k ≤ 1) cur => step_doc (xs := d.seen) (cur := cur) hs hk hf hx)
  have HRd := Lib.hid (fun k (hk : k ≤ 1) => readB_on (d := d) (x := k * slot) hoff (by
    have : k * slot ≤ slot := by
      calc k * slot ≤ 1 * slot := Nat.mul_le_mul_right _ hk
        _ = slot := Nat.one_mul _
    omega))
  have HSt := Lib.hid (FindSt.start w (.slice fA d.firm.length fc) (.slice aA d.loose.length ac) (.slice wA d.loose.length wc) (.int .i64 L) (.bool d.off))
  have HQ0 : Hid (str (stateOf d.seen slot ((0 : Int)).toNat ((0 : Int)).toNat) = ⟨#[]⟩) := Lib.hid rfl

  have HSec : Hid (∀ w', Below w.heap.size w w' → ∀ x : Nat, x < d.seen.length → Calls Tryz.prog 51 #[.agg #[.slice fA d.firm.length fc, .slice aA d.loose.length ac, .slice wA d.loose.length wc, .int .i64 L, .bool d.off], .int .i64 (x : Int)] w' fun e w'' => e = .returned (.string (str (d.seen.getD x []))) ∧ Below w'.heap.size w' w'') := Lib.hid (fun w' hb x hxl => by
    have := DocSector_any (fc := fc) (ac := ac) (wc := wc) ho ht (h.next hb) hl x L
    rw [readB_on hoff hxl] at this
    exact this)
  have HBy : Hid (∀ (w' : World) (A : Option Addr) (c n : Nat) (l : List Nat), Below w.heap.size w w' → Lies w' w'.heap.size A (l.map natV) → (∀ x ∈ l, x < d.seen.length) → n ≤ 32 * l.length → l.length ≤ 10000 → Calls Tryz.prog 56 #[.agg #[.slice fA d.firm.length fc, .slice aA d.loose.length ac, .slice wA d.loose.length wc, .int .i64 L, .bool d.off], .int .i64 n, .slice A l.length c] w' fun e w'' => e = .returned (.string (str ((readsL d l).take n))) ∧ Below w'.heap.size w' w'') := Lib.hid (fun w' A c n l hb hA hxl hn hll =>
    DocBytes_any (c := c) (fc := fc) (ac := ac) (wc := wc) ho ht (h.next hb) hl L n l hA (fun x hx' => readB_32 hoff hx (hxl x hx')) hn hll)
  have HAr : Hid (∀ (w' : World) (place n : Nat), place < d.seen.length - 2 * slot → n ≤ 5000 → Calls Tryz.prog 55 #[.agg #[.slice fA d.firm.length fc, .slice aA d.loose.length ac, .slice wA d.loose.length wc, .int .i64 L, .bool d.off], .int .i64 slot, .int .i64 place, .int .i64 n] w' fun e w'' => ∃ A c, e = .returned (.slice A n c) ∧ Lies w'' w''.heap.size A ((aroundL slot (d.seen.length - 2 * slot) place n).map natV) ∧ n ≤ c ∧ Below w'.heap.size w' w'') := Lib.hid (fun w' place n hp hn => DocAround_any _ slot (d.seen.length - 2 * slot) place n fc fA _ _ _ _ (by omega) (by omega) (by omega) hp hn w')
  have HV0 := Lib.hid (slotV_ok (a := 0) (d := d) hn4 hs hf)
  have HCu := Lib.hid (curS_ok (xs := d.seen) hs hf)
  have HX := Lib.hid hx
  have HRecL := Lib.hid (fun (v : WalV) (hv : v.Ok d.seen.length) len => rec_link hoff hv len)
  obtain ⟨i0, hi0, hz0, hz1, hz2⟩ := info_parts Tryz.infoStr5
  have HOff := Lib.hid hoff
  clear hx
  generalize d.firm.length = N at *
  generalize d.loose.length = ml at *
  generalize d.off = o at *
  have HLen := Lib.hid hlen
  clear ho ht h hl hlen hoff
  go_enter Tryz.func13, Tryz.ntmps13
  go_wp2_with fail
  go_loopg [6] 2 (fun kx i wr => ∃ (k : Nat) (cur : Hd), k ≤ 2 ∧ 2 - k ≤ kx ∧ i = .int .i64 k ∧ Hid (curQ d.seen slot k = cur) ∧ Hid (FindSt w wr (.slice fA N fc) (.slice aA ml ac) (.slice wA ml wc) (.int .i64 L) (.bool o) cur.1 cur.2.2.1 cur.2.2.2 0 (str (stateOf d.seen slot cur.1.toNat cur.2.1.toNat)) (.slice none 0 0)))
  case atStart => exact ⟨0, (0, 0, 0, 1), Nat.zero_le _, by omega, rfl, Lib.hid rfl, HSt⟩
  case round =>
    obtain ⟨k, cur, hk, hkx, rfl, HC, HS⟩ := hrel
    obtain ⟨c0, c1, c2, c3, c4, _⟩ := HS.out.five.cells
    have hk0 : (0 : Int) ≤ (k : Int) := Int.natCast_nonneg _
    by_cases hlt : k < 2
    · have hltz : (k : Int) < 2 := by omega
      have HN := Lib.hid (curQ_next (xs := d.seen) (slot := slot) hlt)
      by_cases hy : DocSlot (d.seen.getD (k * slot) []) d.seen.length slot k
      · have HCall := Lib.hid (HSY.out wr HS.out.bel k (by omega) hy)
        have HStp := Lib.hid (HStep.out k (by omega) cur)
        have hrd := HRd.out k (by omega)
        unfold slotYes at HCall
        rw [hrd] at HCall
        have hy2 := Lib.hid hy
        clear hrd hy
        generalize d.seen.getD (k * slot) [] = X at *
        obtain ⟨gy, hgy⟩ : ∃ gy, fld X 1 9 = gy := ⟨_, rfl⟩
        obtain ⟨ly, hly⟩ : ∃ ly, fld X 9 13 = ly := ⟨_, rfl⟩
        obtain ⟨py, hpy⟩ : ∃ py, fld X 13 17 = py := ⟨_, rfl⟩
        obtain ⟨ny, hny⟩ : ∃ ny, fld X 17 25 = ny := ⟨_, rfl⟩
        rw [hgy, hly, hpy, hny] at HCall HStp
        clear hgy hly hpy hny
        obtain ⟨sy, hsy⟩ : ∃ sy, str (stateOf d.seen slot gy.toNat ly.toNat) = sy := ⟨_, rfl⟩
        rw [hsy] at HCall
        have HSy := Lib.hid hsy
        clear hsy
        by_cases hgt : cur.1 < gy
        · have HNew := Lib.hid (HStp.out.1 ⟨hy2.out, hgt⟩)
          clear HStp
          obtain ⟨g1, g2, g3, g4⟩ := cur
          simp only at hgt HS HNew
          have hgtb : decide (g1 < gy) = true := decide_eq_true hgt
          clear hgt
          go_wp2_with fail
          refine HCall.out.mono ?_
          rintro e w2 ⟨rfl, hb2⟩
          have HS2 := Lib.hid (HS.out.next hb2)
          clear hb2
          have HS3 := Lib.hid (fun o => HS2.out.next ((Below.refl _ _).alloc (Nat.le_refl _) o))
          have e0 := fun o => (HS3.out o).g.cells.1
          have e1 := fun o => (HS3.out o).g.cells.2.1
          have e2 := fun o => (HS3.out o).g.cells.2.2.1
          have e3 := fun o => (HS3.out o).g.cells.2.2.2.1
          have e4 := fun o => (HS3.out o).g.cells.2.2.2.2.1
          have e5 := fun o => (HS3.out o).g.cells.2.2.2.2.2.1
          have e6 := fun o => (HS3.out o).g.cells.2.2.2.2.2.2
          clear c0 c1 c2 c3 c4
          go_wp2_with fail
          go_roundg (2 - (k + 1))
          case measure => omega
          case rel => exact ⟨k + 1, (gy, ly, py, ny), by omega, Nat.le_refl _, by go_num, Lib.hid (by rw [HN.out, HC.out]; exact HNew.out), Lib.hid (by rw [HSy.out]; exact (HS3.out _).put _ _ _ _ _ _)⟩
        · have HNew := Lib.hid (HStp.out.2 (fun h => hgt h.2))
          clear HStp
          obtain ⟨g1, g2, g3, g4⟩ := cur
          simp only at hgt HS HNew
          have hgtb : decide (g1 < gy) = false := decide_eq_false hgt
          clear hgt
          go_wp2_with fail
          refine HCall.out.mono ?_
          rintro e w2 ⟨rfl, hb2⟩
          have HS2 := Lib.hid (HS.out.next hb2)
          clear hb2
          have HS3 := Lib.hid (fun o => HS2.out.next ((Below.refl _ _).alloc (Nat.le_refl _) o))
          have e0 := fun o => (HS3.out o).g.cells.1
          clear c0 c1 c2 c3 c4
          go_wp2_with fail
          go_roundg (2 - (k + 1))
          case measure => omega
          case rel => exact ⟨k + 1, (g1, g2, g3, g4), by omega, Nat.le_refl _, by go_num, Lib.hid (by rw [HN.out, HC.out]; exact HNew.out), Lib.hid (HS3.out _)⟩
      · have HCall := Lib.hid (HSN.out wr HS.out.bel k (by omega) hy)
        have HNew := Lib.hid ((HStep.out k (by omega) cur).2 (fun h => hy h.1))
        clear hy
        go_wp2_with fail
        refine HCall.out.mono ?_
        rintro e w2 ⟨rfl, hb2⟩
        have HS2 := Lib.hid (HS.out.next hb2)
        clear hb2
        have HS3 := Lib.hid (fun o => HS2.out.next ((Below.refl _ _).alloc (Nat.le_refl _) o))
        clear c0 c1 c2 c3 c4
        go_wp2_with fail
        go_roundg (2 - (k + 1))
        case measure => omega
        case rel => exact ⟨k + 1, cur, by omega, Nat.le_refl _, by go_num, Lib.hid (by rw [HN.out, HC.out]; exact HNew.out), Lib.hid (HS3.out _)⟩
    · have hltz : ¬ (k : Int) < 2 := by omega
      obtain rfl : k = 2 := by omega
      obtain ⟨g1, g2, g3, g4⟩ := cur
      simp only at HS
      have HV := HV0
      have hcu := HC.out
      have hco := HCu.out
      unfold slotV at HV
      have hcq : curS d.seen slot = (g1, g2, g3, g4) := hcu
      have HOR : Hid (openR 0 d slot = (scanR d.seen d.seen.length ⟨0, slot, g1, g4, g3.toNat, 0, false⟩).2) := Lib.hid (by unfold openR slotV; rw [hcq])
      have HOV : Hid (openV 0 d slot = (scanR d.seen d.seen.length ⟨0, slot, g1, g4, g3.toNat, 0, false⟩).1) := Lib.hid (by unfold openV slotV; rw [hcq])
      have HOS : Hid (openS d slot = stateOf d.seen slot g1.toNat g2.toNat) := Lib.hid (by unfold openS; rw [hcq])
      rw [hcq] at HV
      rw [hcq] at hco
      have hp0 : 0 ≤ g3 := hco.p0
      have HK1 : Hid (g4 ≤ 1099511627776) := Lib.hid hco.k1
      simp only at HV
      clear hcu hco hcq HC HCu HV0 HStep HSY HSN HSt HQ0 HRd
      obtain ⟨q, rfl⟩ := Int.eq_ofNat_of_zero_le hp0
      clear hp0
      rw [Int.toNat_natCast] at HV HOR HOV
      obtain ⟨M, hM⟩ : ∃ M, d.seen.length - 2 * slot = M := ⟨_, rfl⟩
      have hMz : (N : Int) - 2 * (slot : Int) = (M : Int) := by have := HLen.out; omega
      have hM3 : 3 ≤ M := by omega
      have hM4 : M ≤ 4096 := by omega
      have HM := Lib.hid hM
      rw [hM] at HAr
      obtain ⟨ST, hST⟩ : ∃ ST, str (stateOf d.seen slot g1.toNat g2.toNat) = ST := ⟨_, rfl⟩
      rw [hST] at HS
      have HST : Hid (str (openS d slot) = ST) := Lib.hid (by rw [HOS.out]; exact hST)
      have HNl := Lib.hid hf
      have HN4 := Lib.hid hn4
      have hsl : slot ≤ 2048 := by omega
      obtain ⟨d0, d1, d2, d3, d4, _⟩ := HS.out.five.cells
      clear hST hM hf hn4 c0 c1 c2 c3 c4 HOS
      go_wp2_with fail
      clear d0 d1 d2 d3 d4
      go_loopg [10] M (fun kx s10 wr => ∃ (v : WalV) (pre : List (List UInt8)) (f : Nat) (A : Option Addr) (c : Nat), v.slot = slot ∧ M - v.used ≤ kx ∧ Hid (v.Ok d.seen.length) ∧ Hid (v.num ≤ 1099511627776 + v.used) ∧ Hid (scanR d.seen d.seen.length ⟨0, slot, g1, g4, q, 0, false⟩ = ((scanR d.seen f v).1, pre ++ (scanR d.seen f v).2)) ∧ Hid (M ≤ f + v.used) ∧ Hid (pre.length ≤ v.used) ∧ Hid (FindSt w wr (.slice fA N fc) (.slice aA ml ac) (.slice wA ml wc) (.int .i64 L) (.bool o) v.gen v.next v.num v.used ST (.slice A pre.length c)) ∧ Hid (wr.ownsRow (w.heap.size + 1 + 1 + 1) 9 1 (.slice A pre.length c) pre.length (pre.map secV)))
      case atStart => exact ⟨⟨0, slot, g1, g4, q, 0, false⟩, [], d.seen.length, none, 0, rfl, by omega, HV, Lib.hid (by have := HK1.out; show g4 ≤ 1099511627776 + ((0 : Nat) : Int); omega), Lib.hid (by simp), Lib.hid (by have := HM.out; omega), Lib.hid (Nat.zero_le _), HS, Lib.hid (World.ownsRow_nil _ _ _ _)⟩
      case round =>
        obtain ⟨v, pre, f, A, c, hvs, hvk, HOk, HNum, HSc, HF, HPl, HG, HO⟩ := hrel
        -- LOOP2
        obtain ⟨d0, d1, d2, d3, d4, _⟩ := HG.out.five.cells
        obtain ⟨z0, z1, z2, z3, z4, z5, _⟩ := HG.out.g.cells
        have hu := HOk.out.used
        have hnx := HOk.out.next
        have HPlace : Hid (v.place d.seen.length 0 = v.next) := Lib.hid (by unfold WalV.place; rw [Nat.add_zero]; exact Nat.mod_eq_of_lt hnx)
        have HRec := Lib.hid (rec_doc HOk.out HX.out (by have := HOk.out.k1; omega) (by have := HOk.out.k2; omega))
        rw [HPlace.out, hvs, HM.out] at HRec
        rw [hvs, HM.out] at hu hnx
        have hk2 := HOk.out.k2
        have hk1 := HOk.out.k1
        have HSecC := HSec.out wr HG.out.bel (2 * slot + v.next) (by have := HNl.out; have := HM.out; omega)
        have hxl : (d.seen.getD (2 * slot + v.next) []).length = 32 := getD_32 HX.out (by have := HNl.out; have := HM.out; omega)
        rw [show (((2 * slot + v.next : Nat)) : Int) = 2 * (slot : Int) + (v.next : Int) from by omega] at HSecC
        obtain ⟨x, hxx⟩ : ∃ x, d.seen.getD (2 * slot + v.next) [] = x := ⟨_, rfl⟩
        rw [hxx] at HSecC hxl HRec
        clear hxx
        obtain ⟨Z, hz, hz9⟩ := getN_four (l := (x.drop 9).take (13 - 9)) (by rw [List.length_take]; omega)
        have hfz : fld x 9 13 = (Z : Int) := hz
        have HGet := Lib.hid (fun w' => by
          have t := DocGet_any (str x) 9 13 (by rw [str_size]; omega) (by omega) (by rw [str_size]; omega) w'
          rw [str_list] at t
          rw [show getN ((x.drop 9).take (13 - 9)) = (Z : Int) from hz] at t
          exact t)
        rw [hfz, Int.toNat_natCast] at HRec
        have HDoc : Hid (DocRec x M v.used v.num ↔ (x = padB (recHead v.num (Z : Int)) ∧ (Z : Int) ≤ 32 * (M : Int) ∧ v.used + 1 + secs Z < M)) := Lib.hid (by unfold DocRec; rw [hfz, Int.toNat_natCast])
        have HRH := Lib.hid (fun w' => DocRecordHead_any v.num (Z : Int) w' (by omega) (by omega))
        have hseq : (str x).toList = (str (padB (recHead v.num (Z : Int)))).toList ↔ x = padB (recHead v.num (Z : Int)) := ⟨fun e => by rwa [Lib.toList_data, str_list, Lib.toList_data, str_list] at e, fun e => by rw [← e]⟩
        have HSeq := Lib.hid hseq
        obtain ⟨S, hS⟩ : ∃ S, str x = S := ⟨_, rfl⟩
        obtain ⟨S2, hS2⟩ : ∃ S, str (padB (recHead v.num (Z : Int))) = S := ⟨_, rfl⟩
        rw [hS] at HSecC HSeq HGet
        rw [hS2] at HRH HSeq
        have HSecC2 := Lib.hid HSecC
        have HVs := Lib.hid hvs
        clear HSecC hseq hS hS2 hz hfz hxl hvs
        have hZ0 : (0 : Int) ≤ (Z : Int) := Int.natCast_nonneg _
        have hu0 : (0 : Int) ≤ (v.used : Int) := Int.natCast_nonneg _
        have hn0 : (0 : Int) ≤ (v.next : Int) := Int.natCast_nonneg _
        have hnM : (v.next : Int) < (M : Int) := by omega
        have huM : (v.used : Int) < (M : Int) := by omega
        have hsz : (0 : Int) ≤ (slot : Int) := Int.natCast_nonneg _
        obtain ⟨vd, vs, vg, vn, vx, vu, vdn⟩ := v
        simp only at *
        have wM : IntKind.i64.wrap (32 * (M : Int)) = 32 * (M : Int) := by rw [IntKind.wrap_i64]; omega
        have wU : IntKind.i64.wrap ((vu : Int) + 1) = (vu : Int) + 1 := by rw [IntKind.wrap_i64]; omega
        by_cases q0 : S.toList = S2.toList
        case neg =>
          have HNone := Lib.hid (HRec.out.2 (fun h => q0 (HSeq.out.2 (HDoc.out.1 h).1)))
          go_wp2_with fail
          refine HSecC2.out.mono ?_
          rintro e w1 ⟨rfl, hb1⟩
          have HG1 := Lib.hid (HG.out.next hb1)
          have HO1 := Lib.hid (own_kept HO.out hb1)
          clear hb1 d0 d1 d2 d3 d4 z0 z1 z2 z3 z4 z5
          go_wp2_with fail
          refine (HGet.out _).mono ?_
          rintro e w' ⟨rfl, rfl⟩
          go_wp2_with fail
          have y2 := fun (z : LatW w1) => (HG1.out.next z.bel).g.cells.2.2.1
          have y3 := fun (z : LatW w1) => (HG1.out.next z.bel).g.cells.2.2.2.1
          refine wp_region_in (V := w1) (Below.refl _ _) (by kernel_rfl) (by kernel_rfl) ?_
          repeat (first | go_big_quiet_skip | quiet_step (first | (go_at_call 53; exact Calls.later_of (HRH.out _)) | (go_at_call 54; exact Calls.later_same (HCeil.out _))) | (go_big_quiet_want; go_big_quiet_op; go_big_quiet_on))
          refine wpQuiet_nil ?_
          intro w9 hw9
          obtain ⟨p9, hw9'⟩ := hw9
          subst hw9'
          have HG9 := Lib.hid (HG1.out.next p9.bel)
          obtain ⟨z0, z1, z2, z3, z4, z5, _⟩ := HG9.out.g.cells
          obtain ⟨r0, r1, r2, r3, r4, r5, r6⟩ := HG9.out.res.cells
          have HEnd := Lib.hid (find_end HG9.out ((own_kept HO1.out p9.bel)) (by omega) HOR.out HOV.out HST.out HSc.out (scanR_stop HNone.out f))
          clear y2 y3
          go_wp2_with fail
          (try simp only [Exit.inBlock, Exit.then])
          have HR := (HG9.out.res.set vg vx vn vu ST (.slice A pre.length c))
          refine bodyPost_ret (v := .agg #[.int .i64 vg, .int .i64 vx, .int .i64 vn, .int .i64 vu, .string ST, .slice A pre.length c]) (results_cell_row rfl _ _ (w.heap.size + 1) 38 #[.int .i64 vg, .int .i64 vx, .int .i64 vn, .int .i64 vu, .string ST, .slice A pre.length c] (0, 0) _ rfl HR logD_desc rfl (by kernel_rfl)) rfl HEnd.out
        by_cases q1 : (Z : Int) ≤ 32 * (M : Int)
        case neg =>
          have HNone := Lib.hid (HRec.out.2 (fun h => q1 (HDoc.out.1 h).2.1))
          have q1b : decide (32 * (M : Int) < (Z : Int)) = true := by rw [decide_eq_true_iff]; omega
          clear q1
          go_wp2_with fail
          refine HSecC2.out.mono ?_
          rintro e w1 ⟨rfl, hb1⟩
          have HG1 := Lib.hid (HG.out.next hb1)
          have HO1 := Lib.hid (own_kept HO.out hb1)
          clear hb1 d0 d1 d2 d3 d4 z0 z1 z2 z3 z4 z5
          go_wp2_with fail
          refine (HGet.out _).mono ?_
          rintro e w' ⟨rfl, rfl⟩
          go_wp2_with fail
          have y2 := fun (z : LatW w1) => (HG1.out.next z.bel).g.cells.2.2.1
          have y3 := fun (z : LatW w1) => (HG1.out.next z.bel).g.cells.2.2.2.1
          refine wp_region_in (V := w1) (Below.refl _ _) (by kernel_rfl) (by kernel_rfl) ?_
          repeat (first | go_big_quiet_skip | quiet_step (first | (go_at_call 53; exact Calls.later_of (HRH.out _)) | (go_at_call 54; exact Calls.later_same (HCeil.out _))) | (go_big_quiet_want; go_big_quiet_op; go_big_quiet_on))
          refine wpQuiet_nil ?_
          intro w9 hw9
          obtain ⟨p9, hw9'⟩ := hw9
          subst hw9'
          have HG9 := Lib.hid (HG1.out.next p9.bel)
          obtain ⟨z0, z1, z2, z3, z4, z5, _⟩ := HG9.out.g.cells
          obtain ⟨r0, r1, r2, r3, r4, r5, r6⟩ := HG9.out.res.cells
          have HEnd := Lib.hid (find_end HG9.out ((own_kept HO1.out p9.bel)) (by omega) HOR.out HOV.out HST.out HSc.out (scanR_stop HNone.out f))
          clear y2 y3
          go_wp2_with fail
          (try simp only [Exit.inBlock, Exit.then])
          have HR := (HG9.out.res.set vg vx vn vu ST (.slice A pre.length c))
          refine bodyPost_ret (v := .agg #[.int .i64 vg, .int .i64 vx, .int .i64 vn, .int .i64 vu, .string ST, .slice A pre.length c]) (results_cell_row rfl _ _ (w.heap.size + 1) 38 #[.int .i64 vg, .int .i64 vx, .int .i64 vn, .int .i64 vu, .string ST, .slice A pre.length c] (0, 0) _ rfl HR logD_desc rfl (by kernel_rfl)) rfl HEnd.out
        have q1b : decide (32 * (M : Int) < (Z : Int)) = false := by rw [decide_eq_false_iff_not]; omega
        have HCeil := Lib.hid (fun w' => DocCeil_any Z (by omega) w')
        have HZ1 := Lib.hid (le_secs Z)
        have hsc : secs Z ≤ 4096 := by unfold secs; omega
        obtain ⟨cz, hcz⟩ : ∃ cz, secs Z = cz := ⟨_, rfl⟩
        rw [hcz] at HCeil HZ1 hsc HDoc
        have HCz := Lib.hid hcz
        clear hcz
        have hcz0 : (0 : Int) ≤ (cz : Int) := Int.natCast_nonneg _
        have wC : IntKind.i64.wrap ((vu : Int) + 1 + (cz : Int)) = (vu : Int) + 1 + (cz : Int) := by rw [IntKind.wrap_i64]; omega
        by_cases q2 : vu + 1 + cz < M
        case neg =>
          have HNone := Lib.hid (HRec.out.2 (fun h => q2 (HDoc.out.1 h).2.2))
          have q2b : decide ((M : Int) ≤ (vu : Int) + 1 + (cz : Int)) = true := by rw [decide_eq_true_iff]; omega
          clear q2
          go_wp2_with fail
          refine HSecC2.out.mono ?_
          rintro e w1 ⟨rfl, hb1⟩
          have HG1 := Lib.hid (HG.out.next hb1)
          have HO1 := Lib.hid (own_kept HO.out hb1)
          clear hb1 d0 d1 d2 d3 d4 z0 z1 z2 z3 z4 z5
          go_wp2_with fail
          refine (HGet.out _).mono ?_
          rintro e w' ⟨rfl, rfl⟩
          go_wp2_with fail
          have y2 := fun (z : LatW w1) => (HG1.out.next z.bel).g.cells.2.2.1
          have y3 := fun (z : LatW w1) => (HG1.out.next z.bel).g.cells.2.2.2.1
          refine wp_region_in (V := w1) (Below.refl _ _) (by kernel_rfl) (by kernel_rfl) ?_
          repeat (first | go_big_quiet_skip | quiet_step (first | (go_at_call 53; exact Calls.later_of (HRH.out _)) | (go_at_call 54; exact Calls.later_same (HCeil.out _))) | (go_big_quiet_want; go_big_quiet_op; go_big_quiet_on))
          refine wpQuiet_nil ?_
          intro w9 hw9
          obtain ⟨p9, hw9'⟩ := hw9
          subst hw9'
          have HG9 := Lib.hid (HG1.out.next p9.bel)
          obtain ⟨z0, z1, z2, z3, z4, z5, _⟩ := HG9.out.g.cells
          obtain ⟨r0, r1, r2, r3, r4, r5, r6⟩ := HG9.out.res.cells
          have HEnd := Lib.hid (find_end HG9.out ((own_kept HO1.out p9.bel)) (by omega) HOR.out HOV.out HST.out HSc.out (scanR_stop HNone.out f))
          clear y2 y3
          go_wp2_with fail
          (try simp only [Exit.inBlock, Exit.then])
          have HR := (HG9.out.res.set vg vx vn vu ST (.slice A pre.length c))
          refine bodyPost_ret (v := .agg #[.int .i64 vg, .int .i64 vx, .int .i64 vn, .int .i64 vu, .string ST, .slice A pre.length c]) (results_cell_row rfl _ _ (w.heap.size + 1) 38 #[.int .i64 vg, .int .i64 vx, .int .i64 vn, .int .i64 vu, .string ST, .slice A pre.length c] (0, 0) _ rfl HR logD_desc rfl (by kernel_rfl)) rfl HEnd.out
        have q2b : decide ((M : Int) ≤ (vu : Int) + 1 + (cz : Int)) = false := by rw [decide_eq_false_iff_not]; omega
        have HSome := Lib.hid (HRec.out.1 (HDoc.out.2 ⟨HSeq.out.1 q0, q1, q2⟩))
        go_wp2_with fail
        refine HSecC2.out.mono ?_
        rintro e w1 ⟨rfl, hb1⟩
        have HG1 := Lib.hid (HG.out.next hb1)
        have HO1 := Lib.hid (own_kept HO.out hb1)
        clear hb1 d0 d1 d2 d3 d4 z0 z1 z2 z3 z4 z5
        go_wp2_with fail
        refine (HGet.out _).mono ?_
        rintro e w' ⟨rfl, rfl⟩
        go_wp2_with fail
        have y2 := fun (z : LatW w1) => (HG1.out.next z.bel).g.cells.2.2.1
        have y3 := fun (z : LatW w1) => (HG1.out.next z.bel).g.cells.2.2.2.1
        refine wp_region_in (V := w1) (Below.refl _ _) (by kernel_rfl) (by kernel_rfl) ?_
        repeat (first | go_big_quiet_skip | quiet_step (first | (go_at_call 53; exact Calls.later_of (HRH.out _)) | (go_at_call 54; exact Calls.later_same (HCeil.out _))) | (go_big_quiet_want; go_big_quiet_op; go_big_quiet_on))
        refine wpQuiet_nil ?_
        intro w9 hw9
        obtain ⟨p9, hw9'⟩ := hw9
        subst hw9'
        have HG9 := Lib.hid (HG1.out.next p9.bel)
        have HO9 := Lib.hid (own_kept HO1.out p9.bel)
        clear y2 y3
        have w1c : IntKind.i64.wrap (1 + (cz : Int)) = 1 + (cz : Int) := by rw [IntKind.wrap_i64]; omega
        have HArC := Lib.hid (fun w' => by
          have t := HAr.out w' vx (1 + cz) hnx (by omega)
          rw [show ((1 + cz : Nat) : Int) = 1 + (cz : Int) from by omega] at t
          exact t)
        have hbig := HG9.out.big
        go_wp2_with fail
        refine wp_region_held_drew (S := fun w' => Below (w.heap.size + 1 + 1 + 1) p9.wd w') (by kernel_rfl) (Below.refl _ _).drew (fun hHeld => ?_)
        refine wpAnyH_take (i := 0) (oi := { dst := some 72, op := Op.load 30 (Operand.tmp 2), type := 30, pos := "ref.go:109", after := #[], guard := none }) (v := .agg #[.slice fA N fc, .slice aA ml ac, .slice wA ml wc, .int .i64 L, .bool o]) rfl (by kernel_rfl) (by kernel_rfl) (by kernel_rfl) (fun _ _ _ h => h) (Or.inl ⟨by rfl, fun w hS => by obtain ⟨s0, s1, s2, s3, s4, _⟩ := (HG9.out.keep hS).five.cells; go_simp⟩) hHeld ?_
        try simp only [Act.put, List.setIfInBounds_toArray, List.set_cons_zero, List.set_cons_succ]
        refine wpAnyH_take (i := 1) (oi := { dst := some 73, op := Op.move (Operand.tmp 1), type := 3, pos := "ref.go:109", after := #[], guard := none }) (v := .int .i64 slot) rfl (by kernel_rfl) (by kernel_rfl) (by kernel_rfl) (fun _ _ _ h => h) (Or.inl ⟨by rfl, fun w hS => by go_simp⟩) hHeld ?_
        try simp only [Act.put, List.setIfInBounds_toArray, List.set_cons_zero, List.set_cons_succ]
        refine wpAnyH_take (i := 2) (oi := { dst := some 74, op := Op.fieldAddr 38 (Operand.tmp 5) 1, type := 0, pos := "ref.go:109", after := #[], guard := none }) (v := .pointer (some ⟨w.heap.size + 1 + 1, 1, none⟩)) rfl (by kernel_rfl) (by kernel_rfl) (by kernel_rfl) (fun _ _ _ h => h) (Or.inl ⟨by rfl, fun w hS => by go_simp⟩) hHeld ?_
        try simp only [Act.put, List.setIfInBounds_toArray, List.set_cons_zero, List.set_cons_succ]
        refine wpAnyH_take (i := 3) (oi := { dst := some 75, op := Op.load 3 (Operand.tmp 74), type := 3, pos := "ref.go:109", after := #[{ on := 2, ground := Ground.data }], guard := none }) (v := .int .i64 vx) rfl (by kernel_rfl) (by kernel_rfl) (by kernel_rfl) (fun _ _ _ h => h) (Or.inl ⟨by rfl, fun w hS => by obtain ⟨s0, s1, s2, s3, s4, s5, _⟩ := (HG9.out.keep hS).g.cells; go_simp⟩) hHeld ?_
        try simp only [Act.put, List.setIfInBounds_toArray, List.set_cons_zero, List.set_cons_succ]
        refine wpAnyH_take (i := 4) (oi := { dst := some 76, op := Op.move (Operand.tmp 11), type := 3, pos := "ref.go:109", after := #[], guard := none }) (v := .int .i64 Z) rfl (by kernel_rfl) (by kernel_rfl) (by kernel_rfl) (fun _ _ _ h => h) (Or.inl ⟨by rfl, fun w hS => by go_simp⟩) hHeld ?_
        try simp only [Act.put, List.setIfInBounds_toArray, List.set_cons_zero, List.set_cons_succ]
        have HBd : Hid (Below p9.wd.heap.size p9.wd p9.wd.drew) := Lib.hid (Below.refl _ _).drew
        generalize p9.wd.drew = W at *
        refine wpAnyH_ready (rs := [5]) (by kernel_rfl) (by simp) ?_
        refine AllReadyH.cons (o := { dst := some 77, op := Op.call { callee := Callee.value (Operand.func 54), args := #[Operand.tmp 76], argTypes := #[3] }, type := 3, pos := "ref.go:109", after := #[{ on := 4, ground := Ground.data }], guard := none }) rfl (fun K hK => ?_) AllReadyH.nil
        rw [if_pos (by rfl)]
        go_simp
        refine (HCeil.out _).mono ?_
        rintro e w9 ⟨rfl, rfl⟩
        go_wp2_with fail
        refine hK.out _ _ hHeld (fun hHeld1 => ?_)
        clear hK K
        try simp only [Act.put, List.setIfInBounds_toArray, List.set_cons_zero, List.set_cons_succ]
        refine wpAnyH_take (i := 6) (oi := { dst := some 78, op := Op.binOp BinOp.add 3 (Operand.const (Value.int IntKind.i64 1)) (Operand.tmp 77) 3, type := 3, pos := "ref.go:109", after := #[{ on := 5, ground := Ground.data }], guard := none }) (v := .int .i64 (1 + (cz : Int))) rfl (by kernel_rfl) (by kernel_rfl) (by kernel_rfl) (fun _ _ _ h => h) (Or.inl ⟨by rfl, fun w hS => by go_simp⟩) hHeld1 ?_
        try simp only [Act.put, List.setIfInBounds_toArray, List.set_cons_zero, List.set_cons_succ]
        refine wpAnyH_ready (rs := [7]) (by kernel_rfl) (by simp) ?_
        refine AllReadyH.cons (o := { dst := some 79, op := Op.call { callee := Callee.value (Operand.func 55), args := #[Operand.tmp 72, Operand.tmp 73, Operand.tmp 75, Operand.tmp 78], argTypes := #[30, 3, 3, 3] }, type := 28, pos := "ref.go:109", after := #[{ on := 0, ground := Ground.data }, { on := 1, ground := Ground.data }, { on := 3, ground := Ground.data }, { on := 6, ground := Ground.data }, { on := 5, ground := Ground.chain }], guard := none }) rfl (fun K hK => ?_) AllReadyH.nil
        rw [if_pos (by rfl)]
        go_simp
        refine (HArC.out _).mono ?_
        rintro e w5 ⟨A4, c4, rfl, hl4, hcap4, hb4⟩
        go_wp2_with fail
        have HB5 := Lib.hid (below_next HBd.out hb4)
        have HG5 := Lib.hid (HG9.out.next HB5.out)
        have HO5 := Lib.hid (own_kept HO9.out HB5.out)
        obtain ⟨b4, f4, hA4, hlt4, hc4⟩ := hl4.at_ (by intro e; have := congrArg List.length e; simp [aroundL] at this)
        subst hA4
        obtain ⟨A5, hA5⟩ : ∃ A5 : Option Addr, (if c4 = 1 then some (⟨b4, f4, none⟩ : Addr) else some ⟨b4, f4 + 1, none⟩) = A5 := ⟨_, rfl⟩
        have HL4 : Hid (Lies w5 w5.heap.size A5 ((aroundL slot M vx (1 + cz)).tail.map natV)) := Lib.hid (by
          have t := hl4.part 1 (1 + cz)
          rw [List.take_of_length_le (by simp [aroundL])] at t
          rw [List.map_tail, ← List.drop_one]
          by_cases h1 : c4 = 1
          · left
            rw [List.drop_eq_nil_of_le]
            simp [aroundL]; omega
          · rw [← hA5, if_neg h1]; exact t)
        clear hl4 hb4 hlt4 hc4 hcap4
        have h1c : (1 : Int) ≤ 1 + (cz : Int) := by omega
        refine hK.out _ _ (HB5.out.mono hbig) (fun hHeld2 => ?_)
        clear hK K
        try simp only [Act.put, List.setIfInBounds_toArray, List.set_cons_zero, List.set_cons_succ]
        refine wpAnyH_take (i := 8) (oi := { dst := some 12, op := Op.assign (Operand.tmp 79), type := 28, pos := "ref.go:109", after := #[{ on := 7, ground := Ground.data }, { on := 7, ground := Ground.chain }, { on := 0, ground := Ground.phase }, { on := 1, ground := Ground.phase }, { on := 2, ground := Ground.phase }, { on := 3, ground := Ground.phase }, { on := 4, ground := Ground.phase }, { on := 5, ground := Ground.phase }, { on := 6, ground := Ground.phase }, { on := 7, ground := Ground.phase }], guard := none }) (v := .slice (some ⟨b4, f4, none⟩) (1 + cz) c4) rfl (by kernel_rfl) (by kernel_rfl) (by kernel_rfl) (fun _ _ _ h => h) (Or.inl ⟨by rfl, fun w hS => by go_simp⟩) hHeld2 ?_
        try simp only [Act.put, List.setIfInBounds_toArray, List.set_cons_zero, List.set_cons_succ]
        refine wpAnyH_done (by kernel_rfl) ?_ _
        clear hHeld hHeld1 hHeld2
        have hbig5 := HG5.out.big
        go_upto_region 14 with fail
        go_cut [12] from 40 to 109 (fun v wx => v = .slice (some ⟨b4, f4, none⟩) (1 + cz) c4 ∧ ∃ (g8 cap8 : Nat), Hid (FindSt w wx (.slice fA N fc) (.slice aA ml ac) (.slice wA ml wc) (.int .i64 L) (.bool o) vg vx vn vu ST (.slice (some ⟨g8, 0, none⟩) (pre.length + 1) cap8)) ∧ Hid (wx.ownsRow (w.heap.size + 1 + 1 + 1) 9 1 (.slice (some ⟨g8, 0, none⟩) (pre.length + 1) cap8) (pre.length + 1) ((pre ++ [recB d.seen ⟨vd, slot, vg, vn, vx, vu, vdn⟩ Z]).map secV)))
        case first =>
          refine wp_region_held_drew (S := fun w' => Below (w.heap.size + 1 + 1) w5 w') (by kernel_rfl) (Below.refl _ _).drew (fun hHeld => ?_)
          have HDk := Lib.hid (fun w' (hb : Below (w.heap.size + 1 + 1) w5 w') => (HG5.out.five.below hb (by omega)).cells)
          refine wpAnyH_take (i := 0) (oi := { dst := some 80, op := Op.fieldAddr 38 (Operand.tmp 5) 5, type := 0, pos := "ref.go:110", after := #[], guard := none }) (v := .pointer (some ⟨w.heap.size + 1 + 1, 5, none⟩)) rfl (by kernel_rfl) (by kernel_rfl) (by kernel_rfl) (fun _ _ _ h => h) (Or.inl ⟨by rfl, fun w hS => by go_simp⟩) hHeld ?_
          try simp only [Act.put, List.setIfInBounds_toArray, List.set_cons_zero, List.set_cons_succ]
          refine wpAnyH_take (i := 2) (oi := { dst := some 82, op := Op.load 30 (Operand.tmp 2), type := 30, pos := "ref.go:110", after := #[], guard := none }) (v := .agg #[.slice fA N fc, .slice aA ml ac, .slice wA ml wc, .int .i64 L, .bool o]) rfl (by kernel_rfl) (by kernel_rfl) (by kernel_rfl) (fun _ _ _ h => h) (Or.inl ⟨by rfl, fun w hS => by obtain ⟨s0, s1, s2, s3, s4, _⟩ := HDk.out w hS; go_simp⟩) hHeld ?_
          try simp only [Act.put, List.setIfInBounds_toArray, List.set_cons_zero, List.set_cons_succ]
          refine wpAnyH_take (i := 3) (oi := { dst := some 83, op := Op.move (Operand.tmp 11), type := 3, pos := "ref.go:110", after := #[], guard := none }) (v := .int .i64 Z) rfl (by kernel_rfl) (by kernel_rfl) (by kernel_rfl) (fun _ _ _ h => h) (Or.inl ⟨by rfl, fun w hS => by go_simp⟩) hHeld ?_
          try simp only [Act.put, List.setIfInBounds_toArray, List.set_cons_zero, List.set_cons_succ]
          refine wpAnyH_take (i := 4) (oi := { dst := some 84, op := Op.move (Operand.tmp 12), type := 28, pos := "ref.go:110", after := #[], guard := none }) (v := .slice (some ⟨b4, f4, none⟩) (1 + cz) c4) rfl (by kernel_rfl) (by kernel_rfl) (by kernel_rfl) (fun _ _ _ h => h) (Or.inl ⟨by rfl, fun w hS => by go_simp⟩) hHeld ?_
          try simp only [Act.put, List.setIfInBounds_toArray, List.set_cons_zero, List.set_cons_succ]
          refine wpAnyH_take (i := 5) (oi := { dst := some 85, op := Op.slice 28 (Operand.tmp 84) (some (Operand.const (Value.int IntKind.i64 1))) none none, type := 28, pos := "ref.go:110", after := #[{ on := 4, ground := Ground.data }], guard := none }) (v := .slice A5 cz (c4 - 1)) rfl (by kernel_rfl) (by kernel_rfl) (by kernel_rfl) (fun _ _ _ h => h) (Or.inl ⟨by rfl, fun w hS => by go_simp; done⟩) hHeld ?_
          try simp only [Act.put, List.setIfInBounds_toArray, List.set_cons_zero, List.set_cons_succ]
          have HReC := Lib.hid (fun w' c (hb : Below w.heap.size w w') (hl : Lies w' w'.heap.size A5 ((aroundL slot M vx (1 + cz)).tail.map natV)) => HBy.out w' A5 c Z ((aroundL slot M vx (1 + cz)).tail) hb hl (fun y hy => around_lt HNl.out HM.out hy) (by rw [around_tl]; exact HZ1.out) (by rw [around_tl]; omega))
          have hRec : (readsL d ((aroundL slot M vx (1 + cz)).tail)).take Z = recB d.seen ⟨vd, slot, vg, vn, vx, vu, vdn⟩ Z := by
            have t := HRecL.out ⟨vd, slot, vg, vn, vx, vu, vdn⟩ (by have := HOk.out; rw [HVs.out] at this; exact this) Z
            simp only at t
            rw [HM.out, HCz.out] at t
            exact t
          obtain ⟨RE, hRE⟩ : ∃ RE, recB d.seen ⟨vd, slot, vg, vn, vx, vu, vdn⟩ Z = RE := ⟨_, rfl⟩
          rw [hRec, around_tl, hRE] at HReC
          have HRE := Lib.hid hRE
          clear hRec hRE
          have HBd5 : Hid (Below w5.heap.size w5 w5.drew) := Lib.hid (Below.refl _ _).drew
          have HL5 := Lib.hid (HL4.out.next HBd5.out)
          have HO5d := Lib.hid (own_kept HO5.out HBd5.out)
          generalize w5.drew = W5 at *
          have z5W := (HG5.out.next HBd5.out).g.cells.2.2.2.2.2.1
          refine wpAnyH_ready (rs := [1, 6]) (by kernel_rfl) (by simp) ?_
          refine AllReadyH.cons (o := { dst := some 81, op := Op.load 27 (Operand.tmp 80), type := 27, pos := "ref.go:110", after := #[{ on := 0, ground := Ground.data }], guard := none }) rfl (fun K hK => ?_) (AllReadyH.cons (o := { dst := some 86, op := Op.call { callee := Callee.value (Operand.func 56), args := #[Operand.tmp 82, Operand.tmp 83, Operand.tmp 85], argTypes := #[30, 3, 28] }, type := 9, pos := "ref.go:110", after := #[{ on := 2, ground := Ground.data }, { on := 3, ground := Ground.data }, { on := 5, ground := Ground.data }], guard := none }) rfl (fun K hK => ?_) AllReadyH.nil)
          · have zL : W5.cell? ⟨w.heap.size + 1 + 1, 5, none⟩ = some (.slice A pre.length c) := (HG5.out.next HBd5.out).g.cells.2.2.2.2.2.1
            rw [if_pos (by rfl)]
            go_simp
            clear zL
            refine hK.out _ _ (HBd5.out.mono (by show w.heap.size + 1 + 1 ≤ w5.heap.size; omega)) (fun hA1 => ?_)
            clear hK K
            try simp only [Act.put, List.setIfInBounds_toArray, List.set_cons_zero, List.set_cons_succ]
            refine wpAnyH_ready (rs := [6]) (by kernel_rfl) (by simp) ?_
            refine AllReadyH.cons (o := { dst := some 86, op := Op.call { callee := Callee.value (Operand.func 56), args := #[Operand.tmp 82, Operand.tmp 83, Operand.tmp 85], argTypes := #[30, 3, 28] }, type := 9, pos := "ref.go:110", after := #[{ on := 2, ground := Ground.data }, { on := 3, ground := Ground.data }, { on := 5, ground := Ground.data }], guard := none }) rfl (fun K hK => ?_) AllReadyH.nil
            rw [if_pos (by rfl)]
            go_simp
            refine (HReC.out _ _ (HG5.out.bel.trans (HBd5.out.mono HG5.out.bel.size)) HL5.out).mono ?_
            rintro e w6 ⟨rfl, hb6⟩
            go_wp2_with fail
            have HB6 := Lib.hid (below_next HBd5.out hb6)
            have HO6 := Lib.hid (own_kept HO5d.out hb6)
            clear hb6
            refine hK.out _ _ (HB6.out.mono (by show w.heap.size + 1 + 1 ≤ w5.heap.size; omega)) (fun hA2 => ?_)
            clear hK K
            try simp only [Act.put, List.setIfInBounds_toArray, List.set_cons_zero, List.set_cons_succ]
            refine wpAnyH_ready (rs := [7]) (by kernel_rfl) (by simp) ?_
            refine AllReadyH.cons (o := { dst := some 87, op := Op.buildSlice 27 1 #[(0, Operand.tmp 86)], type := 27, pos := "ref.go:110", after := #[{ on := 6, ground := Ground.data }], guard := none }) rfl (fun K hK => ?_) AllReadyH.nil
            rw [if_pos (by rfl)]
            go_simp
            have HO7 := Lib.hid (HO6.out.alloc (.cells #[.string (str RE)] 9))
            have hnew7 : ∀ j u, ([.string (str RE)] : List Value)[j]? = some u → (w6.alloc (.cells #[.string (str RE)] 9)).cell? ((⟨w6.heap.size, 0, none⟩ : Addr).add j) = some u := World.news_of_block (cs := #[.string (str RE)]) (t := 9) (fr := (0, 0)) (heap_alloc_new w6 _)
            have HNew7 := Lib.hid hnew7
            have HB7 := Lib.hid (HB6.out.alloc HB6.out.size (.cells #[.string (str RE)] 9))
            clear hnew7
            refine hK.out _ _ (HB7.out.mono (by show w.heap.size + 1 + 1 ≤ w5.heap.size; omega)) (fun hA3 => ?_)
            clear hK K
            try simp only [Act.put, List.setIfInBounds_toArray, List.set_cons_zero, List.set_cons_succ]
            generalize w6.alloc (.cells #[.string (str RE)] 9) = w7 at *
            generalize w6.heap.size = q7 at *
            have hbig7 : w.heap.size + 1 + 1 + 1 ≤ w7.heap.size := Nat.le_trans hbig5 HB7.out.size
            have hpl : pre.length ≤ 4096 := by have := HPl.out; omega
            refine wpAnyH_ready (rs := [8]) (by kernel_rfl) (by simp) ?_
            refine AllReadyH.cons (o := { dst := some 88, op := Op.call { callee := Callee.builtin Builtin.append, args := #[Operand.tmp 81, Operand.tmp 87], argTypes := #[27, 27] }, type := 27, pos := "ref.go:110", after := #[{ on := 1, ground := Ground.data }, { on := 7, ground := Ground.data }, { on := 6, ground := Ground.chain }], guard := none }) rfl (fun K hK => ?_) AllReadyH.nil
            refine step_append_lies _ (by rfl) _ _ _ (by rfl) (w.heap.size + 1 + 1 + 1) 9 i0 (.string ByteArray.empty) 1 16 Tryz.underlying27 hi0 hz0 hz1 hz2 rfl (by decide) (.slice A pre.length c) pre.length (pre.map secV) (by rfl) HO7.out ⟨q7, 0, none⟩ 1 1 [.string (str RE)] (by rfl) (by rfl) HNew7.out (by simp [Value.oneCell']) (by omega) (by unfold maxLen; omega) (by omega) hbig7 w7.heap.size rfl ?_
            intro g8 cap8 w8 hown8 hg8 _ _
            have HB8 : Hid (Below (w.heap.size + 1 + 1 + 1) w5 w8) := Lib.hid ((HB7.out.mono hbig5).grown hg8 hbig7 (fun k hk => (HO7.out.lt k hk).1))
            have HG8 := Lib.hid (HG5.out.keep HB8.out)
            have HO8 : Hid (w8.ownsRow (w.heap.size + 1 + 1 + 1) 9 1 (.slice (some ⟨g8, 0, none⟩) (pre.length + 1) cap8) (pre.length + 1) ((pre ++ [RE]).map secV)) := Lib.hid (by rw [List.map_append]; exact hown8)
            clear hown8 hg8
            refine hK.out _ _ (HB8.out.mono (Nat.le_succ _)) (fun hA3x => ?_)
            clear hK K
            try simp only [Act.put, List.setIfInBounds_toArray, List.set_cons_zero, List.set_cons_succ]
            refine wpAnyH_take (i := 9) (oi := { dst := some 89, op := Op.fieldAddr 38 (Operand.tmp 5) 5, type := 0, pos := "ref.go:110", after := #[{ on := 0, ground := Ground.phase }, { on := 1, ground := Ground.phase }, { on := 2, ground := Ground.phase }, { on := 3, ground := Ground.phase }, { on := 4, ground := Ground.phase }, { on := 5, ground := Ground.phase }, { on := 6, ground := Ground.phase }, { on := 7, ground := Ground.phase }, { on := 8, ground := Ground.phase }], guard := none }) (v := .pointer (some ⟨w.heap.size + 1 + 1, 5, none⟩)) rfl (by kernel_rfl) (by kernel_rfl) (by kernel_rfl) (fun _ _ _ h => h) (Or.inl ⟨by rfl, fun w hS => by go_simp⟩) hA3x ?_
            try simp only [Act.put, List.setIfInBounds_toArray, List.set_cons_zero, List.set_cons_succ]
            have m5 := HG8.out.g.cells.2.2.2.2.2.1
            have m6 := HG8.out.g.cells.2.2.2.2.2.2
            refine wpAnyH_ready (rs := [10]) (by kernel_rfl) (by simp) ?_
            refine AllReadyH.cons (o := { dst := none, op := Op.store 27 (Operand.tmp 89) (Operand.tmp 88), type := 0, pos := "ref.go:110", after := #[{ on := 9, ground := Ground.data }, { on := 8, ground := Ground.data }, { on := 8, ground := Ground.chain }, { on := 0, ground := Ground.phase }, { on := 1, ground := Ground.phase }, { on := 2, ground := Ground.phase }, { on := 3, ground := Ground.phase }, { on := 4, ground := Ground.phase }, { on := 5, ground := Ground.phase }, { on := 6, ground := Ground.phase }, { on := 7, ground := Ground.phase }, { on := 8, ground := Ground.phase }], guard := none }) rfl (fun K hK => ?_) AllReadyH.nil
            rw [if_pos (by rfl)]
            go_simp
            have HGa := Lib.hid (HG8.out.rcs (.slice (some ⟨g8, 0, none⟩) (pre.length + 1) cap8))
            have HOa := Lib.hid (own_setBelow HO8.out (p := ⟨w.heap.size + 1 + 1, 5, none⟩) (by show w.heap.size + 1 + 1 < w.heap.size + 1 + 1 + 1; omega) (.slice (some ⟨g8, 0, none⟩) (pre.length + 1) cap8))
            have HSa : Hid (Below (w.heap.size + 1 + 1) w5 (w8.setCell ⟨w.heap.size + 1 + 1, 5, none⟩ (.slice (some ⟨g8, 0, none⟩) (pre.length + 1) cap8))) := Lib.hid ((HB8.out.mono (Nat.le_succ _)).setCell (Nat.le_refl _) _)
            clear m5 m6
            refine hK.out _ _ HSa.out (fun hA3y => ?_)
            clear hK K
            try simp only [Act.put, List.setIfInBounds_toArray, List.set_cons_zero, List.set_cons_succ]
            refine wpAnyH_done (by kernel_rfl) ?_ _
            generalize w8.setCell ⟨w.heap.size + 1 + 1, 5, none⟩ (.slice (some ⟨g8, 0, none⟩) (pre.length + 1) cap8) = wA at *
            go_wp2_with fail
            go_meet
            case rel => exact ⟨rfl, g8, cap8, HGa, by rw [HRE.out]; exact HOa⟩
          · rw [if_pos (by rfl)]
            go_simp
            refine (HReC.out _ _ (HG5.out.bel.trans (HBd5.out.mono HG5.out.bel.size)) HL5.out).mono ?_
            rintro e w6 ⟨rfl, hb6⟩
            go_wp2_with fail
            have HB6 := Lib.hid (below_next HBd5.out hb6)
            have HO6 := Lib.hid (own_kept HO5d.out hb6)
            clear hb6
            refine hK.out _ _ (HB6.out.mono (by show w.heap.size + 1 + 1 ≤ w5.heap.size; omega)) (fun hA1 => ?_)
            clear hK K
            try simp only [Act.put, List.setIfInBounds_toArray, List.set_cons_zero, List.set_cons_succ]
            refine wpAnyH_ready (rs := [1, 7]) (by kernel_rfl) (by simp) ?_
            refine AllReadyH.cons (o := { dst := some 81, op := Op.load 27 (Operand.tmp 80), type := 27, pos := "ref.go:110", after := #[{ on := 0, ground := Ground.data }], guard := none }) rfl (fun K hK => ?_) (AllReadyH.cons (o := { dst := some 87, op := Op.buildSlice 27 1 #[(0, Operand.tmp 86)], type := 27, pos := "ref.go:110", after := #[{ on := 6, ground := Ground.data }], guard := none }) rfl (fun K hK => ?_) AllReadyH.nil)
            · have zL : w6.cell? ⟨w.heap.size + 1 + 1, 5, none⟩ = some (.slice A pre.length c) := (HG5.out.next HB6.out).g.cells.2.2.2.2.2.1
              rw [if_pos (by rfl)]
              go_simp
              clear zL
              refine hK.out _ _ (HB6.out.mono (by show w.heap.size + 1 + 1 ≤ w5.heap.size; omega)) (fun hA2 => ?_)
              clear hK K
              try simp only [Act.put, List.setIfInBounds_toArray, List.set_cons_zero, List.set_cons_succ]
              refine wpAnyH_ready (rs := [7]) (by kernel_rfl) (by simp) ?_
              refine AllReadyH.cons (o := { dst := some 87, op := Op.buildSlice 27 1 #[(0, Operand.tmp 86)], type := 27, pos := "ref.go:110", after := #[{ on := 6, ground := Ground.data }], guard := none }) rfl (fun K hK => ?_) AllReadyH.nil
              rw [if_pos (by rfl)]
              go_simp
              have HO7 := Lib.hid (HO6.out.alloc (.cells #[.string (str RE)] 9))
              have hnew7 : ∀ j u, ([.string (str RE)] : List Value)[j]? = some u → (w6.alloc (.cells #[.string (str RE)] 9)).cell? ((⟨w6.heap.size, 0, none⟩ : Addr).add j) = some u := World.news_of_block (cs := #[.string (str RE)]) (t := 9) (fr := (0, 0)) (heap_alloc_new w6 _)
              have HNew7 := Lib.hid hnew7
              have HB7 := Lib.hid (HB6.out.alloc HB6.out.size (.cells #[.string (str RE)] 9))
              clear hnew7
              refine hK.out _ _ (HB7.out.mono (by show w.heap.size + 1 + 1 ≤ w5.heap.size; omega)) (fun hA3 => ?_)
              clear hK K
              try simp only [Act.put, List.setIfInBounds_toArray, List.set_cons_zero, List.set_cons_succ]
              generalize w6.alloc (.cells #[.string (str RE)] 9) = w7 at *
              generalize w6.heap.size = q7 at *
              have hbig7 : w.heap.size + 1 + 1 + 1 ≤ w7.heap.size := Nat.le_trans hbig5 HB7.out.size
              have hpl : pre.length ≤ 4096 := by have := HPl.out; omega
              refine wpAnyH_ready (rs := [8]) (by kernel_rfl) (by simp) ?_
              refine AllReadyH.cons (o := { dst := some 88, op := Op.call { callee := Callee.builtin Builtin.append, args := #[Operand.tmp 81, Operand.tmp 87], argTypes := #[27, 27] }, type := 27, pos := "ref.go:110", after := #[{ on := 1, ground := Ground.data }, { on := 7, ground := Ground.data }, { on := 6, ground := Ground.chain }], guard := none }) rfl (fun K hK => ?_) AllReadyH.nil
              refine step_append_lies _ (by rfl) _ _ _ (by rfl) (w.heap.size + 1 + 1 + 1) 9 i0 (.string ByteArray.empty) 1 16 Tryz.underlying27 hi0 hz0 hz1 hz2 rfl (by decide) (.slice A pre.length c) pre.length (pre.map secV) (by rfl) HO7.out ⟨q7, 0, none⟩ 1 1 [.string (str RE)] (by rfl) (by rfl) HNew7.out (by simp [Value.oneCell']) (by omega) (by unfold maxLen; omega) (by omega) hbig7 w7.heap.size rfl ?_
              intro g8 cap8 w8 hown8 hg8 _ _
              have HB8 : Hid (Below (w.heap.size + 1 + 1 + 1) w5 w8) := Lib.hid ((HB7.out.mono hbig5).grown hg8 hbig7 (fun k hk => (HO7.out.lt k hk).1))
              have HG8 := Lib.hid (HG5.out.keep HB8.out)
              have HO8 : Hid (w8.ownsRow (w.heap.size + 1 + 1 + 1) 9 1 (.slice (some ⟨g8, 0, none⟩) (pre.length + 1) cap8) (pre.length + 1) ((pre ++ [RE]).map secV)) := Lib.hid (by rw [List.map_append]; exact hown8)
              clear hown8 hg8
              refine hK.out _ _ (HB8.out.mono (Nat.le_succ _)) (fun hA3x => ?_)
              clear hK K
              try simp only [Act.put, List.setIfInBounds_toArray, List.set_cons_zero, List.set_cons_succ]
              refine wpAnyH_take (i := 9) (oi := { dst := some 89, op := Op.fieldAddr 38 (Operand.tmp 5) 5, type := 0, pos := "ref.go:110", after := #[{ on := 0, ground := Ground.phase }, { on := 1, ground := Ground.phase }, { on := 2, ground := Ground.phase }, { on := 3, ground := Ground.phase }, { on := 4, ground := Ground.phase }, { on := 5, ground := Ground.phase }, { on := 6, ground := Ground.phase }, { on := 7, ground := Ground.phase }, { on := 8, ground := Ground.phase }], guard := none }) (v := .pointer (some ⟨w.heap.size + 1 + 1, 5, none⟩)) rfl (by kernel_rfl) (by kernel_rfl) (by kernel_rfl) (fun _ _ _ h => h) (Or.inl ⟨by rfl, fun w hS => by go_simp⟩) hA3x ?_
              try simp only [Act.put, List.setIfInBounds_toArray, List.set_cons_zero, List.set_cons_succ]
              have m5 := HG8.out.g.cells.2.2.2.2.2.1
              have m6 := HG8.out.g.cells.2.2.2.2.2.2
              refine wpAnyH_ready (rs := [10]) (by kernel_rfl) (by simp) ?_
              refine AllReadyH.cons (o := { dst := none, op := Op.store 27 (Operand.tmp 89) (Operand.tmp 88), type := 0, pos := "ref.go:110", after := #[{ on := 9, ground := Ground.data }, { on := 8, ground := Ground.data }, { on := 8, ground := Ground.chain }, { on := 0, ground := Ground.phase }, { on := 1, ground := Ground.phase }, { on := 2, ground := Ground.phase }, { on := 3, ground := Ground.phase }, { on := 4, ground := Ground.phase }, { on := 5, ground := Ground.phase }, { on := 6, ground := Ground.phase }, { on := 7, ground := Ground.phase }, { on := 8, ground := Ground.phase }], guard := none }) rfl (fun K hK => ?_) AllReadyH.nil
              rw [if_pos (by rfl)]
              go_simp
              have HGa := Lib.hid (HG8.out.rcs (.slice (some ⟨g8, 0, none⟩) (pre.length + 1) cap8))
              have HOa := Lib.hid (own_setBelow HO8.out (p := ⟨w.heap.size + 1 + 1, 5, none⟩) (by show w.heap.size + 1 + 1 < w.heap.size + 1 + 1 + 1; omega) (.slice (some ⟨g8, 0, none⟩) (pre.length + 1) cap8))
              have HSa : Hid (Below (w.heap.size + 1 + 1) w5 (w8.setCell ⟨w.heap.size + 1 + 1, 5, none⟩ (.slice (some ⟨g8, 0, none⟩) (pre.length + 1) cap8))) := Lib.hid ((HB8.out.mono (Nat.le_succ _)).setCell (Nat.le_refl _) _)
              clear m5 m6
              refine hK.out _ _ HSa.out (fun hA3y => ?_)
              clear hK K
              try simp only [Act.put, List.setIfInBounds_toArray, List.set_cons_zero, List.set_cons_succ]
              refine wpAnyH_done (by kernel_rfl) ?_ _
              generalize w8.setCell ⟨w.heap.size + 1 + 1, 5, none⟩ (.slice (some ⟨g8, 0, none⟩) (pre.length + 1) cap8) = wA at *
              go_wp2_with fail
              go_meet
              case rel => exact ⟨rfl, g8, cap8, HGa, by rw [HRE.out]; exact HOa⟩
            · rw [if_pos (by rfl)]
              go_simp
              have HO7 := Lib.hid (HO6.out.alloc (.cells #[.string (str RE)] 9))
              have hnew7 : ∀ j u, ([.string (str RE)] : List Value)[j]? = some u → (w6.alloc (.cells #[.string (str RE)] 9)).cell? ((⟨w6.heap.size, 0, none⟩ : Addr).add j) = some u := World.news_of_block (cs := #[.string (str RE)]) (t := 9) (fr := (0, 0)) (heap_alloc_new w6 _)
              have HNew7 := Lib.hid hnew7
              have HB7 := Lib.hid (HB6.out.alloc HB6.out.size (.cells #[.string (str RE)] 9))
              clear hnew7
              refine hK.out _ _ (HB7.out.mono (by show w.heap.size + 1 + 1 ≤ w5.heap.size; omega)) (fun hA2 => ?_)
              clear hK K
              try simp only [Act.put, List.setIfInBounds_toArray, List.set_cons_zero, List.set_cons_succ]
              generalize w6.alloc (.cells #[.string (str RE)] 9) = w7 at *
              generalize w6.heap.size = q7 at *
              refine wpAnyH_ready (rs := [1]) (by kernel_rfl) (by simp) ?_
              refine AllReadyH.cons (o := { dst := some 81, op := Op.load 27 (Operand.tmp 80), type := 27, pos := "ref.go:110", after := #[{ on := 0, ground := Ground.data }], guard := none }) rfl (fun K hK => ?_) AllReadyH.nil
              have zL : w7.cell? ⟨w.heap.size + 1 + 1, 5, none⟩ = some (.slice A pre.length c) := (HG5.out.next HB7.out).g.cells.2.2.2.2.2.1
              rw [if_pos (by rfl)]
              go_simp
              clear zL
              refine hK.out _ _ (HB7.out.mono (by show w.heap.size + 1 + 1 ≤ w5.heap.size; omega)) (fun hA3 => ?_)
              clear hK K
              try simp only [Act.put, List.setIfInBounds_toArray, List.set_cons_zero, List.set_cons_succ]
              have hbig7 : w.heap.size + 1 + 1 + 1 ≤ w7.heap.size := Nat.le_trans hbig5 HB7.out.size
              have hpl : pre.length ≤ 4096 := by have := HPl.out; omega
              refine wpAnyH_ready (rs := [8]) (by kernel_rfl) (by simp) ?_
              refine AllReadyH.cons (o := { dst := some 88, op := Op.call { callee := Callee.builtin Builtin.append, args := #[Operand.tmp 81, Operand.tmp 87], argTypes := #[27, 27] }, type := 27, pos := "ref.go:110", after := #[{ on := 1, ground := Ground.data }, { on := 7, ground := Ground.data }, { on := 6, ground := Ground.chain }], guard := none }) rfl (fun K hK => ?_) AllReadyH.nil
              refine step_append_lies _ (by rfl) _ _ _ (by rfl) (w.heap.size + 1 + 1 + 1) 9 i0 (.string ByteArray.empty) 1 16 Tryz.underlying27 hi0 hz0 hz1 hz2 rfl (by decide) (.slice A pre.length c) pre.length (pre.map secV) (by rfl) HO7.out ⟨q7, 0, none⟩ 1 1 [.string (str RE)] (by rfl) (by rfl) HNew7.out (by simp [Value.oneCell']) (by omega) (by unfold maxLen; omega) (by omega) hbig7 w7.heap.size rfl ?_
              intro g8 cap8 w8 hown8 hg8 _ _
              have HB8 : Hid (Below (w.heap.size + 1 + 1 + 1) w5 w8) := Lib.hid ((HB7.out.mono hbig5).grown hg8 hbig7 (fun k hk => (HO7.out.lt k hk).1))
              have HG8 := Lib.hid (HG5.out.keep HB8.out)
              have HO8 : Hid (w8.ownsRow (w.heap.size + 1 + 1 + 1) 9 1 (.slice (some ⟨g8, 0, none⟩) (pre.length + 1) cap8) (pre.length + 1) ((pre ++ [RE]).map secV)) := Lib.hid (by rw [List.map_append]; exact hown8)
              clear hown8 hg8
              refine hK.out _ _ (HB8.out.mono (Nat.le_succ _)) (fun hA3x => ?_)
              clear hK K
              try simp only [Act.put, List.setIfInBounds_toArray, List.set_cons_zero, List.set_cons_succ]
              refine wpAnyH_take (i := 9) (oi := { dst := some 89, op := Op.fieldAddr 38 (Operand.tmp 5) 5, type := 0, pos := "ref.go:110", after := #[{ on := 0, ground := Ground.phase }, { on := 1, ground := Ground.phase }, { on := 2, ground := Ground.phase }, { on := 3, ground := Ground.phase }, { on := 4, ground := Ground.phase }, { on := 5, ground := Ground.phase }, { on := 6, ground := Ground.phase }, { on := 7, ground := Ground.phase }, { on := 8, ground := Ground.phase }], guard := none }) (v := .pointer (some ⟨w.heap.size + 1 + 1, 5, none⟩)) rfl (by kernel_rfl) (by kernel_rfl) (by kernel_rfl) (fun _ _ _ h => h) (Or.inl ⟨by rfl, fun w hS => by go_simp⟩) hA3x ?_
              try simp only [Act.put, List.setIfInBounds_toArray, List.set_cons_zero, List.set_cons_succ]
              have m5 := HG8.out.g.cells.2.2.2.2.2.1
              have m6 := HG8.out.g.cells.2.2.2.2.2.2
              refine wpAnyH_ready (rs := [10]) (by kernel_rfl) (by simp) ?_
              refine AllReadyH.cons (o := { dst := none, op := Op.store 27 (Operand.tmp 89) (Operand.tmp 88), type := 0, pos := "ref.go:110", after := #[{ on := 9, ground := Ground.data }, { on := 8, ground := Ground.data }, { on := 8, ground := Ground.chain }, { on := 0, ground := Ground.phase }, { on := 1, ground := Ground.phase }, { on := 2, ground := Ground.phase }, { on := 3, ground := Ground.phase }, { on := 4, ground := Ground.phase }, { on := 5, ground := Ground.phase }, { on := 6, ground := Ground.phase }, { on := 7, ground := Ground.phase }, { on := 8, ground := Ground.phase }], guard := none }) rfl (fun K hK => ?_) AllReadyH.nil
              rw [if_pos (by rfl)]
              go_simp
              have HGa := Lib.hid (HG8.out.rcs (.slice (some ⟨g8, 0, none⟩) (pre.length + 1) cap8))
              have HOa := Lib.hid (own_setBelow HO8.out (p := ⟨w.heap.size + 1 + 1, 5, none⟩) (by show w.heap.size + 1 + 1 < w.heap.size + 1 + 1 + 1; omega) (.slice (some ⟨g8, 0, none⟩) (pre.length + 1) cap8))
              have HSa : Hid (Below (w.heap.size + 1 + 1) w5 (w8.setCell ⟨w.heap.size + 1 + 1, 5, none⟩ (.slice (some ⟨g8, 0, none⟩) (pre.length + 1) cap8))) := Lib.hid ((HB8.out.mono (Nat.le_succ _)).setCell (Nat.le_refl _) _)
              clear m5 m6
              refine hK.out _ _ HSa.out (fun hA3y => ?_)
              clear hK K
              try simp only [Act.put, List.setIfInBounds_toArray, List.set_cons_zero, List.set_cons_succ]
              refine wpAnyH_done (by kernel_rfl) ?_ _
              generalize w8.setCell ⟨w.heap.size + 1 + 1, 5, none⟩ (.slice (some ⟨g8, 0, none⟩) (pre.length + 1) cap8) = wA at *
              go_wp2_with fail
              go_meet
              case rel => exact ⟨rfl, g8, cap8, HGa, by rw [HRE.out]; exact HOa⟩
        case rest =>
          obtain ⟨rfl, g8, cap8, HGa, HOa⟩ := hcut
          have HRE : Hid (recB d.seen ⟨vd, slot, vg, vn, vx, vu, vdn⟩ Z = recB d.seen ⟨vd, slot, vg, vn, vx, vu, vdn⟩ Z) := Lib.hid rfl
          obtain ⟨RE, hRE⟩ : ∃ RE, recB d.seen ⟨vd, slot, vg, vn, vx, vu, vdn⟩ Z = RE := ⟨_, rfl⟩
          rw [hRE] at HOa
          replace HRE := Lib.hid hRE
          clear hRE
          generalize wc = wA at *
          go_wp2_with fail
          have HGb := Lib.hid (HGa.out.next (Below.refl _ _).drew)
          have HOb := Lib.hid (own_kept HOa.out (Below.refl _ _).drew)
          obtain ⟨n0, n1, n2, n3, n4, n5, n6⟩ := HGa.out.g.cells
          have wV1 : IntKind.i64.wrap ((vx : Int) + 1) = (vx : Int) + 1 := by rw [IntKind.wrap_i64]; omega
          have wV2 : IntKind.i64.wrap ((vx : Int) + 1 + (cz : Int)) = (vx : Int) + 1 + (cz : Int) := by rw [IntKind.wrap_i64]; omega
          have wN1 : IntKind.i64.wrap (vn + 1) = vn + 1 := by rw [IntKind.wrap_i64]; omega
          obtain ⟨X, hX⟩ : ∃ X : Nat, (vx + (1 + cz)) % M = X := ⟨_, rfl⟩
          have hXt : ((vx : Int) + 1 + (cz : Int)) % (M : Int) = (X : Int) := by rw [← hX, show (vx : Int) + 1 + (cz : Int) = ((vx + (1 + cz) : Nat) : Int) from by omega]; simp
          have hXt2 : Int.tmod ((vx : Int) + 1 + (cz : Int)) (M : Int) = (X : Int) := by rw [Int.tmod_eq_emod_of_nonneg (by omega)]; exact hXt
          have hmne : ¬ (M : Int) = 0 := by omega
          have HXX := Lib.hid hX
          clear hX
          clear n0 n1 n2 n3 n4 n5 n6
          obtain ⟨n0, n1, n2, n3, n4, n5, n6⟩ := HGb.out.g.cells
          go_upto_region 15 with fail
          go_cut [12] from 40 to 109 (fun v wx => v = .slice (some ⟨b4, f4, none⟩) (1 + cz) c4 ∧ wx = wA.drew.setCell ⟨w.heap.size + 1 + 1, 3, none⟩ (.int .i64 ((vu : Int) + 1 + (cz : Int))))
          case first =>
            go_region_with (go_at_call 54; refine (HCeil.out _).mono ?_; rintro e w' ⟨rfl, rfl⟩)
            all_goals
              go_wp2_with fail
              go_meet
              case rel => exact ⟨rfl, rfl⟩
          case rest =>
            obtain ⟨rfl, rfl⟩ := hcut
            have HGc := Lib.hid (HGb.out.use ((vu : Int) + 1 + (cz : Int)))
            have HOc := Lib.hid (own_setBelow HOb.out (p := ⟨w.heap.size + 1 + 1, 3, none⟩) (by show w.heap.size + 1 + 1 < w.heap.size + 1 + 1 + 1; omega) (.int .i64 ((vu : Int) + 1 + (cz : Int))))
            clear n0 n1 n2 n3 n4 n5 n6
            generalize wA.drew.setCell ⟨w.heap.size + 1 + 1, 3, none⟩ (.int .i64 ((vu : Int) + 1 + (cz : Int))) = wC at *
            have HGd := Lib.hid (HGc.out.next (Below.refl _ _).drew)
            have HOd := Lib.hid (own_kept HOc.out (Below.refl _ _).drew)
            obtain ⟨n0, n1, n2, n3, n4, n5, n6⟩ := HGc.out.g.cells
            clear n0 n1 n2 n3 n4 n5 n6
            obtain ⟨n0, n1, n2, n3, n4, n5, n6⟩ := HGd.out.g.cells
            go_upto_region 16 with fail
            go_cut [12] from 40 to 109 (fun v wx => v = .slice (some ⟨b4, f4, none⟩) (1 + cz) c4 ∧ wx = wC.drew.setCell ⟨w.heap.size + 1 + 1, 1, none⟩ (.int .i64 (X : Int)))
            case first =>
              go_region_with (go_at_call 54; refine (HCeil.out _).mono ?_; rintro e w' ⟨rfl, rfl⟩)
              all_goals
                go_wp2_with fail
                go_meet
                case rel => exact ⟨rfl, rfl⟩
            case rest =>
              obtain ⟨rfl, rfl⟩ := hcut
              have HGe := Lib.hid (HGd.out.pl (X : Int))
              have HOe := Lib.hid (own_setBelow HOd.out (p := ⟨w.heap.size + 1 + 1, 1, none⟩) (by show w.heap.size + 1 + 1 < w.heap.size + 1 + 1 + 1; omega) (.int .i64 (X : Int)))
              clear n0 n1 n2 n3 n4 n5 n6
              generalize wC.drew.setCell ⟨w.heap.size + 1 + 1, 1, none⟩ (.int .i64 (X : Int)) = wE at *
              have k2 := HGe.out.g.cells.2.2.1
              have k6 := HGe.out.g.cells.2.2.2.2.2.2
              go_wp2_with fail
              have HGf := Lib.hid (HGe.out.nu (vn + 1))
              have HOf := Lib.hid (own_setBelow HOe.out (p := ⟨w.heap.size + 1 + 1, 2, none⟩) (by show w.heap.size + 1 + 1 < w.heap.size + 1 + 1 + 1; omega) (.int .i64 (vn + 1)))
              obtain ⟨f2, rfl⟩ : ∃ f2, f = f2 + 1 := ⟨f - 1, by have := HF.out; omega⟩
              have hpass := pass_ok (v := ⟨vd, slot, vg, vn, vx, vu, vdn⟩) (by have := HOk.out; rw [HVs.out] at this; exact this) (by show 1 + secs Z < d.seen.length - 2 * slot - vu; rw [HM.out, HCz.out]; omega) HNum.out
              have hgo := scanR_go (xs := d.seen) (v := ⟨vd, slot, vg, vn, vx, vu, vdn⟩) (by have := HSome.out; rw [HVs.out] at this; exact this) f2
              have hpv : WalV.pass ⟨vd, slot, vg, vn, vx, vu, vdn⟩ d.seen.length Z = ⟨vd, slot, vg, vn + 1, X, vu + (1 + cz), vdn⟩ := by
                unfold WalV.pass WalV.place
                simp only
                rw [HM.out, HCz.out, HXX.out]
              rw [hpv] at hpass hgo
              rw [HRE.out] at hgo
              have HP := Lib.hid hpass
              have HGo := Lib.hid hgo
              clear hpass hgo hpv
              go_roundg (M - (vu + (1 + cz)))
              case measure => omega
              case rel => exact ⟨⟨vd, slot, vg, vn + 1, X, vu + (1 + cz), vdn⟩, pre ++ [RE], f2, some ⟨g8, 0, none⟩, cap8, rfl, Nat.le_refl _, Lib.hid HP.out.1, Lib.hid HP.out.2, Lib.hid (by have t := HSc.out; rw [HVs.out, HGo.out] at t; rw [t]; simp), Lib.hid (by have := HF.out; show M ≤ f2 + (vu + (1 + cz)); omega), Lib.hid (by have := HPl.out; show (pre ++ [RE]).length ≤ vu + (1 + cz); simp; omega), Lib.hid (by have t := HGf.out; rw [show (vu : Int) + 1 + (cz : Int) = ((vu + (1 + cz) : Nat) : Int) from by omega] at t; rw [List.length_append]; exact t), Lib.hid (by rw [List.length_append]; exact HOf.out)⟩
end Go.Proofs.YtjeabnlmanfplaaGreatDoor
