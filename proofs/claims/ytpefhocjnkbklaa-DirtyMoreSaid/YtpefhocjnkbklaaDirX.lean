/- Bitmaps: plain facts that the walks of the laws use. -/
import Derived.Test.YtpefhocjnkbklaaDirV
import Derived.Test.YtpefhocjnkbklaaDirW
namespace Go.Proofs.Ytpefhocjnkbklaa
open Go.RowKit

theorem fit_of_ok {m : List Bt} (h : bitsOk m = true) (hp : ∀ b ∈ m, 0 ≤ b.mask) : BtsFit m :=
  ⟨by have := bitsOk_length h; omega, fun b hb => ⟨hp b hb, by have := bitsFrom_le h b hb; omega⟩⟩
theorem joinM_fit {a b : List Bt} (ha : bitsOk a = true) (hb : bitsOk b = true) : BtsFit (joinM a b) := fit_of_ok (joinM_ok ha hb) joinM_pos

/-! ### What is written is read back -/

theorem enc_take_app (k n : Nat) (r : List UInt8) : (enc k n ++ r).take k = enc k n := by
  rw [List.take_append_of_le_length (by rw [enc_length]; exact Nat.le_refl _), List.take_of_length_le (by rw [enc_length]; exact Nat.le_refl _)]
theorem enc_drop_app (k n : Nat) (r : List UInt8) : (enc k n ++ r).drop k = r := by
  rw [List.drop_append_of_le_length (by rw [enc_length]; exact Nat.le_refl _), List.drop_of_length_le (by rw [enc_length]; exact Nat.le_refl _)]; rfl
theorem eltOf_elt {b : Bt} (h1 : 0 ≤ b.vol ∧ b.vol ≤ 255) (h2 : 0 ≤ b.mask ∧ b.mask ≤ 4294967295) (r : List UInt8) : eltOf (eltB b ++ r) = b ∧ (eltB b ++ r).drop 5 = r := by
  constructor
  · unfold eltOf eltB
    refine Bt.ext_ ?_ ?_
    · show ((dec ((enc 1 b.vol.toNat ++ enc 4 b.mask.toNat ++ r).take 1) : Nat) : Int) = b.vol
      rw [List.append_assoc, enc_take_app, dec_enc_of_lt (by omega)]; omega
    · show ((dec (((enc 1 b.vol.toNat ++ enc 4 b.mask.toNat ++ r).drop 1).take 4) : Nat) : Int) = b.mask
      rw [List.append_assoc, enc_drop_app, enc_take_app, dec_enc_of_lt (by omega)]; omega
  · rw [List.drop_append_of_le_length (by rw [eltB_length]; exact Nat.le_refl _), List.drop_of_length_le (by rw [eltB_length]; exact Nat.le_refl _)]; rfl
theorem parseN_elts {last : Int} {m : List Bt} (h : bitsFrom last m = true) (h0 : 0 ≤ last) (hp : ∀ b ∈ m, 0 ≤ b.mask) (r : List UInt8) : parseN m.length (eltsB m ++ r) = m := by
  induction m generalizing last with
  | nil => rfl
  | cons b s ih =>
    obtain ⟨h1, h2⟩ := bitsFrom_cons h
    have hb := hp b List.mem_cons_self
    have e : eltsB (b :: s) ++ r = eltB b ++ (eltsB s ++ r) := by unfold eltsB; simp
    obtain ⟨g1, g2⟩ := eltOf_elt (b := b) ⟨by omega, h1.2.1⟩ ⟨hb, h1.2.2.2⟩ (eltsB s ++ r)
    rw [e, List.length_cons, parseN, g1, g2, ih h2 (by omega) fun x hx => hp x (List.mem_cons_of_mem _ hx)]
theorem parse_bytes {m : List Bt} (h : bitsOk m = true) (hp : ∀ b ∈ m, 0 ≤ b.mask) (r : List UInt8) : parE (bytM m ++ r) = 0 ∧ parM (bytM m ++ r) = m ∧ parR (bytM m ++ r) = r := by
  have hl := bitsOk_length h
  have hN : parN (bytM m ++ r) = m.length := by
    unfold parN bytM
    rw [List.append_assoc, enc_take_app, dec_enc_of_lt (by omega)]
  have hd : (bytM m ++ r).drop 1 = eltsB m ++ r := by unfold bytM; rw [List.append_assoc, enc_drop_app]
  have hlen : (bytM m ++ r).length = 1 + m.length * 5 + r.length := by unfold bytM; rw [List.length_append, List.length_append, enc_length, eltsB_length]
  obtain ⟨g1, g2, g3⟩ := parE_ok (l := bytM m ++ r) (by omega) (by rw [hN, hlen]; omega) (by rw [hN, hd, parseN_elts h (by omega) hp]; exact h)
  refine ⟨g1, by rw [g2, hN, hd, parseN_elts h (by omega) hp], ?_⟩
  rw [g3, hN, ← List.drop_drop, hd, List.drop_append_of_le_length (by rw [eltsB_length]; omega), List.drop_of_length_le (by rw [eltsB_length]; omega)]
  rfl

/-! ### All blocks of volumes -/

theorem full_bit (n b : Nat) : ((2 : Int) ^ n - 1).toNat.testBit b = decide (b < n) := by
  have h3 : ((2 ^ n : Nat) : Int) = (2 : Int) ^ n := by simp
  have h2 : 1 ≤ 2 ^ n := Nat.one_le_two_pow
  rw [show ((2 : Int) ^ n - 1).toNat = 2 ^ n - 1 from by omega, Nat.testBit_two_pow_sub_one]
theorem full_range {n : Nat} (h1 : 1 ≤ n) (h2 : n ≤ 32) : 1 ≤ (2 : Int) ^ n - 1 ∧ (2 : Int) ^ n - 1 ≤ 4294967295 := by
  have a : 2 ^ n ≤ 2 ^ 32 := Nat.pow_le_pow_right (by omega) h2
  have b : 2 ^ 1 ≤ 2 ^ n := Nat.pow_le_pow_right (by omega) h1
  have h3 : ((2 ^ n : Nat) : Int) = (2 : Int) ^ n := by simp
  omega
theorem allBits_cons (v : Vl) (r : List Vl) : allBits (v :: r) = ⟨v.1, (2 : Int) ^ v.2.length - 1⟩ :: allBits r := rfl
theorem allBits_from {last : Int} {vs : List Vl} (h : goodFrom last vs = true) : bitsFrom last (allBits vs) = true := by
  induction vs generalizing last with
  | nil => rfl
  | cons v r ih =>
    obtain ⟨h1, h2, h3⟩ := (goodFrom_cons _ _ _).1 h
    have h4 := ((volOk_iff v).1 h2).1
    have h5 := full_range h4.2.2.1 h4.2.2.2
    rw [allBits_cons]
    exact bitsFrom_of ⟨h1, h4.2.1, by show (2 : Int) ^ v.2.length - 1 ≠ 0; omega, h5.2⟩ (ih h3)
theorem allBits_pos {last : Int} {vs : List Vl} (h : goodFrom last vs = true) : ∀ b ∈ allBits vs, 0 ≤ b.mask := by
  induction vs generalizing last with
  | nil => simp [allBits]
  | cons v r ih =>
    obtain ⟨h1, h2, h3⟩ := (goodFrom_cons _ _ _).1 h
    have h4 := ((volOk_iff v).1 h2).1
    have h5 := full_range h4.2.2.1 h4.2.2.2
    rw [allBits_cons]
    intro b hb
    rcases List.mem_cons.1 hb with rfl | hb
    · show 0 ≤ (2 : Int) ^ v.2.length - 1; omega
    · exact ih h3 b hb
theorem named_upTo (i : Int) (n v b : Nat) : named (upTo i n) v b = (decide (i = (v : Int)) && decide (b < n)) := by
  rw [Bool.eq_iff_iff]
  simp only [named, upTo, List.any_map, List.any_eq_true, List.mem_range, Function.comp, Bool.and_eq_true, beq_iff_eq, decide_eq_true_eq]
  constructor
  · rintro ⟨x, h1, h2, h3⟩; exact ⟨h2, by omega⟩
  · rintro ⟨h1, h2⟩; exact ⟨b, h2, h1, rfl⟩
theorem allMk_cons (v : Vl) (r : List Vl) : allMk (v :: r) = upTo v.1 v.2.length ++ allMk r := by unfold allMk; simp
theorem named_all {last : Int} {vs : List Vl} (h : goodFrom last vs = true) (v b : Nat) : named (allMk vs) v b = (maskAt (allBits vs) (v : Int)).testBit b := by
  induction vs generalizing last with
  | nil => simp [allMk, named, allBits, maskAt]
  | cons x r ih =>
    obtain ⟨h1, h2, h3⟩ := (goodFrom_cons _ _ _).1 h
    rw [allMk_cons, named_append, named_upTo, ih h3, allBits_cons, maskAt]
    by_cases hv : x.1 = (v : Int)
    · rw [if_pos hv, full_bit, maskAt_low (allBits_from h3) (by omega)]; simp [hv]
    · rw [if_neg hv]; simp [hv]
theorem allMk_may {last : Int} {vs : List Vl} (h : goodFrom last vs = true) (h0 : 0 ≤ last) : mayAll (allMk vs) = true := by
  induction vs generalizing last with
  | nil => rfl
  | cons x r ih =>
    obtain ⟨h1, h2, h3⟩ := (goodFrom_cons _ _ _).1 h
    have h4 := ((volOk_iff x).1 h2).1
    rw [allMk_cons, mayAll_append, ih h3 (by omega), Bool.and_true]
    unfold mayAll
    rw [List.all_eq_true]
    rintro ⟨p, q⟩ hk
    simp only [upTo, List.mem_map, List.mem_range, Prod.mk.injEq] at hk
    obtain ⟨i, hi, rfl, rfl⟩ := hk
    simp only [mayB, decide_eq_true_eq]
    omega
theorem all_of {vs : List Vl} (h : rightB vs = true) : ofM (allMk vs) = allM vs ∧ mayAll (allMk vs) = true ∧ allM vs = allBits vs := by
  have hg := rightB_good h
  have hm := allMk_may hg (by omega)
  have e : allM vs = allBits vs := by unfold allM; rw [h]; rfl
  refine ⟨?_, hm, e⟩
  unfold ofM
  rw [if_pos hm, e]
  exact listT_eq (allBits_from hg) (allBits_pos hg) fun v _ => Nat.eq_of_testBit_eq fun i => by
    rw [ofMask, sumBits_bit, named_all hg]
    by_cases hi : i < 32
    · simp [hi]
    · rw [bit_lt (maskAt_lt (allBits_from hg)) (by omega)]; simp

/-! ### Within -/

theorem got_mask {last : Int} {vs : List Vl} (h : goodFrom last vs = true) (vol block : Int) : (gotE vs vol block == 0) = (decide (0 ≤ block) && (maskAt (allBits vs) vol).testBit block.toNat) := by
  induction vs generalizing last with
  | nil => simp [gotE, allBits, maskAt]
  | cons x r ih =>
    obtain ⟨h1, h2, h3⟩ := (goodFrom_cons _ _ _).1 h
    rw [gotE, allBits_cons, maskAt]
    by_cases hv : x.1 = vol
    · rw [if_pos hv, if_pos hv, full_bit]
      unfold inB
      by_cases hb : 0 ≤ block ∧ block < x.2.length
      · rw [if_pos (by simpa using hb), decide_eq_true hb.1, decide_eq_true (by omega)]; rfl
      · rw [if_neg (by simpa using hb)]
        by_cases h5 : 0 ≤ block
        · rw [decide_eq_false (by omega : ¬ block.toNat < x.2.length)]; simp
        · simp [h5]
    · rw [if_neg hv, if_neg hv, ih h3]
theorem andNot_bits {u M : Int} (h0 : 0 ≤ u) (h1 : u ≤ 4294967295) (h2 : 0 ≤ M) (h3 : M < 18446744073709551616) : inMask u M = true ↔ ∀ i, u.toNat.testBit i = true → M.toNat.testBit i = true := by
  unfold inMask
  rw [Bool.not_eq_true', bne_eq_false_iff_eq, u64_andNot _ _ h0 (by omega) h2 h3]
  have hM : M.toNat < 2 ^ 64 := by omega
  have hU : u.toNat < 2 ^ 64 := by omega
  have e : ∀ i, (18446744073709551615 - M.toNat).testBit i = (decide (i < 64) && !M.toNat.testBit i) := fun i => by
    have := Nat.testBit_two_pow_sub_succ hM i
    rw [show 2 ^ 64 - (M.toNat + 1) = 18446744073709551615 - M.toNat from by omega] at this
    exact this
  constructor
  · intro h i hi
    have h' : u.toNat &&& (18446744073709551615 - M.toNat) = 0 := by exact_mod_cast h
    have := congrArg (fun x => x.testBit i) h'
    simp only [Nat.testBit_and, hi, Bool.true_and, Nat.zero_testBit, e] at this
    have hi64 : i < 64 := by
      rcases Nat.lt_or_ge i 64 with g | g
      · exact g
      · rw [Nat.testBit_lt_two_pow (Nat.lt_of_lt_of_le hU (Nat.pow_le_pow_right (by omega) g))] at hi; cases hi
    simpa [hi64] using this
  · intro h
    have : u.toNat &&& (18446744073709551615 - M.toNat) = 0 := Nat.eq_of_testBit_eq fun i => by
      rw [Nat.testBit_and, e, Nat.zero_testBit]
      cases hu : u.toNat.testBit i with
      | false => rfl
      | true => rw [h i hu]; simp
    rw [this]; rfl
theorem maskAt_mem {m : List Bt} {v : Int} (h : maskAt m v ≠ 0) : ∃ x ∈ m, x.vol = v ∧ maskAt m v = x.mask.toNat := by
  induction m with
  | nil => exact absurd rfl h
  | cons b r ih =>
    rw [maskAt] at h ⊢
    by_cases hv : b.vol = v
    · rw [if_pos hv]; exact ⟨b, List.mem_cons_self, hv, rfl⟩
    · rw [if_neg hv] at h ⊢
      obtain ⟨x, hx, h1, h2⟩ := ih h
      exact ⟨x, List.mem_cons_of_mem _ hx, h1, h2⟩
theorem inAll_iff {m : List Bt} {vs : List Vl} (hm : bitsOk m = true) (hp : ∀ b ∈ m, 0 ≤ b.mask) (hv : rightB vs = true) : inAll m vs = true ↔ ∀ x ∈ m, ∀ i, x.mask.toNat.testBit i = true → (maskAt (allBits vs) x.vol).testBit i = true := by
  have hg := rightB_good hv
  have hfit := fit_of_ok (allBits_from hg) (allBits_pos hg)
  have e : allM vs = allBits vs := (all_of hv).2.2
  unfold inAll
  rw [List.all_eq_true]
  constructor
  · intro h x hx i hi
    have hM := maskI_fit hfit x.vol
    have := (andNot_bits (hp x hx) (bitsFrom_le hm x hx).2.2.2 hM.1 hM.2).1 (by have := h x hx; rw [e] at this; exact this) i hi
    rwa [maskI_toNat] at this
  · intro h x hx
    have hM := maskI_fit hfit x.vol
    rw [e]
    exact (andNot_bits (hp x hx) (bitsFrom_le hm x hx).2.2.2 hM.1 hM.2).2 fun i hi => by rw [maskI_toNat]; exact h x hx i hi
def gotAll (vs : List Vl) (l : List Mk) : Bool := l.all fun k => gotE vs k.1 k.2 == 0
theorem within_marks {m : List Bt} {vs : List Vl} (hm : bitsOk m = true) (hp : ∀ b ∈ m, 0 ≤ b.mask) (hv : rightB vs = true) : withinB m vs = gotAll vs (listM m) := by
  have hg := rightB_good hv
  rw [withinB_is hm hv, Bool.eq_iff_iff, inAll_iff hm hp hv]
  unfold gotAll
  rw [List.all_eq_true]
  constructor
  · rintro h ⟨v, i⟩ hk
    obtain ⟨h1, h2, h3⟩ := (listM_mem hm (by omega) v i).1 hk
    rw [got_mask hg]
    have hne : maskAt m v ≠ 0 := by intro e; rw [e] at h3; simp at h3
    obtain ⟨x, hx, rfl, e⟩ := maskAt_mem hne
    rw [e] at h3
    simp only [h1, decide_true, Bool.true_and]
    exact h x hx _ h3
  · intro h x hx i hi
    have hlt : i < 32 := by
      rcases Nat.lt_or_ge i 32 with g | g
      · exact g
      · have := (bitsFrom_le hm x hx).2.2.2
        rw [bit_lt (by omega) g] at hi; cases hi
    have := h (x.vol, (i : Int)) ((listM_mem hm (by omega) _ _).2 ⟨by omega, by omega, by rw [maskAt_of hm hx, Int.toNat_natCast]; exact hi⟩)
    rw [got_mask hg] at this
    simpa using this
theorem within_all {vs : List Vl} (hv : rightB vs = true) : withinB (allM vs) vs = true := by
  have hg := rightB_good hv
  have e : allM vs = allBits vs := (all_of hv).2.2
  rw [e, withinB_is (allBits_from hg) hv, inAll_iff (allBits_from hg) (allBits_pos hg) hv]
  intro x hx i hi
  rw [maskAt_of (allBits_from hg) hx]; exact hi
theorem gotAll_take {vs : List Vl} {l : List Mk} {k : Nat} (hk : k < l.length) : gotAll vs (l.take (k + 1)) = (gotAll vs (l.take k) && (gotE vs l[k].1 l[k].2 == 0)) := by
  unfold gotAll
  rw [List.take_succ_eq_append_getElem hk, List.all_append]; simp
theorem gotAll_bad {vs : List Vl} {l : List Mk} {k : Nat} (h : gotAll vs (l.take k) = false) : gotAll vs l = false := by
  rw [Bool.eq_false_iff]
  intro hall
  have : gotAll vs (l.take k) = true := List.all_eq_true.2 fun x hx => List.all_eq_true.1 hall x (List.mem_of_mem_take hx)
  rw [h] at this; cases this
end Go.Proofs.Ytpefhocjnkbklaa
