/- Messages as bytes, plain, the second part: bits, sizes, messages: the bytes of a message tell it, and nothing may stand behind. No program in sight. -/
import Derived.Test.YtkpoeigoocbgeaaMsgP
import Derived.Test.YtkpoeigoocbgeaaMsVol
namespace Go.Proofs.Ytkpoeigoocbgeaa

/-! ### Bits -/
def btB (b : Bt) : List UInt8 := enc 1 b.vol.toNat ++ enc 4 b.mask.toNat
def bitsB (m : List Bt) : List UInt8 := enc 1 m.length ++ m.flatMap btB
def BitsOk (m : List Bt) : Prop := bitsOk m = true ∧ ∀ b ∈ m, 0 ≤ b.mask
theorem btB_length (b : Bt) : (btB b).length = 5 := by unfold btB; rw [List.length_append, enc_length, enc_length]
theorem bitsOk_each {m : List Bt} (h : BitsOk m) : ∀ b ∈ m, 0 < b.vol ∧ b.vol ≤ 255 ∧ 0 ≤ b.mask ∧ b.mask ≤ 4294967295 := fun b hb => by
  have := bitsFrom_le h.1 b hb
  have := h.2 b hb
  omega
theorem bt_inj {a b : Bt} {r s : List UInt8} (ha : 0 < a.vol ∧ a.vol ≤ 255 ∧ 0 ≤ a.mask ∧ a.mask ≤ 4294967295) (hb : 0 < b.vol ∧ b.vol ≤ 255 ∧ 0 ≤ b.mask ∧ b.mask ≤ 4294967295) (h : btB a ++ r = btB b ++ s) : a = b ∧ r = s := by
  unfold btB at h
  rw [List.append_assoc, List.append_assoc] at h
  obtain ⟨h1, h2⟩ := enc_app_inj (by omega) (by omega) h
  obtain ⟨h3, h4⟩ := enc_app_inj (by omega) (by omega) h2
  exact ⟨Bt.ext_ (by omega) (by omega), h4⟩
theorem bts_inj : ∀ {a b : List Bt} {r s : List UInt8}, (∀ x ∈ a, 0 < x.vol ∧ x.vol ≤ 255 ∧ 0 ≤ x.mask ∧ x.mask ≤ 4294967295) → (∀ x ∈ b, 0 < x.vol ∧ x.vol ≤ 255 ∧ 0 ≤ x.mask ∧ x.mask ≤ 4294967295) → a.length = b.length → a.flatMap btB ++ r = b.flatMap btB ++ s → a = b ∧ r = s
  | [], [], _, _, _, _, _, h => ⟨rfl, h⟩
  | [], y :: b, _, _, _, _, hl, _ => by simp at hl
  | x :: a, [], _, _, _, _, hl, _ => by simp at hl
  | x :: a, y :: b, r, s, ha, hb, hl, h => by
    rw [List.flatMap_cons, List.flatMap_cons, List.append_assoc, List.append_assoc] at h
    obtain ⟨h1, h2⟩ := bt_inj (ha x (by simp)) (hb y (by simp)) h
    obtain ⟨h3, h4⟩ := bts_inj (fun z hz => ha z (List.mem_cons_of_mem _ hz)) (fun z hz => hb z (List.mem_cons_of_mem _ hz)) (by simpa using hl) h2
    exact ⟨by rw [h1, h3], h4⟩
theorem bits_inj {a b : List Bt} {r s : List UInt8} (ha : BitsOk a) (hb : BitsOk b) (h : bitsB a ++ r = bitsB b ++ s) : a = b ∧ r = s := by
  have la := bitsOk_length ha.1
  have lb := bitsOk_length hb.1
  unfold bitsB at h
  rw [List.append_assoc, List.append_assoc] at h
  obtain ⟨h1, h2⟩ := enc_app_inj (by omega) (by omega) h
  exact bts_inj (bitsOk_each ha) (bitsOk_each hb) h1 h2

/-! ### Sizes -/
def szB (l : List Int) : List UInt8 := enc 1 l.length ++ l.flatMap (fun n => enc 1 n.toNat)
theorem szs_inj : ∀ {a b : List Int} {r s : List UInt8}, (∀ x ∈ a, 0 ≤ x ∧ x ≤ 255) → (∀ x ∈ b, 0 ≤ x ∧ x ≤ 255) → a.length = b.length → a.flatMap (fun n => enc 1 n.toNat) ++ r = b.flatMap (fun n => enc 1 n.toNat) ++ s → a = b ∧ r = s
  | [], [], _, _, _, _, _, h => ⟨rfl, h⟩
  | [], y :: b, _, _, _, _, hl, _ => by simp at hl
  | x :: a, [], _, _, _, _, hl, _ => by simp at hl
  | x :: a, y :: b, r, s, ha, hb, hl, h => by
    rw [List.flatMap_cons, List.flatMap_cons, List.append_assoc, List.append_assoc] at h
    have hx := ha x (by simp)
    have hy := hb y (by simp)
    obtain ⟨h1, h2⟩ := enc_app_inj (by omega) (by omega) h
    obtain ⟨h3, h4⟩ := szs_inj (fun z hz => ha z (List.mem_cons_of_mem _ hz)) (fun z hz => hb z (List.mem_cons_of_mem _ hz)) (by simpa using hl) h2
    exact ⟨by rw [h3, show x = y from by omega], h4⟩
theorem goodFrom_shape : ∀ {last : Int} {vs : List Vl}, goodFrom last vs = true → ∀ v ∈ vs, volOk v = true
  | _, [], _, v, hv => by cases hv
  | last, x :: r, h, v, hv => by
    unfold goodFrom at h
    simp only [Bool.and_eq_true, decide_eq_true_eq] at h
    rcases List.mem_cons.1 hv with rfl | hv
    · first | exact h.1.2 | exact h.2.1
    · exact goodFrom_shape (last := x.1) (by first | exact h.2 | exact h.2.2) v hv
theorem prs_mem {l : List Int} : ∀ {T t : Nat}, t < T → (l.getD (2 * t) 0, blankB (l.getD (2 * t + 1) 0).toNat) ∈ prs l T
  | 0, t, h => by omega
  | T + 1, t, h => by
    rw [prs]
    by_cases e : t = T
    · subst e; simp
    · exact List.mem_append_left _ (prs_mem (by omega))
theorem blankOk_each {l : List Int} (h : blankOk l = true) : l.length ≤ 8 ∧ ∀ x ∈ l, 0 ≤ x ∧ x ≤ 255 := by
  unfold blankOk at h
  rw [Bool.and_eq_true, Bool.and_eq_true, Bool.and_eq_true, decide_eq_true_iff, decide_eq_true_iff] at h
  obtain ⟨h1, h2, h3, h4⟩ := h
  refine ⟨h2, fun x hx => ?_⟩
  obtain ⟨i, hi, rfl⟩ := List.getElem_of_mem hx
  have ht : i / 2 < l.length / 2 := by omega
  rcases Nat.mod_two_eq_zero_or_one i with e | e
  · have hm := prs_mem (l := l) ht
    unfold rightB at h4
    rw [Bool.and_eq_true] at h4
    have hv := goodFrom_shape h4.2 _ hm
    unfold volOk shapeB at hv
    rw [Bool.and_eq_true, decide_eq_true_iff] at hv
    have := hv.1
    dsimp only at this
    have e2 : l.getD (2 * (i / 2)) 0 = l[i] := by rw [List.getD_eq_getElem?_getD, show 2 * (i / 2) = i from by omega, List.getElem?_eq_getElem hi]; rfl
    rw [e2] at this
    omega
  · have hs := prsOk_at h3 ht
    have e2 : l.getD (2 * (i / 2) + 1) 0 = l[i] := by rw [List.getD_eq_getElem?_getD, show 2 * (i / 2) + 1 = i from by omega, List.getElem?_eq_getElem hi]; rfl
    rw [e2] at hs
    unfold sizeB at hs
    rw [decide_eq_true_iff] at hs
    omega
theorem sz_inj {a b : List Int} {r s : List UInt8} (ha : blankOk a = true) (hb : blankOk b = true) (h : szB a ++ r = szB b ++ s) : a = b ∧ r = s := by
  obtain ⟨la, ea⟩ := blankOk_each ha
  obtain ⟨lb, eb⟩ := blankOk_each hb
  unfold szB at h
  rw [List.append_assoc, List.append_assoc] at h
  obtain ⟨h1, h2⟩ := enc_app_inj (by omega) (by omega) h
  exact szs_inj ea eb h1 h2

/-! ### Messages -/
structure Mg where
  kind : Int
  epoch : Int
  line : List Br
  seq : Int
  n : Int
  of_ : Int
  full : Bool
  anc : List Br
  ancS : Int
  bits : List Bt
  sizes : List Int
  from_ : Int
  to_ : Int
  ws : List Wr
def noneB (l : List Br) (s : Int) : Bool := l.isEmpty && decide (s = 0)
/-- A message that is valid (P17.2). -/
structure MgOk (m : Mg) : Prop where
  kind : 0 < m.kind ∧ m.kind < 10
  epoch : fitB m.epoch = true
  seq : fitB m.seq = true
  n : fitB m.n = true
  of_ : fitB m.of_ = true
  from_ : fitB m.from_ = true
  to_ : fitB m.to_ = true
  le : m.from_ ≤ m.to_
  line : lined m.line = true
  anc : (noneB m.anc m.ancS || placedB m.anc m.ancS) = true
  bits : BitsOk m.bits
  sizes : blankOk m.sizes = true
  ws : Writable m.ws
theorem anc_fit {l : List Br} {s : Int} (h : (noneB l s || placedB l s) = true) : lined l = true ∧ fitB s = true := by
  rw [Bool.or_eq_true] at h
  rcases h with h | h
  · unfold noneB at h
    rw [Bool.and_eq_true, decide_eq_true_iff] at h
    exact ⟨by unfold lined; rw [h.1]; rfl, by rw [h.2]; rfl⟩
  · obtain ⟨h1, h2, h3⟩ := (placedB_iff l s).1 h
    refine ⟨by unfold lined; rw [h1, Bool.or_true], (fitB_iff s).2 ⟨?_, h2⟩⟩
    obtain ⟨x, r, rfl, _, _, h6, _⟩ := lineOk_cons h1
    have := (lineFrom_last h6 (by simp)).2.2.1
    omega
def fullN (b : Bool) : Nat := if b = true then 1 else 0
def mgB (m : Mg) : List UInt8 :=
  enc 1 m.kind.toNat ++ (enc 8 m.epoch.toNat ++ (lineB m.line ++ (enc 8 m.seq.toNat ++ (enc 8 m.n.toNat ++ (enc 8 m.of_.toNat ++ (enc 1 (fullN m.full) ++ (lineB m.anc ++ (enc 8 m.ancS.toNat ++ (bitsB m.bits ++ (szB m.sizes ++ (enc 8 m.from_.toNat ++ (enc 8 m.to_.toNat ++ writesB m.ws))))))))))))
theorem mg_inj {a b : Mg} {r s : List UInt8} (ha : MgOk a) (hb : MgOk b) (h : mgB a ++ r = mgB b ++ s) : a = b ∧ r = s := by
  have ka := ha.kind
  have kb := hb.kind
  obtain ⟨aa1, aa2⟩ := anc_fit ha.anc
  obtain ⟨ab1, ab2⟩ := anc_fit hb.anc
  unfold mgB at h
  simp only [List.append_assoc] at h
  obtain ⟨e1, h⟩ := enc_app_inj (by omega) (by omega) h
  obtain ⟨e2, h⟩ := enc8_app_inj ha.epoch hb.epoch h
  obtain ⟨e3, h⟩ := line_inj ha.line hb.line h
  obtain ⟨e4, h⟩ := enc8_app_inj ha.seq hb.seq h
  obtain ⟨e5, h⟩ := enc8_app_inj ha.n hb.n h
  obtain ⟨e6, h⟩ := enc8_app_inj ha.of_ hb.of_ h
  obtain ⟨e7, h⟩ := enc_app_inj (by unfold fullN; split <;> omega) (by unfold fullN; split <;> omega) h
  obtain ⟨e8, h⟩ := line_inj aa1 ab1 h
  obtain ⟨e9, h⟩ := enc8_app_inj aa2 ab2 h
  obtain ⟨e10, h⟩ := bits_inj ha.bits hb.bits h
  obtain ⟨e11, h⟩ := sz_inj ha.sizes hb.sizes h
  obtain ⟨e12, h⟩ := enc8_app_inj ha.from_ hb.from_ h
  obtain ⟨e13, h⟩ := enc8_app_inj ha.to_ hb.to_ h
  obtain ⟨e14, h⟩ := writes_inj ha.ws hb.ws h
  refine ⟨?_, h⟩
  have e7' : a.full = b.full := by
    unfold fullN at e7
    cases fa : a.full <;> cases fb : b.full <;> rw [fa, fb] at e7 <;> simp at e7 <;> rfl
  obtain ⟨k1, k2, k3, k4, k5, k6, k7, k8, k9, k10, k11, k12, k13, k14⟩ := a
  obtain ⟨l1, l2, l3, l4, l5, l6, l7, l8, l9, l10, l11, l12, l13, l14⟩ := b
  dsimp only at *
  rw [e2, e3, e4, e5, e6, e7', e8, e9, e10, e11, e12, e13, e14, show k1 = l1 from by omega]
/-- Bytes that are a message's, and whose. -/
def Told (s : List UInt8) (m : Mg) : Prop := MgOk m ∧ mgB m = s
theorem told_one {s : List UInt8} {a b : Mg} (h1 : Told s a) (h2 : Told s b) : a = b := by
  refine (mg_inj (r := []) (s := []) h1.1 h2.1 ?_).1
  rw [h1.2, h2.2]
theorem told_more {m : Mg} {more : List UInt8} (h : MgOk m) : (∃ n, Told (mgB m ++ more) n) ↔ more = [] := by
  constructor
  · rintro ⟨n, h1, h2⟩
    have := mg_inj (r := []) (s := more) h1 h (by rw [h2, List.append_nil])
    exact this.2.symm
  · rintro rfl
    exact ⟨m, h, by rw [List.append_nil]⟩
end Go.Proofs.Ytkpoeigoocbgeaa
