/- The log on its disk, plain: what a header that is written tells when it is read; what is found behind an append and behind a checkpoint. -/
import Derived.Test.YtgnijpjdkipaaaaGreatDoorWalO
import Derived.Test.YtgnijpjdkipaaaaGreatDoorBack
namespace Go.Proofs.YtgnijpjdkipaaaaGreatDoor
open Go.RowKit

/-! ### Headers -/

theorem zeroB_replicate (k : Nat) : zeroB (List.replicate k 0) = true := by unfold zeroB; simp
theorem putB_enc {n k : Nat} (h1 : 1 ≤ k) (h2 : k ≤ 8) (h : n < 256 ^ k) : putB (n : Int) (k : Int) = enc k n := putB_ok (putE_ok h1 h2 h)
theorem recHead_enc {num len : Nat} (h1 : num ≤ 9223372036854775807) (h2 : len < 4294967296) : recHead num len = [82] ++ enc 8 num ++ enc 4 len := by
  have e1 : putB (num : Int) 8 = enc 8 num := putB_enc (k := 8) (by omega) (by omega) (by omega)
  have e2 : putB (len : Int) 4 = enc 4 len := putB_enc (k := 4) (by omega) (by omega) (by omega)
  unfold recHead; rw [e1, e2]
theorem slotHead_enc {gen len pos num : Nat} (h0 : gen ≤ 9223372036854775807) (h1 : len < 4294967296) (h2 : pos < 4294967296) (h3 : num ≤ 9223372036854775807) : slotHead gen len pos num = [83] ++ enc 8 gen ++ enc 4 len ++ enc 4 pos ++ enc 8 num := by
  have e0 : putB (gen : Int) 8 = enc 8 gen := putB_enc (k := 8) (by omega) (by omega) (by omega)
  have e1 : putB (len : Int) 4 = enc 4 len := putB_enc (k := 4) (by omega) (by omega) (by omega)
  have e2 : putB (pos : Int) 4 = enc 4 pos := putB_enc (k := 4) (by omega) (by omega) (by omega)
  have e3 : putB (num : Int) 8 = enc 8 num := putB_enc (k := 8) (by omega) (by omega) (by omega)
  unfold slotHead; rw [e0, e1, e2, e3]
theorem recHead_len {num len : Nat} (h1 : num ≤ 9223372036854775807) (h2 : len < 4294967296) : (recHead num len).length = 13 := by
  rw [recHead_enc h1 h2]; simp [enc_length]
theorem slotHead_len {gen len pos num : Nat} (h0 : gen ≤ 9223372036854775807) (h1 : len < 4294967296) (h2 : pos < 4294967296) (h3 : num ≤ 9223372036854775807) : (slotHead gen len pos num).length = 25 := by
  rw [slotHead_enc h0 h1 h2 h3]; simp [enc_length]

theorem nums_one {k m : Nat} (h1 : 1 ≤ k) (h2 : k ≤ 8) (h : m < 256 ^ k) (hm : m ≤ 9223372036854775807) (l : List UInt8) (ks : List Int) : numsOf (enc k m ++ l) ((k : Int) :: ks) = (numsOf l ks).map (fun xs => (m : Int) :: xs) := by
  rw [numsOf, if_pos (numE_enc h1 h2 h hm l), numN_enc h1 h2 h hm l, numR_enc h1 h2 h hm l]
theorem nums_end (k : Nat) : numsOf (List.replicate k 0) [] = some [] := by rw [numsOf, if_pos (zeroB_replicate k)]
theorem decR_enc {num len : Nat} (h1 : num ≤ 9223372036854775807) (h2 : len < 4294967296) : decR (padB (recHead num len)) = some ((num : Int), (len : Int)) := by
  have e0 : padB (recHead num len) = 82 :: (enc 8 num ++ (enc 4 len ++ List.replicate 19 0)) := by
    unfold padB; rw [recHead_len h1 h2, recHead_enc h1 h2]; simp
  have e1 : numsOf (enc 8 num ++ (enc 4 len ++ List.replicate 19 0)) [8, 4] = some [(num : Int), (len : Int)] := by
    have a1 := nums_one (k := 8) (m := num) (by omega) (by omega) (by omega) h1 (enc 4 len ++ List.replicate 19 0) [4]
    have a2 := nums_one (k := 4) (m := len) (by omega) (by omega) (by omega) (by omega) (List.replicate 19 0) []
    rw [nums_end] at a2
    have a2' : numsOf (enc 4 len ++ List.replicate 19 0) [4] = some [(len : Int)] := a2
    rw [a2'] at a1
    exact a1
  rw [e0]
  unfold decR headOf
  rw [if_pos (by rfl)]
  rw [show cutR (82 :: (enc 8 num ++ (enc 4 len ++ List.replicate 19 0))) 82 = enc 8 num ++ (enc 4 len ++ List.replicate 19 0) from rfl, e1]
theorem decS_enc {gen len pos num : Nat} (h0 : gen ≤ 9223372036854775807) (h1 : len < 4294967296) (h2 : pos < 4294967296) (h3 : num ≤ 9223372036854775807) : decS (padB (slotHead gen len pos num)) = some ((gen : Int), (len : Int), (pos : Int), (num : Int)) := by
  have e0 : padB (slotHead gen len pos num) = 83 :: (enc 8 gen ++ (enc 4 len ++ (enc 4 pos ++ (enc 8 num ++ List.replicate 7 0)))) := by
    unfold padB; rw [slotHead_len h0 h1 h2 h3, slotHead_enc h0 h1 h2 h3]; simp
  have e1 : numsOf (enc 8 gen ++ (enc 4 len ++ (enc 4 pos ++ (enc 8 num ++ List.replicate 7 0)))) [8, 4, 4, 8] = some [(gen : Int), (len : Int), (pos : Int), (num : Int)] := by
    have a1 := nums_one (k := 8) (m := gen) (by omega) (by omega) (by omega) h0 (enc 4 len ++ (enc 4 pos ++ (enc 8 num ++ List.replicate 7 0))) [4, 4, 8]
    have a2 : numsOf (enc 4 len ++ (enc 4 pos ++ (enc 8 num ++ List.replicate 7 0))) [4, 4, 8] = _ := nums_one (k := 4) (m := len) (by omega) (by omega) (by omega) (by omega) (enc 4 pos ++ (enc 8 num ++ List.replicate 7 0)) [4, 8]
    have a3 : numsOf (enc 4 pos ++ (enc 8 num ++ List.replicate 7 0)) [4, 8] = _ := nums_one (k := 4) (m := pos) (by omega) (by omega) (by omega) (by omega) (enc 8 num ++ List.replicate 7 0) [8]
    have a4 : numsOf (enc 8 num ++ List.replicate 7 0) [8] = _ := nums_one (k := 8) (m := num) (by omega) (by omega) (by omega) h3 (List.replicate 7 0) []
    rw [nums_end] at a4
    rw [a4] at a3
    rw [a3] at a2
    rw [a2] at a1
    exact a1
  rw [e0]
  unfold decS headOf
  rw [if_pos (by rfl)]
  rw [show cutR (83 :: (enc 8 gen ++ (enc 4 len ++ (enc 4 pos ++ (enc 8 num ++ List.replicate 7 0))))) 83 = enc 8 gen ++ (enc 4 len ++ (enc 4 pos ++ (enc 8 num ++ List.replicate 7 0))) from rfl, e1]

def zeroS : List UInt8 := List.replicate 32 0
theorem zeroS_pad : padB [] = zeroS := rfl
theorem decR_zero : decR zeroS = none := rfl
theorem decS_zero : decS zeroS = none := rfl

/-! ### Pieces -/

theorem cuts_count (l : List UInt8) : (cutsOf l).length = secs l.length := by
  obtain ⟨n, hn⟩ : ∃ n, l.length = n := ⟨_, rfl⟩
  induction n using Nat.strongRecOn generalizing l with
  | _ n ih =>
    by_cases h : 32 < l.length
    · rw [cuts_long h, List.length_cons, ih (n - 32) (by omega) (l.drop 32) (by rw [List.length_drop]; omega), List.length_drop]
      unfold secs; omega
    · by_cases h2 : l = []
      · subst h2; rfl
      · rw [cuts_last h h2]
        have : 0 < l.length := List.length_pos_iff.2 h2
        unfold secs; simp only [List.length_singleton]; omega
theorem cuts_short (l : List UInt8) : ∀ p ∈ cutsOf l, p.length ≤ 32 := by
  obtain ⟨n, hn⟩ : ∃ n, l.length = n := ⟨_, rfl⟩
  induction n using Nat.strongRecOn generalizing l with
  | _ n ih =>
    by_cases h : 32 < l.length
    · rw [cuts_long h]
      intro p hp
      rcases List.mem_cons.1 hp with e | e
      · subst e; rw [List.length_take]; omega
      · exact ih (n - 32) (by omega) (l.drop 32) (by rw [List.length_drop]; omega) p e
    · by_cases h2 : l = []
      · subst h2; rw [cuts_none]; simp
      · rw [cuts_last h h2]
        intro p hp
        rw [List.mem_singleton] at hp
        subst hp; omega
theorem padB_full {l : List UInt8} (h : l.length = 32) : padB l = l := by unfold padB; rw [h]; simp
theorem cuts_join (l : List UInt8) : (((cutsOf l).map padB).flatten).take l.length = l := by
  obtain ⟨n, hn⟩ : ∃ n, l.length = n := ⟨_, rfl⟩
  induction n using Nat.strongRecOn generalizing l with
  | _ n ih =>
    by_cases h : 32 < l.length
    · have h1 := ih (n - 32) (by omega) (l.drop 32) (by rw [List.length_drop]; omega)
      rw [cuts_long h, List.map_cons, List.flatten_cons, padB_full (by rw [List.length_take]; omega), List.take_append, List.length_take, List.take_take]
      rw [show min 32 l.length = 32 from by omega, show min l.length 32 = 32 from by omega]
      rw [List.length_drop] at h1
      rw [h1, List.take_append_drop]
    · by_cases h2 : l = []
      · subst h2; rfl
      · rw [cuts_last h h2, List.map_singleton, List.flatten_singleton]
        unfold padB
        rw [List.take_left]

/-! ### Writes to sectors -/

theorem applyAll_out : ∀ (ps : List (Nat × List UInt8)) (xs : List (List UInt8)) {j : Nat}, (∀ p ∈ ps, p.1 ≠ j) → (applyAll xs ps).getD j [] = xs.getD j []
  | [], _, _, _ => rfl
  | p :: ps, xs, j, h => by
    show (applyAll (xs.set p.1 p.2) ps).getD j [] = _
    rw [applyAll_out ps _ (fun q hq => h q (List.mem_cons_of_mem _ hq))]
    rw [List.getD_eq_getElem?_getD, List.getD_eq_getElem?_getD, List.getElem?_set_ne (h p List.mem_cons_self)]
theorem applyAll_in : ∀ (ps : List (Nat × List UInt8)) (xs : List (List UInt8)) {p : Nat × List UInt8}, p ∈ ps → ps.Pairwise (fun a b => a.1 ≠ b.1) → p.1 < xs.length → (applyAll xs ps).getD p.1 [] = p.2
  | [], _, _, h, _, _ => by cases h
  | q :: ps, xs, p, h, hp, hl => by
    show (applyAll (xs.set q.1 q.2) ps).getD p.1 [] = _
    rw [List.pairwise_cons] at hp
    rcases List.mem_cons.1 h with e | e
    · subst e
      rw [applyAll_out ps _ (fun z hz => (hp.1 z hz).symm), List.getD_eq_getElem?_getD, List.getElem?_set_self hl]; rfl
    · exact applyAll_in ps _ e hp.2 (by rw [List.length_set]; exact hl)

/-! ### What a disk takes whose power does not go -/

structure DSt.On (d : DSt) : Prop where
  off : d.off = false
  armed : d.armed = false
theorem DSt.On.lasts {d : DSt} (h : d.On) : d.lasts = true := by unfold DSt.lasts; rw [h.armed]; rfl
theorem DSt.On.spent {d : DSt} (h : d.On) : d.spent = d := by unfold DSt.spent; rw [h.armed]; rfl
def padP (p : Nat × List UInt8) : Nat × List UInt8 := (p.1, padB p.2)
theorem write_on {d : DSt} (h : d.On) {i : Nat} {s : List UInt8} (hi : i < d.seen.length) (hs : s.length ≤ 32) : d.writeE (i : Int) s = 0 ∧ d.writeD (i : Int) s = d.put i (padB s) := by
  have hh : d.has (i : Int) = true := (d.has_iff _).2 (by omega)
  constructor
  · unfold DSt.writeE
    rw [if_neg (by rw [h.off]; simp), if_neg (by rw [hh]; simp), if_neg (by omega), if_pos h.lasts]
  · unfold DSt.writeD
    rw [if_neg (by rw [h.off, hh]; simp; omega), if_pos h.lasts, h.spent, Int.toNat_natCast]
theorem puts_on : ∀ (ps : List (Nat × List UInt8)) {d : DSt}, d.On → (∀ p ∈ ps, p.1 < d.seen.length ∧ p.2.length ≤ 32) →
    d.putsE ps = true ∧ (d.putsD ps).seen = applyAll d.seen (ps.map padP) ∧ (d.putsD ps).loose = d.loose ++ ps.map padP ∧ (d.putsD ps).firm = d.firm ∧ (d.putsD ps).On
  | [], d, h, _ => ⟨rfl, rfl, by simp [DSt.putsD], rfl, h⟩
  | p :: ps, d, h, hp => by
    obtain ⟨h1, h2⟩ := hp p List.mem_cons_self
    obtain ⟨e1, e2⟩ := write_on h h1 h2
    have ho : (d.put p.1 (padB p.2)).On := ⟨h.off, h.armed⟩
    obtain ⟨g1, g2, g3, g4, g5⟩ := puts_on ps ho (fun q hq => by
      show q.1 < (d.seen.set p.1 (padB p.2)).length ∧ _
      rw [List.length_set]; exact hp q (List.mem_cons_of_mem _ hq))
    unfold DSt.putsE DSt.putsD
    rw [if_pos e1, if_pos e1, e2]
    refine ⟨g1, g2, ?_, g4, g5⟩
    rw [g3]
    show (d.loose ++ [(p.1, padB p.2)]) ++ _ = _
    rw [List.append_assoc]; rfl
theorem firm_on {ps : List (Nat × List UInt8)} {d : DSt} (h : d.On) (hp : ∀ p ∈ ps, p.1 < d.seen.length ∧ p.2.length ≤ 32) :
    d.firmE ps = true ∧ (d.firmD ps).seen = applyAll d.seen (ps.map padP) ∧ (d.firmD ps).loose = [] ∧ (d.firmD ps).firm = applyAll d.firm (d.loose ++ ps.map padP) ∧ (d.firmD ps).On := by
  obtain ⟨g1, g2, g3, g4, g5⟩ := puts_on ps h hp
  have e1 : (d.putsD ps).flushE = 0 := by unfold DSt.flushE; rw [if_neg (by rw [g5.off]; simp), if_pos g5.lasts]
  have e2 : (d.putsD ps).flushD = (d.putsD ps).firmAll := by unfold DSt.flushD; rw [if_neg (by rw [g5.off]; simp), if_pos g5.lasts, g5.spent]
  unfold DSt.firmE DSt.firmD
  rw [if_pos g1, e2, g1, e1]
  refine ⟨rfl, g2, rfl, ?_, ⟨g5.off, g5.armed⟩⟩
  show applyAll (d.putsD ps).firm (d.putsD ps).loose = _
  rw [g3, g4]
theorem store_on {ps : List (Nat × List UInt8)} {q : Nat × List UInt8} {d : DSt} (h : d.On) (hp : ∀ p ∈ ps, p.1 < d.seen.length ∧ p.2.length ≤ 32) (hq : q.1 < d.seen.length ∧ q.2.length ≤ 32) :
    d.storeE ps q = true ∧ (d.storeD ps q).seen = applyAll d.seen ((ps ++ [q]).map padP) ∧ (d.storeD ps q).loose = [] ∧ (d.storeD ps q).firm = applyAll d.firm (d.loose ++ (ps ++ [q]).map padP) ∧ (d.storeD ps q).On := by
  obtain ⟨g1, g2, g3, g4, g5⟩ := firm_on h hp
  obtain ⟨k1, k2, k3, k4, k5⟩ := firm_on (ps := [q]) g5 (fun p hp => by
    rw [List.mem_singleton] at hp
    subst hp
    rw [g2, applyAll_length]; exact hq)
  unfold DSt.storeE DSt.storeD
  rw [if_pos g1, g1, k1]
  refine ⟨rfl, ?_, k3, ?_, k5⟩
  · rw [k2, g2, List.map_append, applyAll_append]
  · rw [k4, g3, g4, List.nil_append, List.map_append, ← List.append_assoc, ← applyAll_append]

/-! ### Records one behind the other -/

def Runs (xs : List (List UInt8)) : WalV → List (List UInt8) → WalV → Prop
  | v, [], v' => v = v'
  | v, r :: rs, v' => ∃ len, recAt xs v = some len ∧ recB xs v len = r ∧ Runs xs (v.pass xs.length len) rs v'
theorem runs_scan {xs : List (List UInt8)} : ∀ {rs : List (List UInt8)} {v v' : WalV} {f : Nat}, Runs xs v rs v' → recAt xs v' = none → rs.length ≤ f → scanR xs f v = (v', rs)
  | [], v, v', f, h, hn, _ => by
    have e : v = v' := h
    subst e; exact scanR_stop hn f
  | r :: rs, v, v', f, h, hn, hf => by
    obtain ⟨len, h1, h2, h3⟩ := h
    obtain ⟨g, rfl⟩ : ∃ g, f = g + 1 := ⟨f - 1, by simp only [List.length_cons] at hf; omega⟩
    rw [scanR_go h1, runs_scan h3 hn (by simp only [List.length_cons] at hf; omega), h2]
theorem runs_snoc {xs : List (List UInt8)} : ∀ {rs : List (List UInt8)} {v v' : WalV} {len : Nat}, Runs xs v rs v' → recAt xs v' = some len → Runs xs v (rs ++ [recB xs v' len]) (v'.pass xs.length len)
  | [], v, v', len, h, hn => by
    have e : v = v' := h
    subst e; exact ⟨len, hn, rfl, rfl⟩
  | r :: rs, v, v', len, h, hn => by
    obtain ⟨l, h1, h2, h3⟩ := h
    exact ⟨l, h1, h2, runs_snoc h3 hn⟩
/-- What stays along a run. -/
structure RunKeep (v v' : WalV) (rs : List (List UInt8)) : Prop where
  slot : v'.slot = v.slot
  gen : v'.gen = v.gen
  disk : v'.disk = v.disk
  down : v'.down = v.down
  used : v.used + rs.length ≤ v'.used
  num : v'.num = v.num + rs.length
theorem runs_keep {xs : List (List UInt8)} : ∀ {rs : List (List UInt8)} {v v' : WalV}, Runs xs v rs v' → RunKeep v v' rs
  | [], v, v', h => by
    have e : v = v' := h
    subst e; exact ⟨rfl, rfl, rfl, rfl, by simp, by simp⟩
  | r :: rs, v, v', h => by
    obtain ⟨len, _, _, h3⟩ := h
    have k := runs_keep h3
    refine ⟨k.slot, k.gen, k.disk, k.down, ?_, ?_⟩
    · have : v.used + (1 + secs len) + rs.length ≤ v'.used := k.used
      simp only [List.length_cons]; omega
    · have : v'.num = v.num + 1 + rs.length := k.num
      rw [this, List.length_cons]; omega
theorem place_pass (v : WalV) (n len k : Nat) : (v.pass n len).place n k = v.place n (1 + secs len + k) := by
  unfold WalV.place
  show ((v.next + (1 + secs len)) % (n - 2 * v.slot) + k) % (n - 2 * v.slot) = _
  rw [Nat.mod_add_mod]; congr 1; omega
theorem runs_place {xs : List (List UInt8)} : ∀ {rs : List (List UInt8)} {v v' : WalV}, Runs xs v rs v' → ∀ k, v'.place xs.length k = v.place xs.length (v'.used - v.used + k)
  | [], v, v', h, k => by
    have e : v = v' := h
    subst e; rw [Nat.sub_self, Nat.zero_add]
  | r :: rs, v, v', h, k => by
    obtain ⟨len, _, _, h3⟩ := h
    have hk : v.used + (1 + secs len) + rs.length ≤ v'.used := (runs_keep h3).used
    have e := runs_place h3 k
    rw [place_pass] at e
    rw [e]
    have : (v.pass xs.length len).used = v.used + (1 + secs len) := rfl
    rw [this]; congr 1; omega
/-- Two disks that are the same where the records stand. -/
theorem runs_congr {xs ys : List (List UInt8)} (hl : ys.length = xs.length) : ∀ {rs : List (List UInt8)} {v v' : WalV}, Runs xs v rs v' →
    (∀ k, k < v'.used - v.used → ys.getD (2 * v.slot + v.place xs.length k) [] = xs.getD (2 * v.slot + v.place xs.length k) []) → Runs ys v rs v'
  | [], _, _, h, _ => h
  | r :: rs, v, v', h, ha => by
    obtain ⟨len, h1, h2, h3⟩ := h
    have hk : v.used + (1 + secs len) + rs.length ≤ v'.used := (runs_keep h3).used
    refine ⟨len, ?_, ?_, ?_⟩
    · rw [← h1]; unfold recAt; rw [hl, ha 0 (by omega)]
    · rw [← h2]; unfold recB
      have : recSecs ys v (secs len) = recSecs xs v (secs len) := by
        unfold recSecs
        apply List.map_congr_left
        intro i hi
        rw [List.mem_range] at hi
        rw [hl]; exact ha (1 + i) (by omega)
      rw [this]
    · rw [hl]
      refine runs_congr hl h3 (fun k hk2 => ?_)
      have hu : (v.pass xs.length len).used = v.used + (1 + secs len) := rfl
      rw [hu] at hk2
      rw [place_pass]
      exact ha (1 + secs len + k) (by omega)
theorem place_inj {v : WalV} {n i j : Nat} (hi : i < n - 2 * v.slot) (hj : j < n - 2 * v.slot) (h : v.place n i = v.place n j) : i = j := by
  unfold WalV.place at h
  generalize n - 2 * v.slot = m at *
  have h1 := Nat.div_add_mod (v.next + i) m
  have h2 := Nat.div_add_mod (v.next + j) m
  rw [h] at h1
  generalize (v.next + i) / m = p at *
  generalize (v.next + j) / m = q at *
  rcases Nat.lt_trichotomy p q with e | e | e
  · have : m * (p + 1) ≤ m * q := Nat.mul_le_mul_left _ e
    rw [Nat.mul_add] at this; omega
  · subst e; omega
  · have : m * (q + 1) ≤ m * p := Nat.mul_le_mul_left _ e
    rw [Nat.mul_add] at this; omega
end Go.Proofs.YtgnijpjdkipaaaaGreatDoor
