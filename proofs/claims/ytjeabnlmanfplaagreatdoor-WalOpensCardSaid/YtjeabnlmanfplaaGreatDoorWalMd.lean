/- The log on its disk, plain: what is found behind an append, and behind a checkpoint. Contracts of the laws' helpers: sizes, kind, few, same, the document's Same; acts in memory. Contracts of the document's Room, and of found where all is as the document says. -/
import Derived.Test.YtjeabnlmanfplaaGreatDoorWalMa
import Derived.Test.YtjeabnlmanfplaaGreatDoorWalMc
import Derived.Test.YtjeabnlmanfplaaGreatDoorLater
namespace Go.Proofs.YtjeabnlmanfplaaGreatDoor
open Go.RowKit

def slotX (a : Nat) (xs : List (List UInt8)) (slot : Nat) : WalV := ⟨a, slot, (curS xs slot).1, (curS xs slot).2.2.2, (curS xs slot).2.2.1.toNat, 0, false⟩
/-- The log stands on the sectors: v is behind its records; at its next place there is nothing. -/
structure Found (xs : List (List UInt8)) (slot a : Nat) (v : WalV) (rs : List (List UInt8)) : Prop where
  runs : Runs xs (slotX a xs slot) rs v
  zero : xs.getD (2 * slot + v.next) [] = zeroS
  ok : v.Ok xs.length
theorem Found.slot {xs : List (List UInt8)} {slot a : Nat} {v : WalV} {rs : List (List UInt8)} (h : Found xs slot a v rs) : v.slot = slot := (runs_keep h.runs).slot
theorem Found.gen {xs : List (List UInt8)} {slot a : Nat} {v : WalV} {rs : List (List UInt8)} (h : Found xs slot a v rs) : v.gen = (curS xs slot).1 := (runs_keep h.runs).gen
theorem Found.disk {xs : List (List UInt8)} {slot a : Nat} {v : WalV} {rs : List (List UInt8)} (h : Found xs slot a v rs) : v.disk = a := (runs_keep h.runs).disk
theorem Found.down {xs : List (List UInt8)} {slot a : Nat} {v : WalV} {rs : List (List UInt8)} (h : Found xs slot a v rs) : v.down = false := (runs_keep h.runs).down
theorem place_zero {v : WalV} {n : Nat} (h : v.Ok n) : v.place n 0 = v.next := by
  unfold WalV.place; rw [Nat.add_zero]; exact Nat.mod_eq_of_lt h.next
theorem Found.stop {xs : List (List UInt8)} {slot a : Nat} {v : WalV} {rs : List (List UInt8)} (h : Found xs slot a v rs) : recAt xs v = none := by
  unfold recAt
  rw [place_zero h.ok, h.slot, h.zero, decR_zero]
theorem Found.many {xs : List (List UInt8)} {slot a : Nat} {v : WalV} {rs : List (List UInt8)} (h : Found xs slot a v rs) : rs.length ≤ v.used := by
  have := (runs_keep h.runs).used
  have e : (slotX a xs slot).used = 0 := rfl
  omega
theorem Found.opens {d : DSt} {slot a : Nat} {v : WalV} {rs : List (List UInt8)} (h : Found d.seen slot a v rs) : openV a d slot = v ∧ openR a d slot = rs := by
  have := runs_scan (f := d.seen.length) h.runs h.stop (by have := h.many; have := h.ok.used; omega)
  have e : slotX a d.seen slot = slotV a d slot := rfl
  rw [e] at this
  unfold openV openR
  rw [this]
  exact ⟨rfl, rfl⟩

theorem curS_congr {xs ys : List (List UInt8)} {slot : Nat} (hl : ys.length = xs.length) (h0 : ys.getD 0 [] = xs.getD 0 []) (h1 : ys.getD slot [] = xs.getD slot []) : curS ys slot = curS xs slot := by
  unfold curS curQ stepS
  rw [hl, h0, h1]
theorem take_drop_range {xs : List (List UInt8)} {k c : Nat} (h : k + c ≤ xs.length) : (xs.drop k).take c = (List.range c).map (fun i => xs.getD (k + i) []) := by
  apply List.ext_getElem
  · simp; omega
  · intro i h1 h2
    have hi : i < c := by simpa using h2
    rw [List.getElem_take, List.getElem_drop, List.getElem_map, List.getElem_range, List.getD_eq_getElem?_getD, List.getElem?_eq_getElem (by omega)]
    rfl
theorem state_congr {xs ys : List (List UInt8)} {slot gen len : Nat} (hl : ys.length = xs.length) (hf : 2 * slot ≤ xs.length) (hs : 1 ≤ slot) (hlen : len ≤ 32 * (slot - 1)) (h : ∀ i, i < 2 * slot → ys.getD i [] = xs.getD i []) : stateOf ys slot gen len = stateOf xs slot gen len := by
  have h1 : gen % 2 * slot ≤ slot := by
    have : gen % 2 ≤ 1 := by omega
    calc gen % 2 * slot ≤ 1 * slot := Nat.mul_le_mul_right _ this
      _ = slot := Nat.one_mul _
  have h2 := secs_le hlen
  unfold stateOf
  rw [take_drop_range (by omega), take_drop_range (by omega)]
  congr 2
  apply List.map_congr_left
  intro i hi
  rw [List.mem_range] at hi
  exact h _ (by omega)

/-! ### Behind an append -/

def bodyR (v : WalV) (n : Nat) (r : List UInt8) : List (Nat × List UInt8) := (List.range (secs r.length + 1)).map (fun j => (2 * v.slot + v.place n (1 + j), (cutsOf r).getD j []))
def headR (v : WalV) (n : Nat) (r : List UInt8) : Nat × List UInt8 := (2 * v.slot + v.place n 0, recHead v.num r.length)
theorem getD_cuts_short (r : List UInt8) (j : Nat) : ((cutsOf r).getD j []).length ≤ 32 := by
  rw [List.getD_eq_getElem?_getD]
  by_cases h : j < (cutsOf r).length
  · rw [List.getElem?_eq_getElem h]; exact cuts_short r _ (List.getElem_mem h)
  · rw [List.getElem?_eq_none (by omega)]; simp

theorem append_found {xs : List (List UInt8)} {slot a : Nat} {v : WalV} {rs : List (List UInt8)} (h : Found xs slot a v rs) {r : List UInt8} (hr : 1 + secs r.length < xs.length - 2 * slot - v.used) (hk : v.num ≤ 1099511627776) (hnu : v.num ≤ 1099511627776 + v.used) (hlr : r.length < 4294967296) :
    Found (applyAll xs ((bodyR v xs.length r ++ [headR v xs.length r]).map padP)) slot a (v.pass xs.length r.length) (rs ++ [r]) ∧
    curS (applyAll xs ((bodyR v xs.length r ++ [headR v xs.length r]).map padP)) slot = curS xs slot ∧
    (∀ i, i < 2 * slot → (applyAll xs ((bodyR v xs.length r ++ [headR v xs.length r]).map padP)).getD i [] = xs.getD i []) := by
  obtain ⟨n, hn⟩ : ∃ n, xs.length = n := ⟨_, rfl⟩
  have hok := h.ok
  have hsl := h.slot
  rw [hn] at hok hr ⊢
  have hs1 := hok.s1
  have hft := hok.fit
  have hus := hok.used
  rw [hsl] at hs1 hft hus
  obtain ⟨c, hc⟩ : ∃ c, secs r.length = c := ⟨_, rfl⟩
  rw [hc] at hr
  obtain ⟨num, hnum⟩ := Int.eq_ofNat_of_zero_le (show 0 ≤ v.num by have := hok.k1; omega)
  -- the writes
  obtain ⟨W, hW⟩ : ∃ W, (bodyR v n r ++ [headR v n r]).map padP = W := ⟨_, rfl⟩
  have hWe : W = (List.range (c + 1)).map (fun j => (2 * slot + v.place n (1 + j), padB ((cutsOf r).getD j []))) ++ [(2 * slot + v.place n 0, padB (recHead v.num r.length))] := by
    rw [← hW, List.map_append]
    unfold bodyR headR
    rw [hc, hsl, List.map_map]
    rfl
  rw [hW]
  have hpl : ∀ k, v.place n k < n - 2 * slot := fun k => by have := WalV.place_lt hok k; rw [hsl] at this; exact this
  have hinj : ∀ i j, i < n - 2 * slot → j < n - 2 * slot → v.place n i = v.place n j → i = j := fun i j hi hj e => place_inj (by rw [hsl]; exact hi) (by rw [hsl]; exact hj) e
  have hpw : W.Pairwise (fun a b => a.1 ≠ b.1) := by
    rw [hWe, List.pairwise_append]
    refine ⟨?_, by simp, ?_⟩
    · rw [List.pairwise_map]
      refine List.Pairwise.imp_of_mem ?_ (List.pairwise_lt_range (n := c + 1))
      intro i j hi hj hij e
      rw [List.mem_range] at hi hj
      have := hinj (1 + i) (1 + j) (by omega) (by omega) (by simp only at e; omega)
      omega
    · intro p hp q hq
      obtain ⟨i, hi, rfl⟩ := List.mem_map.1 hp
      rw [List.mem_range] at hi
      rw [List.mem_singleton] at hq
      subst hq
      intro e
      have := hinj (1 + i) 0 (by omega) (by omega) (by simp only at e; omega)
      omega
  have hyl : (applyAll xs W).length = n := by rw [applyAll_length, hn]
  have g1 : (applyAll xs W).getD (2 * slot + v.place n 0) [] = padB (recHead v.num r.length) :=
    applyAll_in W xs (p := (2 * slot + v.place n 0, padB (recHead v.num r.length))) (by rw [hWe]; simp) hpw (by have := hpl 0; show 2 * slot + _ < _; omega)
  have g2 : ∀ j, j ≤ c → (applyAll xs W).getD (2 * slot + v.place n (1 + j)) [] = padB ((cutsOf r).getD j []) := fun j hj =>
    applyAll_in W xs (p := (2 * slot + v.place n (1 + j), padB ((cutsOf r).getD j []))) (by rw [hWe]; exact List.mem_append_left _ (List.mem_map.2 ⟨j, List.mem_range.2 (by omega), rfl⟩)) hpw (by have := hpl (1 + j); show 2 * slot + _ < _; omega)
  have g4 : ∀ i, (∀ k, k ≤ 1 + c → 2 * slot + v.place n k ≠ i) → (applyAll xs W).getD i [] = xs.getD i [] := fun i hi =>
    applyAll_out W xs (fun p hp => by
      rw [hWe] at hp
      rcases List.mem_append.1 hp with e | e
      · obtain ⟨j, hj, rfl⟩ := List.mem_map.1 e
        rw [List.mem_range] at hj
        exact hi (1 + j) (by omega)
      · rw [List.mem_singleton] at e; subst e; exact hi 0 (by omega))
  have glow : ∀ i, i < 2 * slot → (applyAll xs W).getD i [] = xs.getD i [] := fun i hi => g4 i (fun k _ e => by omega)
  have hcur : curS (applyAll xs W) slot = curS xs slot := curS_congr (by rw [hyl, hn]) (glow 0 (by omega)) (glow slot (by omega))
  generalize applyAll xs W = ys at *
  refine ⟨⟨?_, ?_, ?_⟩, hcur, glow⟩
  · have e1 : slotX a ys slot = slotX a xs slot := by unfold slotX; rw [hcur]
    rw [e1]
    have r1 : Runs ys (slotX a xs slot) rs v := by
      refine runs_congr (by rw [hyl, hn]) h.runs (fun k hk2 => ?_)
      have e2 : (slotX a xs slot).used = 0 := rfl
      have e3 : (slotX a xs slot).slot = slot := rfl
      rw [e2] at hk2
      rw [e3, hn]
      refine g4 _ (fun j hj e => ?_)
      have e4 := runs_place h.runs j
      rw [hn, e2] at e4
      rw [e4] at e
      have := place_inj (v := slotX a xs slot) (n := n) (i := v.used - 0 + j) (j := k) (by rw [e3]; omega) (by rw [e3]; omega) (by omega)
      omega
    have r2 : recAt ys v = some r.length := by
      unfold recAt
      rw [hyl, hsl, g1, hnum, decR_enc (by omega) hlr]
      simp only [Int.toNat_natCast, true_and]
      rw [if_pos (by rw [hc]; exact hr)]
    have r3 : recB ys v r.length = r := by
      unfold recB
      have : recSecs ys v (secs r.length) = (cutsOf r).map padB := by
        unfold recSecs
        rw [hc, hyl, hsl]
        apply List.ext_getElem
        · rw [List.length_map, List.length_range, List.length_map, cuts_count, hc]
        · intro i h1 h2
          have hi : i < c := by simpa using h1
          have hi2 : i < (cutsOf r).length := by rw [cuts_count, hc]; exact hi
          rw [List.getElem_map, List.getElem_range, List.getElem_map, g2 i (by omega), List.getD_eq_getElem?_getD, List.getElem?_eq_getElem hi2]
          rfl
      rw [this]
      exact cuts_join r
    have := runs_snoc r1 r2
    rw [r3, hyl] at this
    exact this
  · show ys.getD (2 * slot + v.place n (1 + secs r.length)) [] = zeroS
    rw [hc, g2 c (Nat.le_refl _), List.getD_eq_getElem?_getD, List.getElem?_eq_none (by rw [cuts_count, hc]; omega)]
    rfl
  · rw [hyl]
    exact (pass_ok hok (by rw [hsl, hc]; exact hr) hnu).1

/-! ### Behind a checkpoint -/

def bodyS (slot g : Nat) (s : List UInt8) : List (Nat × List UInt8) := (List.range (secs s.length)).map (fun j => ((g + 1) % 2 * slot + 1 + j, (cutsOf s).getD j []))
def headS (v : WalV) (slot g : Nat) (s : List UInt8) : Nat × List UInt8 := ((g + 1) % 2 * slot, slotHead ((g + 1 : Nat) : Int) s.length v.next v.num)

theorem step_le {xs : List (List UInt8)} {slot at_ : Nat} {cur : Hd} : cur.1 ≤ (stepS xs slot at_ cur).1 := by
  unfold stepS
  split
  · split
    · rename_i h
      rw [Bool.and_eq_true, decide_eq_true_iff] at h
      omega
    · exact Int.le_refl _
  · exact Int.le_refl _
theorem step_low {xs : List (List UInt8)} {slot at_ : Nat} {cur h : Hd} (hd : decS (xs.getD at_ []) = some h) (hv : validB h.1 h.2.1 h.2.2.1 h.2.2.2 xs.length slot at_ = true) : h.1 ≤ (stepS xs slot at_ cur).1 := by
  unfold stepS
  rw [hd]
  simp only [hv, Bool.true_and, decide_eq_true_iff]
  split
  · exact Int.le_refl _
  · omega
theorem step_new {xs : List (List UInt8)} {slot at_ : Nat} {cur h : Hd} (hd : decS (xs.getD at_ []) = some h) (hv : validB h.1 h.2.1 h.2.2.1 h.2.2.2 xs.length slot at_ = true) (hlt : cur.1 < h.1) : stepS xs slot at_ cur = h := by
  unfold stepS
  rw [hd]
  simp only [hv, Bool.true_and]
  rw [if_pos (by rw [decide_eq_true_iff]; exact hlt)]
theorem step_stay {xs : List (List UInt8)} {slot at_ : Nat} {cur : Hd} (h : ∀ hd, decS (xs.getD at_ []) = some hd → validB hd.1 hd.2.1 hd.2.2.1 hd.2.2.2 xs.length slot at_ = true → hd.1 ≤ cur.1) : stepS xs slot at_ cur = cur := by
  unfold stepS
  split
  · rename_i hd he
    rw [if_neg]
    intro hc
    rw [Bool.and_eq_true, decide_eq_true_iff] at hc
    have := h hd he hc.1
    omega
  · rfl
theorem step_congr {xs ys : List (List UInt8)} {slot at_ : Nat} {cur : Hd} (hl : ys.length = xs.length) (h : ys.getD at_ [] = xs.getD at_ []) : stepS ys slot at_ cur = stepS xs slot at_ cur := by
  unfold stepS; rw [hl, h]

theorem checkpoint_found {xs : List (List UInt8)} {slot a : Nat} {v : WalV} {rs : List (List UInt8)} {g : Nat} (h : Found xs slot a v rs) {s : List UInt8} (hs : s.length ≤ 32 * (slot - 1)) (hg : v.gen = g) (hg2 : g + 1 ≤ 1099511627776) (hk : v.num ≤ 1099511627776) :
    Found (applyAll xs ((bodyS slot g s ++ [headS v slot g s]).map padP)) slot a { v with gen := ((g + 1 : Nat) : Int), used := 0 } [] ∧
    curS (applyAll xs ((bodyS slot g s ++ [headS v slot g s]).map padP)) slot = (((g + 1 : Nat) : Int), (s.length : Int), (v.next : Int), v.num) ∧
    stateOf (applyAll xs ((bodyS slot g s ++ [headS v slot g s]).map padP)) slot (g + 1) s.length = s ∧
    (∀ i, 2 * slot ≤ i → (applyAll xs ((bodyS slot g s ++ [headS v slot g s]).map padP)).getD i [] = xs.getD i []) := by
  obtain ⟨n, hn⟩ : ∃ n, xs.length = n := ⟨_, rfl⟩
  have hok := h.ok
  have hsl := h.slot
  have hgen := h.gen
  rw [hn] at hok
  have hs1 := hok.s1
  have hft := hok.fit
  have hnx := hok.next
  have hn1 := hok.n1
  have hk1 := hok.k1
  rw [hsl] at hs1 hft hnx
  obtain ⟨c, hc⟩ : ∃ c, secs s.length = c := ⟨_, rfl⟩
  have hcs : c ≤ slot - 1 := by rw [← hc]; exact secs_le hs
  obtain ⟨num, hnum⟩ := Int.eq_ofNat_of_zero_le (show 0 ≤ v.num by omega)
  obtain ⟨e, he⟩ : ∃ e, (g + 1) % 2 = e := ⟨_, rfl⟩
  have he2 : e = 0 ∨ e = 1 := by omega
  have hes : e * slot = 0 ∨ e * slot = slot := by rcases he2 with rfl | rfl <;> simp
  obtain ⟨W, hW⟩ : ∃ W, (bodyS slot g s ++ [headS v slot g s]).map padP = W := ⟨_, rfl⟩
  have hWe : W = (List.range c).map (fun j => (e * slot + 1 + j, padB ((cutsOf s).getD j []))) ++ [(e * slot, padB (slotHead ((g + 1 : Nat) : Int) s.length v.next v.num))] := by
    rw [← hW, List.map_append]
    unfold bodyS headS
    rw [hc, he, List.map_map]
    rfl
  rw [hW]
  have hpw : W.Pairwise (fun a b => a.1 ≠ b.1) := by
    rw [hWe, List.pairwise_append]
    refine ⟨?_, by simp, ?_⟩
    · rw [List.pairwise_map]
      refine List.Pairwise.imp ?_ (List.pairwise_lt_range (n := c))
      intro i j hij e
      simp only at e; omega
    · intro p hp q hq
      obtain ⟨i, hi, rfl⟩ := List.mem_map.1 hp
      rw [List.mem_singleton] at hq
      subst hq
      intro e
      simp only at e; omega
  have hyl : (applyAll xs W).length = n := by rw [applyAll_length, hn]
  have g1 : (applyAll xs W).getD (e * slot) [] = padB (slotHead ((g + 1 : Nat) : Int) s.length v.next v.num) :=
    applyAll_in W xs (p := (e * slot, padB (slotHead ((g + 1 : Nat) : Int) s.length v.next v.num))) (by rw [hWe]; simp) hpw (by show e * slot < _; omega)
  have g2 : ∀ j, j < c → (applyAll xs W).getD (e * slot + 1 + j) [] = padB ((cutsOf s).getD j []) := fun j hj =>
    applyAll_in W xs (p := (e * slot + 1 + j, padB ((cutsOf s).getD j []))) (by rw [hWe]; exact List.mem_append_left _ (List.mem_map.2 ⟨j, List.mem_range.2 hj, rfl⟩)) hpw (by show e * slot + 1 + j < _; omega)
  have g4 : ∀ i, (∀ k, k ≤ c → e * slot + k ≠ i) → (applyAll xs W).getD i [] = xs.getD i [] := fun i hi =>
    applyAll_out W xs (fun p hp => by
      rw [hWe] at hp
      rcases List.mem_append.1 hp with e1 | e1
      · obtain ⟨j, hj, rfl⟩ := List.mem_map.1 e1
        rw [List.mem_range] at hj
        have := hi (1 + j) (by omega)
        simp only; omega
      · rw [List.mem_singleton] at e1; subst e1
        have := hi 0 (by omega)
        simp only; omega)
  have ghigh : ∀ i, 2 * slot ≤ i → (applyAll xs W).getD i [] = xs.getD i [] := fun i hi => g4 i (fun k _ e1 => by omega)
  have goth : (applyAll xs W).getD ((1 - e) * slot) [] = xs.getD ((1 - e) * slot) [] := g4 _ (fun k hk2 e1 => by
    rcases he2 with rfl | rfl <;> simp at e1 <;> omega)
  have hdec : decS (padB (slotHead ((g + 1 : Nat) : Int) s.length v.next v.num)) = some (((g + 1 : Nat) : Int), (s.length : Int), (v.next : Int), v.num) := by
    rw [hnum]; exact decS_enc (by omega) (by omega) (by omega) (by omega)
  have hval : validB ((g + 1 : Nat) : Int) (s.length : Int) (v.next : Int) v.num n slot ((e * slot : Nat) : Int) = true := by
    unfold validB
    rw [decide_eq_true_iff]
    refine ⟨by omega, by omega, ?_, by omega, by omega, hk1, hk⟩
    rw [Int.natCast_mul, ← he]; rfl
  have hmax : ∀ sec hd, (sec = 0 ∨ sec = slot) → decS (xs.getD sec []) = some hd → validB hd.1 hd.2.1 hd.2.2.1 hd.2.2.2 n slot sec = true → hd.1 ≤ (g : Int) := fun sec hd hsec h1 h2 => by
    have e1 : (curS xs slot).1 = (g : Int) := by rw [← hgen, hg]
    have e2 : curS xs slot = stepS xs slot slot (stepS xs slot 0 (0, 0, 0, 1)) := rfl
    rw [← e1, e2]
    rw [← hn] at h2
    rcases hsec with rfl | rfl
    · exact Int.le_trans (step_low h1 h2) step_le
    · exact step_low h1 h2
  have hcur : curS (applyAll xs W) slot = (((g + 1 : Nat) : Int), (s.length : Int), (v.next : Int), v.num) := by
    show stepS (applyAll xs W) slot slot (stepS (applyAll xs W) slot 0 (0, 0, 0, 1)) = _
    rcases he2 with rfl | rfl
    · rw [Nat.zero_mul] at g1 hval
      rw [step_new (at_ := 0) (h := (((g + 1 : Nat) : Int), (s.length : Int), (v.next : Int), v.num)) (by rw [g1]; exact hdec) (by rw [hyl]; exact hval) (by show (0 : Int) < ((g + 1 : Nat) : Int); omega)]
      refine step_stay (fun hd h1 h2 => ?_)
      rw [Nat.sub_zero, Nat.one_mul] at goth
      rw [goth] at h1
      rw [hyl] at h2
      have := hmax slot hd (Or.inr rfl) h1 h2
      show hd.1 ≤ ((g + 1 : Nat) : Int)
      omega
    · rw [Nat.one_mul] at g1 hval
      rw [Nat.sub_self, Nat.zero_mul] at goth
      refine step_new (by rw [g1]; exact hdec) (by rw [hyl]; exact hval) ?_
      rw [step_congr (xs := xs) (by rw [hyl, hn]) goth]
      show (stepS xs slot 0 (0, 0, 0, 1)).1 < ((g + 1 : Nat) : Int)
      have e1 : (curS xs slot).1 = (g : Int) := by rw [← hgen, hg]
      have e2 : (stepS xs slot 0 (0, 0, 0, 1)).1 ≤ (curS xs slot).1 := step_le
      omega
  have hstate : stateOf (applyAll xs W) slot (g + 1) s.length = s := by
    unfold stateOf
    rw [he, hc, take_drop_range (by rw [hyl]; omega)]
    have : (List.range c).map (fun i => (applyAll xs W).getD (e * slot + 1 + i) []) = (cutsOf s).map padB := by
      apply List.ext_getElem
      · rw [List.length_map, List.length_range, List.length_map, cuts_count, hc]
      · intro i h1 h2
        have hi : i < c := by simpa using h1
        have hi2 : i < (cutsOf s).length := by rw [cuts_count, hc]; exact hi
        rw [List.getElem_map, List.getElem_range, List.getElem_map, g2 i hi, List.getD_eq_getElem?_getD, List.getElem?_eq_getElem hi2]
        rfl
    rw [this]
    exact cuts_join s
  generalize applyAll xs W = ys at *
  refine ⟨⟨?_, ?_, ?_⟩, hcur, hstate, ghigh⟩
  · show slotX a ys slot = _
    unfold slotX
    rw [hcur]
    have e1 := h.slot
    have e2 := h.disk
    have e3 := h.down
    obtain ⟨vd, vs, vg, vn, vx, vu, vw⟩ := v
    simp only at e1 e2 e3
    subst e1 e2 e3
    simp
  · show ys.getD (2 * slot + v.next) [] = zeroS
    rw [ghigh _ (by omega)]; exact h.zero
  · rw [hyl]
    refine ⟨hn1, by show 2 ≤ v.slot; omega, by show 2 * v.slot + 3 ≤ n; omega, by show v.next < n - 2 * v.slot; omega, by show 0 < n - 2 * v.slot; omega, by show (0 : Int) ≤ ((g + 1 : Nat) : Int); omega, by show ((g + 1 : Nat) : Int) ≤ _; omega, hk1, by show v.num ≤ _; omega⟩

/-! ### A new disk -/

theorem new_found (slot m a : Nat) (hs : 2 ≤ slot) (hm : 3 ≤ m) (hn : 2 * slot + m ≤ 4096) : Found (DSt.new (2 * slot + m)).seen slot a ⟨a, slot, 0, 1, 0, 0, false⟩ [] ∧ curS (DSt.new (2 * slot + m)).seen slot = (0, 0, 0, 1) := by
  have hl : (DSt.new (2 * slot + m)).seen.length = 2 * slot + m := by simp [DSt.new]
  have hz : ∀ i, i < 2 * slot + m → (DSt.new (2 * slot + m)).seen.getD i [] = zeroS := fun i hi => by
    rw [List.getD_eq_getElem?_getD, List.getElem?_eq_getElem (by rw [hl]; exact hi)]
    simp [DSt.new, zeroS]
  have hcur : curS (DSt.new (2 * slot + m)).seen slot = (0, 0, 0, 1) := by
    show stepS _ slot slot (stepS _ slot 0 (0, 0, 0, 1)) = _
    rw [step_stay (at_ := 0) (fun hd h1 _ => by rw [hz 0 (by omega), decS_zero] at h1; cases h1)]
    exact step_stay (fun hd h1 _ => by rw [hz slot (by omega), decS_zero] at h1; cases h1)
  refine ⟨⟨?_, ?_, ?_⟩, hcur⟩
  · show slotX a _ slot = _
    unfold slotX; rw [hcur]; rfl
  · exact hz _ (by show 2 * slot + 0 < _; omega)
  · rw [hl]
    exact ⟨hn, hs, by show 2 * slot + 3 ≤ _; omega, by show 0 < 2 * slot + m - 2 * slot; omega, by show 0 < 2 * slot + m - 2 * slot; omega, by show (0 : Int) ≤ 0; omega, by show (0 : Int) ≤ 1099511627776; omega, by show (1 : Int) ≤ 1; omega, by show (1 : Int) ≤ _; omega⟩
end Go.Proofs.YtjeabnlmanfplaaGreatDoor

namespace Go.Proofs.YtjeabnlmanfplaaGreatDoor
open Go.RowKit

def szS (x : Int) : Nat := 2 + (x % 18446744073709551616).toNat % 4
def szM (y : Int) : Nat := 3 + (y % 18446744073709551616).toNat % 14
theorem szS_lt (x : Int) : 2 ≤ szS x ∧ szS x ≤ 5 := by unfold szS; omega
theorem szM_lt (y : Int) : 3 ≤ szM y ∧ szM y ≤ 16 := by unfold szM; omega
theorem rem_wrap (x : Int) (k : Nat) (hk : 0 < k) (hk2 : k ≤ 1000) : wrap64 ((IntKind.u64.wrap x).tmod (k : Int)) = (((x % 18446744073709551616).toNat % k : Nat) : Int) := by
  rw [IntKind.wrap_u64]
  unfold wrap64
  have h0 : 0 ≤ x % 18446744073709551616 := Int.emod_nonneg _ (by omega)
  rw [Int.tmod_eq_emod_of_nonneg h0]
  obtain ⟨m, hm⟩ := Int.eq_ofNat_of_zero_le h0
  rw [hm, Int.toNat_natCast]
  have h1 : m % k < k := Nat.mod_lt _ hk
  have h2 : ((m : Int) % (k : Int)) = ((m % k : Nat) : Int) := rfl
  rw [h2]
  omega

set_option maxHeartbeats 400000 in
theorem sizes_any (x y : Int) (w : World) : Calls Tryz.prog 9 #[.int .i64 x, .int .i64 y] w fun e w' => e = .returned (.tuple #[.int .i64 (szS x), .int .i64 (szM y)]) ∧ w = w' := by
  have e1 : wrap64 ((IntKind.u64.wrap x).tmod 4) = (((x % 18446744073709551616).toNat % 4 : Nat) : Int) := rem_wrap x 4 (by omega) (by omega)
  have e2 : wrap64 ((IntKind.u64.wrap y).tmod 14) = (((y % 18446744073709551616).toNat % 14 : Nat) : Int) := rem_wrap y 14 (by omega) (by omega)
  have HX : Hid ((szS x : Int) = 2 + (((x % 18446744073709551616).toNat % 4 : Nat) : Int)) := Lib.hid (by unfold szS; omega)
  have HY : Hid ((szM y : Int) = 3 + (((y % 18446744073709551616).toNat % 14 : Nat) : Int)) := Lib.hid (by unfold szM; omega)
  have h1 : (x % 18446744073709551616).toNat % 4 < 4 := Nat.mod_lt _ (by omega)
  have h2 : (y % 18446744073709551616).toNat % 14 < 14 := Nat.mod_lt _ (by omega)
  generalize (x % 18446744073709551616).toNat % 4 = p at *
  generalize (y % 18446744073709551616).toNat % 14 = q at *
  go_enter Tryz.func9, Tryz.ntmps9
  go_wp2_with fail
  go_ret2
  exact ⟨by rw [HX.out, HY.out]; rfl, rfl⟩

/-- An act, with the slice that holds its answers to what is kept. -/
structure Act6 where
  k : Int
  n : Int
  s : ByteArray
  A : Option Addr
  cap : Nat
  bs : List Bool
def Act6Cells (W : World) (b o : Nat) (x : Act6) : Prop :=
  W.cell? ⟨b, o, none⟩ = some (.int .i64 x.k) ∧ W.cell? ⟨b, o + 1, none⟩ = some (.int .i64 x.n) ∧ W.cell? ⟨b, o + 2, none⟩ = some (.string x.s) ∧ W.cell? ⟨b, o + 3, none⟩ = some (.slice x.A x.bs.length x.cap)
def act6V (x : Act6) : Array Value := #[.int .i64 x.k, .int .i64 x.n, .string x.s, .slice x.A x.bs.length x.cap]
/-- The acts l lie where a slice says, below block B. -/
def ActsAt (W : World) (B : Nat) (A : Option Addr) (l : List Act6) : Prop :=
  l = [] ∨ ∃ b off, A = some ⟨b, off, none⟩ ∧ b < B ∧ ∀ i, (h : i < l.length) → Act6Cells W b (off + i * 4) l[i]
theorem ActsAt.at_ {W w : World} {B : Nat} {A : Option Addr} {l : List Act6} (h : ActsAt W B A l) (hb : Below B W w) {i : Nat} (hi : i < l.length) :
    ∃ b off, A = some ⟨b, off, none⟩ ∧ b < B ∧ w.cell? ⟨b, off + i * 4, none⟩ = some (.int .i64 l[i].k) ∧ w.cell? ⟨b, off + i * 4 + 1, none⟩ = some (.int .i64 l[i].n) ∧ w.cell? ⟨b, off + i * 4 + 2, none⟩ = some (.string l[i].s) ∧ w.cell? ⟨b, off + i * 4 + 3, none⟩ = some (.slice l[i].A l[i].bs.length l[i].cap) := by
  rcases h with rfl | ⟨b, off, hA, hlt, hc⟩
  · simp at hi
  · obtain ⟨h0, h1, h2, h3⟩ := hc i hi
    exact ⟨b, off, hA, hlt, (hb.cell (p := ⟨b, off + i * 4, none⟩) hlt).trans h0, (hb.cell (p := ⟨b, off + i * 4 + 1, none⟩) hlt).trans h1, (hb.cell (p := ⟨b, off + i * 4 + 2, none⟩) hlt).trans h2, (hb.cell (p := ⟨b, off + i * 4 + 3, none⟩) hlt).trans h3⟩

def kind6 (k : Int) : Nat := (k % 18446744073709551616).toNat % 7
theorem kind6_lt (k : Int) : kind6 k < 7 := Nat.mod_lt _ (by omega)
set_option maxHeartbeats 400000 in
theorem kind6_any (x : Act6) (w : World) : Calls Tryz.prog 16 #[.agg (act6V x)] w fun e w' => e = .returned (.int .i64 (kind6 x.k)) ∧ Below w.heap.size w w' := by
  obtain ⟨k, n, s, A, cap, bs⟩ := x
  have e1 : wrap64 ((IntKind.u64.wrap k).tmod 7) = (kind6 k : Int) := rem_wrap k 7 (by omega) (by omega)
  unfold act6V
  simp only
  generalize bs.length = m
  go_enter Tryz.func16, Tryz.ntmps16
  go_wp2
  go_ret
  refine ⟨?_, (Below.refl _ _).alloc (Nat.le_refl _) _⟩
  show Ending.returned (.int .i64 (wrap64 ((IntKind.u64.wrap k).tmod 7))) = _
  rw [e1]

/-- How many acts are gone through. -/
def FewEnd (l : List Act6) (most : Nat) (w : World) (e : Ending) (w' : World) : Prop :=
  ∃ n : Nat, e = .returned (.int .i64 n) ∧ n ≤ l.length ∧ n ≤ most ∧ (∀ i, (h : i < l.length) → i < n → l[i].s.size ≤ 600 ∧ l[i].bs.length ≤ 100) ∧ w = w'
set_option maxHeartbeats 1600000 in
theorem few_any {w : World} {A : Option Addr} {c : Nat} {l : List Act6} (h : ActsAt w w.heap.size A l) (most : Nat) (hm : most ≤ 100) :
    Calls Tryz.prog 15 #[.slice A l.length c, .int .i64 most] w (FewEnd l most w) := by
  have HV := Lib.hid h
  obtain ⟨n, hn⟩ : ∃ n, l.length = n := ⟨_, rfl⟩
  have HN := Lib.hid hn
  rw [hn]
  clear h hn
  go_enter Tryz.func15, Tryz.ntmps15
  go_wp2_with fail
  go_loopg [5] most (fun kx s5 wr => ∃ k : Nat, s5 = .int .i64 k ∧ k ≤ n ∧ k ≤ most ∧ most - k ≤ kx ∧ Hid (∀ i, (h : i < l.length) → i < k → l[i].s.size ≤ 600 ∧ l[i].bs.length ≤ 100) ∧ w = wr)
  case atStart => exact ⟨0, rfl, Nat.zero_le _, Nat.zero_le _, by omega, Lib.hid (fun i _ h => by omega), rfl⟩
  case round =>
    obtain ⟨k, rfl, hk, hkm, hkx, HI, rfl⟩ := hrel
    have HE : Hid (FewEnd l most w (.returned (.int .i64 k)) w) := Lib.hid ⟨k, rfl, by rw [HN.out]; exact hk, hkm, HI.out, rfl⟩
    by_cases h1 : k < n
    · have h1z : (k : Int) < (n : Int) := by omega
      by_cases h2 : k < most
      · have h2z : (k : Int) < (most : Int) := by omega
        have h2d : decide ((k : Int) < (most : Int)) = true := decide_eq_true h2z
        have hkl : k < l.length := by rw [HN.out]; exact h1
        obtain ⟨b, off, hA, hbl, x0, x1, x2, x3⟩ := HV.out.at_ (Below.refl _ _) hkl
        have HI2 : Hid (l[k].s.size ≤ 600 → l[k].bs.length ≤ 100 → ∀ i, (h : i < l.length) → i < k + 1 → l[i].s.size ≤ 600 ∧ l[i].bs.length ≤ 100) := Lib.hid (fun a1 a2 i hi hik => by
          by_cases e : i = k
          · subst e; exact ⟨a1, a2⟩
          · exact HI.out i hi (by omega))
        subst hA
        generalize l[k] = x at x0 x1 x2 x3 HI2
        obtain ⟨xk, xn, xs, xA, xc, xb⟩ := x
        simp only at x0 x1 x2 x3 HI2
        have hk0 : (0 : Int) ≤ (k : Int) := Int.natCast_nonneg _
        by_cases h3 : xs.size ≤ 600
        · have h3d : decide ((xs.size : Int) ≤ 600) = true := by rw [decide_eq_true_iff]; omega
          by_cases h4 : xb.length ≤ 100
          · have h4d : decide ((xb.length : Int) ≤ 100) = true := by rw [decide_eq_true_iff]; omega
            have HI3 := Lib.hid (HI2.out h3 h4)
            clear HI HI2 HE
            go_wp2_with fail
            go_roundg (most - (k + 1))
            case measure => omega
            case rel => exact ⟨k + 1, by go_num, by omega, by omega, Nat.le_refl _, HI3, rfl⟩
          · have h4d : decide ((xb.length : Int) ≤ 100) = false := by rw [decide_eq_false_iff_not]; omega
            clear HI HI2
            go_wp2_with fail
            go_ret
            exact HE.out
        · have h3d : decide ((xs.size : Int) ≤ 600) = false := by rw [decide_eq_false_iff_not]; omega
          clear HI HI2
          go_wp2_with fail
          go_ret
          exact HE.out
      · have h2z : ¬ (k : Int) < (most : Int) := by omega
        have h2d : decide ((k : Int) < (most : Int)) = false := decide_eq_false h2z
        clear HI
        go_wp2_with fail
        go_ret
        exact HE.out
    · have h1z : ¬ (k : Int) < (n : Int) := by omega
      have h1d : decide ((k : Int) < (n : Int)) = false := decide_eq_false h1z
      clear HI
      go_wp2_with fail
      go_ret
      exact HE.out

noncomputable def eqR (a b : List (List UInt8)) : Bool := @decide (a = b) (Classical.propDecidable _)
theorem eqR_self (a : List (List UInt8)) : eqR a a = true := by unfold eqR; exact @decide_eq_true _ (Classical.propDecidable _) rfl
theorem eqR_ne {a b : List (List UInt8)} (h : a ≠ b) : eqR a b = false := by unfold eqR; exact @decide_eq_false _ (Classical.propDecidable _) h
theorem str_inj {a b : List UInt8} (h : str a = str b) : a = b := by rw [← str_list a, h, str_list]

set_option maxHeartbeats 1600000 in
theorem Same6_any {w : World} {A1 A2 : Option Addr} {c1 c2 : Nat} {xs ys : List (List UInt8)} (h1 : Lies w w.heap.size A1 (xs.map secV)) (h2 : Lies w w.heap.size A2 (ys.map secV)) (hx : xs.length ≤ 9223372036854775807) :
    Calls Tryz.prog 40 #[.slice A1 xs.length c1, .slice A2 ys.length c2] w fun e w' => e = .returned (.bool (eqR xs ys)) ∧ Below w.heap.size w w' := by
  by_cases hlen : xs.length = ys.length
  · have H1 := Lib.hid h1
    have H2 := Lib.hid h2
    obtain ⟨n, hn⟩ : ∃ n, xs.length = n := ⟨_, rfl⟩
    have HN1 := Lib.hid hn
    have HN2 : Hid (ys.length = n) := Lib.hid (by rw [← hlen]; exact hn)
    rw [← hlen, hn]
    rw [hn] at hx
    have HT : Hid (xs = ys → eqR xs ys = true) := Lib.hid (fun e => by rw [e]; exact eqR_self _)
    have HF : Hid (xs ≠ ys → eqR xs ys = false) := Lib.hid eqR_ne
    obtain ⟨q, hq⟩ : ∃ q, eqR xs ys = q := ⟨_, rfl⟩
    rw [hq] at HT HF ⊢
    clear h1 h2 hn hlen hq
    go_enter Tryz.func40, Tryz.ntmps40
    go_wp2
    go_loopw [5] (fun i wr => ∃ k z : Nat, k ≤ n ∧ i = .int .i64 k ∧ Hid (xs.take k = ys.take k) ∧ wr = w.drewN z) (fun i _ => n - (intOf i).toNat)
    case atStart => exact ⟨0, 0, by omega, rfl, Lib.hid (by simp), rfl⟩
    case round =>
      obtain ⟨k, z, hk, rfl, HK, rfl⟩ := hrel
      by_cases hlt : k < n
      · have k1 : k < xs.length := by rw [HN1.out]; exact hlt
        have k2 : k < ys.length := by rw [HN2.out]; exact hlt
        obtain ⟨b1, o1, rfl, _, hc1⟩ := H1.out.at_ (by intro e; rw [List.map_eq_nil_iff] at e; subst e; simp at k1)
        obtain ⟨b2, o2, rfl, _, hc2⟩ := H2.out.at_ (by intro e; rw [List.map_eq_nil_iff] at e; subst e; simp at k2)
        have x1 := hc1 k (by rw [List.length_map]; exact k1)
        have x2 := hc2 k (by rw [List.length_map]; exact k2)
        rw [List.getElem_map] at x1 x2
        have HYes : Hid (xs[k] = ys[k] → xs.take (k + 1) = ys.take (k + 1)) := Lib.hid (fun e => by
          rw [List.take_succ_eq_append_getElem k1, List.take_succ_eq_append_getElem k2, HK.out, e])
        have HNo : Hid (xs[k] ≠ ys[k] → q = false) := Lib.hid (fun e => HF.out (fun e2 => e (by subst e2; rfl)))
        generalize xs[k] = x at x1 HYes HNo
        generalize ys[k] = y at x2 HYes HNo
        unfold secV at x1 x2
        have hi0 : (0 : Int) ≤ (k : Int) := Int.natCast_nonneg _
        have hi1 : (k : Int) < (n : Int) := by omega
        clear hc1 hc2 k1 k2 HK
        by_cases hxy : x = y
        · have HY := Lib.hid (HYes.out hxy)
          subst hxy
          clear HYes HNo
          generalize str x = S at x1 x2
          go_wp2
          go_quiet (fail)
          go_wp2
          go_roundw
          case rel => exact ⟨k + 1, z + nq, by omega, by go_num, HY, rfl⟩
          case measure => simp [intOf]; omega
        · have HNq := Lib.hid (HNo.out hxy)
          have hne : ((str x).toList == (str y).toList) = false := by
            rw [beq_eq_false_iff_ne, Lib.toList_data, Lib.toList_data, str_list, str_list]; exact hxy
          generalize str x = S at x1 hne
          generalize str y = T at x2 hne
          clear HYes HNo hxy
          go_wp2
          go_quiet (fail)
          go_wp2
          go_ret
          exact ⟨by rw [HNq.out]; rfl, below_drewN (below_drewN (Below.refl _ _) _) _⟩
      · have HQ : Hid (q = true) := Lib.hid (HT.out (by
          have := HK.out
          rwa [List.take_of_length_le (by rw [HN1.out]; omega), List.take_of_length_le (by rw [HN2.out]; omega)] at this))
        go_wp2
        go_ret
        exact ⟨by rw [HQ.out]; rfl, below_drewN (Below.refl _ _) _⟩
  · rw [eqR_ne (fun e => hlen (by rw [e]))]
    have hne : ((xs.length : Int) != (ys.length : Int)) = true := by rw [bne_iff_ne]; omega
    clear h1 h2
    go_enter Tryz.func40, Tryz.ntmps40
    go_wp2
    go_ret
    exact ⟨rfl, Below.refl _ _⟩

noncomputable def sameK (st s : List UInt8) (rs l : List (List UInt8)) : Bool := if st = s then eqR rs l else false
set_option maxHeartbeats 1600000 in
theorem same_any {w : World} {A1 A2 : Option Addr} {c1 c2 : Nat} {st s : List UInt8} {rs l : List (List UInt8)} (h1 : Lies w w.heap.size A1 (rs.map secV)) (h2 : Lies w w.heap.size A2 (l.map secV)) (hx : rs.length ≤ 9223372036854775807) :
    Calls Tryz.prog 39 #[.agg #[.string (str st), .slice A1 rs.length c1], .string (str s), .slice A2 l.length c2] w fun e w' => e = .returned (.bool (sameK st s rs l)) ∧ Below w.heap.size w w' := by
  have hb : Below w.heap.size w (w.alloc (.cells #[.string (str st), .slice A1 rs.length c1] 70)) := (Below.refl _ _).alloc (Nat.le_refl _) _
  have HS : Hid (Calls Tryz.prog 40 #[.slice A1 rs.length c1, .slice A2 l.length c2] (w.alloc (.cells #[.string (str st), .slice A1 rs.length c1] 70)) fun e w' => e = .returned (.bool (eqR rs l)) ∧ Below w.heap.size w w') := Lib.hid ((Same6_any (h1.next hb) (h2.next hb) hx).mono (fun _ _ h => ⟨h.1, below_next hb h.2⟩))
  have HB := Lib.hid hb
  by_cases hst : st = s
  · have HK : Hid (sameK st s rs l = eqR rs l) := Lib.hid (by unfold sameK; rw [if_pos hst])
    subst hst
    obtain ⟨q, hq⟩ : ∃ q, eqR rs l = q := ⟨_, rfl⟩
    rw [hq] at HS HK
    rw [HK.out]
    obtain ⟨S, hS⟩ : ∃ S, str st = S := ⟨_, rfl⟩
    rw [hS] at HS HB ⊢
    clear h1 h2 hb hq hS
    go_enter Tryz.func39, Tryz.ntmps39
    go_wp2_with fail
    refine HS.out.mono ?_
    rintro e w2 ⟨rfl, hb2⟩
    have HB2 := Lib.hid hb2
    clear hb2
    go_wp2_with fail
    go_ret
    exact ⟨rfl, HB2.out⟩
  · have hne : ((str st).toList == (str s).toList) = false := by
      rw [beq_eq_false_iff_ne, Lib.toList_data, Lib.toList_data, str_list, str_list]; exact hst
    rw [show sameK st s rs l = false from by unfold sameK; rw [if_neg hst]]
    generalize str st = S at *
    generalize str s = T at *
    clear h1 h2 hb hst HS
    go_enter Tryz.func39, Tryz.ntmps39
    go_wp2_with fail
    go_ret
    exact ⟨rfl, HB.out⟩
end Go.Proofs.YtjeabnlmanfplaaGreatDoor

namespace Go.Proofs.YtjeabnlmanfplaaGreatDoor
open Go.RowKit

set_option maxHeartbeats 1600000 in
theorem DocRoom_any (n slot used : Nat) (fA : Option Addr) (fc : Nat) (v1 v2 v3 v4 : Value) (gen place num : Value) (st sv : Value) (hn : n ≤ 4096) (hs : slot ≤ 4096) (hu : used ≤ 4096) (w : World) :
    Calls Tryz.prog 29 #[.agg #[.slice fA n fc, v1, v2, v3, v4], .int .i64 slot, .agg #[gen, place, num, .int .i64 used, st, sv]] w fun e w' => e = .returned (.int .i64 (roomE n slot used)) ∧ Below w.heap.size w w' := by
  have hb : Below w.heap.size w ((w.alloc (.cells #[.slice fA n fc, v1, v2, v3, v4] 30)).alloc (.cells #[gen, place, num, .int .i64 used, st, sv] 38)) := ((Below.refl _ _).alloc (Nat.le_refl _) _).alloc (by simp) _
  have HB := Lib.hid hb
  have c0 : ((w.alloc (.cells #[.slice fA n fc, v1, v2, v3, v4] 30)).alloc (.cells #[gen, place, num, .int .i64 used, st, sv] 38)).cell? ⟨w.heap.size, 0, none⟩ = some (.slice fA n fc) := by
    rw [World.cell?_alloc_lt _ _ ⟨w.heap.size, 0, none⟩ (by simp), Lib.cell_of_heap (heap_alloc_new _ _)]; rfl
  have c3 : ((w.alloc (.cells #[.slice fA n fc, v1, v2, v3, v4] 30)).alloc (.cells #[gen, place, num, .int .i64 used, st, sv] 38)).cell? ⟨w.heap.size + 1, 3, none⟩ = some (.int .i64 used) := by
    have h : (w.alloc (.cells #[.slice fA n fc, v1, v2, v3, v4] 30)).heap.size = w.heap.size + 1 := by simp
    have := heap_alloc_new (w.alloc (.cells #[.slice fA n fc, v1, v2, v3, v4] 30)) (.cells #[gen, place, num, .int .i64 used, st, sv] 38)
    rw [h] at this
    rw [Lib.cell_of_heap this]; rfl
  have HE : Hid (roomE n slot used = if (n : Int) - 2 * slot - used < 2 then -1 else 32 * ((n : Int) - 2 * slot - used - 2)) := Lib.hid rfl
  have w1 : IntKind.i64.wrap (2 * (slot : Int)) = 2 * (slot : Int) := by rw [IntKind.wrap_i64]; omega
  have w2 : IntKind.i64.wrap ((n : Int) - 2 * (slot : Int)) = (n : Int) - 2 * (slot : Int) := by rw [IntKind.wrap_i64]; omega
  clear hb
  by_cases h2 : (n : Int) - 2 * (slot : Int) - (used : Int) < 2
  · go_enter Tryz.func29, Tryz.ntmps29
    go_wp2_with fail
    go_ret
    exact ⟨by rw [HE.out, if_pos h2]; rfl, HB.out⟩
  · go_enter Tryz.func29, Tryz.ntmps29
    go_wp2_with fail
    go_ret
    exact ⟨by rw [HE.out, if_neg (show ¬ ((n : Int) - 2 * (slot : Int) - (used : Int) < 2) by omega)]; rfl, HB.out⟩

/-- A region whose callees leave what was there, from a later world on. -/
theorem wp_region_on {P : Program} {id : Nat} {Q : Exit → Act → World → Prop} {a : Act} {V w : World} {l : List Oper} (hw : Below V.heap.size V w) (hm : P.follows .mixedOrders = true) (hB : Region.lexB .any l.toArray = true)
    (h : wpQuiet P l.toArray (fun w' => ∃ p : LatW V, w' = p.wd) (fun a' => ∀ w', (∃ p : LatW V, w' = p.wd) → Q .normal a' w') l a) : (Code.region id l.toArray true).wp P Q a w :=
  wp_region_quiet (C := fun w' => ∃ p : LatW V, w' = p.wd) hm hB ⟨⟨w.drew, hw.drew⟩, rfl⟩ (by simpa using h)

set_option maxHeartbeats 8000000 in
set_option maxRecDepth 100000 in
theorem Found_yes {w : World} {F : Nat → Prop} {a : Nat} {v : WalV} {d : DSt} (hL : LogAt w F a v d) (st : ByteArray) {A1 A2 fA : Option Addr} {c1 c2 fc : Nat} {rs : List (List UInt8)} (h1 : Lies w w.heap.size A1 (rs.map secV)) (h2 : Lies w w.heap.size A2 (rs.map secV)) (hrl : rs.length ≤ 9223372036854775807) (v1 v2 v3 v4 : Value) :
    Calls Tryz.prog 14 #[.pointer (some ⟨a, 0, none⟩), .string st, .slice A1 rs.length c1, .agg #[.int .i64 v.gen, .int .i64 v.next, .int .i64 v.num, .int .i64 v.used, .string st, .slice A2 rs.length c2], .agg #[.slice fA d.seen.length fc, v1, v2, v3, v4], .int .i64 v.slot] w fun e w' => e = .returned (.bool true) ∧ Below w.heap.size w w' := by
  obtain ⟨V1, hV1⟩ : ∃ V1, V1 = w.alloc (.cells #[.int .i64 v.gen, .int .i64 v.next, .int .i64 v.num, .int .i64 v.used, .string st, .slice A2 rs.length c2] 38 (0, 0)) := ⟨_, rfl⟩
  have b1 : Below w.heap.size w V1 := by rw [hV1]; exact (Below.refl _ _).alloc (Nat.le_refl _) _
  have k1 := heap_alloc_new w (.cells #[.int .i64 v.gen, .int .i64 v.next, .int .i64 v.num, .int .i64 v.used, .string st, .slice A2 rs.length c2] 38 (0, 0))
  rw [← hV1] at k1
  have s1 : V1.heap.size = w.heap.size + 1 := by rw [hV1]; simp
  obtain ⟨V, hV⟩ : ∃ V, V = V1.alloc (.cells #[.slice fA d.seen.length fc, v1, v2, v3, v4] 30 (0, 0)) := ⟨_, rfl⟩
  have b2 : Below V1.heap.size V1 V := by rw [hV]; exact (Below.refl _ _).alloc (Nat.le_refl _) _
  have k2 := heap_alloc_new V1 (.cells #[.slice fA d.seen.length fc, v1, v2, v3, v4] 30 (0, 0))
  rw [← hV, s1] at k2
  replace k1 := (b2.block _ (heap_lt k1)).trans k1
  have HBV := Lib.hid (below_next b1 b2)
  have HV : Hid ((w.alloc (.cells #[.int .i64 v.gen, .int .i64 v.next, .int .i64 v.num, .int .i64 v.used, .string st, .slice A2 rs.length c2] 38)).alloc (.cells #[.slice fA d.seen.length fc, v1, v2, v3, v4] 30) = V) := Lib.hid (by rw [hV, hV1])
  have HLog := Lib.hid (fun (z : LatW V) => (hL.later HBV.out).later z.bel)
  have HSame := Lib.hid (fun (z : LatW V) => by
    have t := Same6_any (c1 := c1) (c2 := c2) ((h1.next HBV.out).next z.bel) ((h2.next HBV.out).next z.bel) hrl
    rw [eqR_self] at t
    exact t)
  have HNum := Lib.hid (fun (z : LatW V) => Number_anyW (HLog.out z).wal)
  have HGen := Lib.hid (fun (z : LatW V) => Generation_any (HLog.out z).wal)
  have HRoom : Hid (∀ z : LatW V, Calls Tryz.prog 28 #[.pointer (some ⟨a, 0, none⟩)] z.wd fun e w' => e = .returned (.int .i64 (roomE d.seen.length v.slot v.used)) ∧ Below z.wd.heap.size z.wd w') := Lib.hid (fun z => (Room_any (HLog.out z)).mono (fun _ _ ⟨he, m, hm⟩ => ⟨he, by rw [hm]; exact below_drawsW z.wd m⟩))
  have HDR := Lib.hid (fun (z : LatW V) => DocRoom_any d.seen.length v.slot v.used fA fc v1 v2 v3 v4 (.int .i64 v.gen) (.int .i64 v.next) (.int .i64 v.num) (.string st) (.slice A2 rs.length c2) hL.ok.n1 (by have := hL.ok.fit; have := hL.ok.n1; omega) (by have := hL.ok.used; have := hL.ok.n1; omega) z.wd)
  have g0 : ∀ z : LatW V, z.wd.cell? ⟨w.heap.size, 0, none⟩ = some (.int .i64 v.gen) := fun z => z.cell (by rw [Lib.cell_of_heap k1]; rfl) (heap_lt k1)
  have g1 : ∀ z : LatW V, z.wd.cell? ⟨w.heap.size, 1, none⟩ = some (.int .i64 v.next) := fun z => z.cell (by rw [Lib.cell_of_heap k1]; rfl) (heap_lt k1)
  have g2 : ∀ z : LatW V, z.wd.cell? ⟨w.heap.size, 2, none⟩ = some (.int .i64 v.num) := fun z => z.cell (by rw [Lib.cell_of_heap k1]; rfl) (heap_lt k1)
  have g3 : ∀ z : LatW V, z.wd.cell? ⟨w.heap.size, 3, none⟩ = some (.int .i64 v.used) := fun z => z.cell (by rw [Lib.cell_of_heap k1]; rfl) (heap_lt k1)
  have g4 : ∀ z : LatW V, z.wd.cell? ⟨w.heap.size, 4, none⟩ = some (.string st) := fun z => z.cell (by rw [Lib.cell_of_heap k1]; rfl) (heap_lt k1)
  have g5 : ∀ z : LatW V, z.wd.cell? ⟨w.heap.size, 5, none⟩ = some (.slice A2 rs.length c2) := fun z => z.cell (by rw [Lib.cell_of_heap k1]; rfl) (heap_lt k1)
  have e0 : ∀ z : LatW V, z.wd.cell? ⟨w.heap.size + 1, 0, none⟩ = some (.slice fA d.seen.length fc) := fun z => z.cell (by rw [Lib.cell_of_heap k2]; rfl) (heap_lt k2)
  have e1 : ∀ z : LatW V, z.wd.cell? ⟨w.heap.size + 1, 1, none⟩ = some v1 := fun z => z.cell (by rw [Lib.cell_of_heap k2]; rfl) (heap_lt k2)
  have e2 : ∀ z : LatW V, z.wd.cell? ⟨w.heap.size + 1, 2, none⟩ = some v2 := fun z => z.cell (by rw [Lib.cell_of_heap k2]; rfl) (heap_lt k2)
  have e3 : ∀ z : LatW V, z.wd.cell? ⟨w.heap.size + 1, 3, none⟩ = some v3 := fun z => z.cell (by rw [Lib.cell_of_heap k2]; rfl) (heap_lt k2)
  have e4 : ∀ z : LatW V, z.wd.cell? ⟨w.heap.size + 1, 4, none⟩ = some v4 := fun z => z.cell (by rw [Lib.cell_of_heap k2]; rfl) (heap_lt k2)
  clear hL h1 h2 hV hV1 k1 k2 b1 b2 s1 HLog
  obtain ⟨rr, hrr⟩ : ∃ rr, roomE d.seen.length v.slot v.used = rr := ⟨_, rfl⟩
  rw [hrr] at HRoom HDR
  clear hrr
  generalize d.seen.length = n at *
  obtain ⟨vd, vs, vg, vn, vx, vu, vdn⟩ := v
  simp only at *
  go_enter Tryz.func14, Tryz.ntmps14
  go_wp2_with fail
  rw [HV.out]
  generalize w.heap.size = H at g0 g1 g2 g3 g4 g5 e0 e1 e2 e3 e4 ⊢
  refine wp_region_on (V := V) (Below.refl _ _) (by kernel_rfl) (by kernel_rfl) ?_
  repeat (first | go_big_quiet_skip | quiet_step (first | (go_at_call 40; exact Calls.later_of (HSame.out _)) | (go_at_call 26; exact Calls.later_same (HNum.out _)) | (go_at_call 27; exact Calls.later_same (HGen.out _)) | (go_at_call 28; exact Calls.later_of (HRoom.out _)) | (go_at_call 29; exact Calls.later_of (HDR.out _))))
  refine wpQuiet_nil ?_
  intro w9 hw9
  obtain ⟨p9, hw9'⟩ := hw9
  subst hw9'
  go_wp2_with fail
  go_ret
  exact ⟨rfl, HBV.out.trans (p9.bel.mono HBV.out.size)⟩
end Go.Proofs.YtjeabnlmanfplaaGreatDoor
