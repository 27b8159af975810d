/- The log on its disk, plain: what is found behind an append, and behind a checkpoint. -/
import Derived.Test.YtlelfakememckaaGreatDoorWalO
namespace Go.Proofs.YtlelfakememckaaGreatDoor
open Go.RowKit

def slotX (a : Nat) (xs : List (List UInt8)) (slot : Nat) : WalV := ⟨a, slot, (curS xs slot).1, (curS xs slot).2.2.2, (curS xs slot).2.2.1.toNat, 0, false⟩
/-- The log stands on the sectors: v is behind its records; at its next place there is nothing. -/
structure Found (xs : List (List UInt8)) (slot a : Nat) (v : WalV) (rs : List (List UInt8)) : Prop where
  runs : Runs xs (slotX a xs slot) rs v
  zero : xs.getD (2 * slot + v.next) [] = zeroS
  ok : v.Ok xs.length
theorem Found.slot {xs : List (List UInt8)} {slot a : Nat} {v : WalV} {rs : List (List UInt8)} (h : Found xs slot a v rs) : v.slot = slot := (runs_keep h.runs).slot
theorem Found.gen {xs : List (List UInt8)} {slot a : Nat} {v : WalV} {rs : List (List UInt8)} (h : Found xs slot a v rs) : v.gen = (curS xs slot).1 := (runs_keep h.runs).gen
theorem Found.disk {xs : List (List UInt8)} {slot a : Nat} {v : WalV} {rs : List (List UInt8)} (h : Found xs slot a v rs) : v.disk = a := (runs_keep h.runs).disk
theorem Found.down {xs : List (List UInt8)} {slot a : Nat} {v : WalV} {rs : List (List UInt8)} (h : Found xs slot a v rs) : v.down = false := (runs_keep h.runs).down
theorem place_zero {v : WalV} {n : Nat} (h : v.Ok n) : v.place n 0 = v.next := by
  unfold WalV.place; rw [Nat.add_zero]; exact Nat.mod_eq_of_lt h.next
theorem Found.stop {xs : List (List UInt8)} {slot a : Nat} {v : WalV} {rs : List (List UInt8)} (h : Found xs slot a v rs) : recAt xs v = none := by
  unfold recAt
  rw [place_zero h.ok, h.slot, h.zero, decR_zero]
theorem Found.many {xs : List (List UInt8)} {slot a : Nat} {v : WalV} {rs : List (List UInt8)} (h : Found xs slot a v rs) : rs.length ≤ v.used := by
  have := (runs_keep h.runs).used
  have e : (slotX a xs slot).used = 0 := rfl
  omega
theorem Found.opens {d : DSt} {slot a : Nat} {v : WalV} {rs : List (List UInt8)} (h : Found d.seen slot a v rs) : openV a d slot = v ∧ openR a d slot = rs := by
  have := runs_scan (f := d.seen.length) h.runs h.stop (by have := h.many; have := h.ok.used; omega)
  have e : slotX a d.seen slot = slotV a d slot := rfl
  rw [e] at this
  unfold openV openR
  rw [this]
  exact ⟨rfl, rfl⟩

theorem curS_congr {xs ys : List (List UInt8)} {slot : Nat} (hl : ys.length = xs.length) (h0 : ys.getD 0 [] = xs.getD 0 []) (h1 : ys.getD slot [] = xs.getD slot []) : curS ys slot = curS xs slot := by
  unfold curS curQ stepS
  rw [hl, h0, h1]
theorem take_drop_range {xs : List (List UInt8)} {k c : Nat} (h : k + c ≤ xs.length) : (xs.drop k).take c = (List.range c).map (fun i => xs.getD (k + i) []) := by
  apply List.ext_getElem
  · simp; omega
  · intro i h1 h2
    have hi : i < c := by simpa using h2
    rw [List.getElem_take, List.getElem_drop, List.getElem_map, List.getElem_range, List.getD_eq_getElem?_getD, List.getElem?_eq_getElem (by omega)]
    rfl
theorem secs_le {n k : Nat} (h : n ≤ 32 * k) : secs n ≤ k := by unfold secs; omega
theorem state_congr {xs ys : List (List UInt8)} {slot gen len : Nat} (hl : ys.length = xs.length) (hf : 2 * slot ≤ xs.length) (hs : 1 ≤ slot) (hlen : len ≤ 32 * (slot - 1)) (h : ∀ i, i < 2 * slot → ys.getD i [] = xs.getD i []) : stateOf ys slot gen len = stateOf xs slot gen len := by
  have h1 : gen % 2 * slot ≤ slot := by
    have : gen % 2 ≤ 1 := by omega
    calc gen % 2 * slot ≤ 1 * slot := Nat.mul_le_mul_right _ this
      _ = slot := Nat.one_mul _
  have h2 := secs_le hlen
  unfold stateOf
  rw [take_drop_range (by omega), take_drop_range (by omega)]
  congr 2
  apply List.map_congr_left
  intro i hi
  rw [List.mem_range] at hi
  exact h _ (by omega)

/-! ### Behind an append -/

def bodyR (v : WalV) (n : Nat) (r : List UInt8) : List (Nat × List UInt8) := (List.range (secs r.length + 1)).map (fun j => (2 * v.slot + v.place n (1 + j), (cutsOf r).getD j []))
def headR (v : WalV) (n : Nat) (r : List UInt8) : Nat × List UInt8 := (2 * v.slot + v.place n 0, recHead v.num r.length)
theorem getD_cuts_short (r : List UInt8) (j : Nat) : ((cutsOf r).getD j []).length ≤ 32 := by
  rw [List.getD_eq_getElem?_getD]
  by_cases h : j < (cutsOf r).length
  · rw [List.getElem?_eq_getElem h]; exact cuts_short r _ (List.getElem_mem h)
  · rw [List.getElem?_eq_none (by omega)]; simp

theorem append_found {xs : List (List UInt8)} {slot a : Nat} {v : WalV} {rs : List (List UInt8)} (h : Found xs slot a v rs) {r : List UInt8} (hr : 1 + secs r.length < xs.length - 2 * slot - v.used) (hk : v.num ≤ 1099511627776) (hnu : v.num ≤ 1099511627776 + v.used) (hlr : r.length < 4294967296) :
    Found (applyAll xs ((bodyR v xs.length r ++ [headR v xs.length r]).map padP)) slot a (v.pass xs.length r.length) (rs ++ [r]) ∧
    curS (applyAll xs ((bodyR v xs.length r ++ [headR v xs.length r]).map padP)) slot = curS xs slot ∧
    (∀ i, i < 2 * slot → (applyAll xs ((bodyR v xs.length r ++ [headR v xs.length r]).map padP)).getD i [] = xs.getD i []) := by
  obtain ⟨n, hn⟩ : ∃ n, xs.length = n := ⟨_, rfl⟩
  have hok := h.ok
  have hsl := h.slot
  rw [hn] at hok hr ⊢
  have hs1 := hok.s1
  have hft := hok.fit
  have hus := hok.used
  rw [hsl] at hs1 hft hus
  obtain ⟨c, hc⟩ : ∃ c, secs r.length = c := ⟨_, rfl⟩
  rw [hc] at hr
  obtain ⟨num, hnum⟩ := Int.eq_ofNat_of_zero_le (show 0 ≤ v.num by have := hok.k1; omega)
  -- the writes
  obtain ⟨W, hW⟩ : ∃ W, (bodyR v n r ++ [headR v n r]).map padP = W := ⟨_, rfl⟩
  have hWe : W = (List.range (c + 1)).map (fun j => (2 * slot + v.place n (1 + j), padB ((cutsOf r).getD j []))) ++ [(2 * slot + v.place n 0, padB (recHead v.num r.length))] := by
    rw [← hW, List.map_append]
    unfold bodyR headR
    rw [hc, hsl, List.map_map]
    rfl
  rw [hW]
  have hpl : ∀ k, v.place n k < n - 2 * slot := fun k => by have := WalV.place_lt hok k; rw [hsl] at this; exact this
  have hinj : ∀ i j, i < n - 2 * slot → j < n - 2 * slot → v.place n i = v.place n j → i = j := fun i j hi hj e => place_inj (by rw [hsl]; exact hi) (by rw [hsl]; exact hj) e
  have hpw : W.Pairwise (fun a b => a.1 ≠ b.1) := by
    rw [hWe, List.pairwise_append]
    refine ⟨?_, by simp, ?_⟩
    · rw [List.pairwise_map]
      refine List.Pairwise.imp_of_mem ?_ (List.pairwise_lt_range (n := c + 1))
      intro i j hi hj hij e
      rw [List.mem_range] at hi hj
      have := hinj (1 + i) (1 + j) (by omega) (by omega) (by simp only at e; omega)
      omega
    · intro p hp q hq
      obtain ⟨i, hi, rfl⟩ := List.mem_map.1 hp
      rw [List.mem_range] at hi
      rw [List.mem_singleton] at hq
      subst hq
      intro e
      have := hinj (1 + i) 0 (by omega) (by omega) (by simp only at e; omega)
      omega
  have hyl : (applyAll xs W).length = n := by rw [applyAll_length, hn]
  have g1 : (applyAll xs W).getD (2 * slot + v.place n 0) [] = padB (recHead v.num r.length) :=
    applyAll_in W xs (p := (2 * slot + v.place n 0, padB (recHead v.num r.length))) (by rw [hWe]; simp) hpw (by have := hpl 0; show 2 * slot + _ < _; omega)
  have g2 : ∀ j, j ≤ c → (applyAll xs W).getD (2 * slot + v.place n (1 + j)) [] = padB ((cutsOf r).getD j []) := fun j hj =>
    applyAll_in W xs (p := (2 * slot + v.place n (1 + j), padB ((cutsOf r).getD j []))) (by rw [hWe]; exact List.mem_append_left _ (List.mem_map.2 ⟨j, List.mem_range.2 (by omega), rfl⟩)) hpw (by have := hpl (1 + j); show 2 * slot + _ < _; omega)
  have g4 : ∀ i, (∀ k, k ≤ 1 + c → 2 * slot + v.place n k ≠ i) → (applyAll xs W).getD i [] = xs.getD i [] := fun i hi =>
    applyAll_out W xs (fun p hp => by
      rw [hWe] at hp
      rcases List.mem_append.1 hp with e | e
      · obtain ⟨j, hj, rfl⟩ := List.mem_map.1 e
        rw [List.mem_range] at hj
        exact hi (1 + j) (by omega)
      · rw [List.mem_singleton] at e; subst e; exact hi 0 (by omega))
  have glow : ∀ i, i < 2 * slot → (applyAll xs W).getD i [] = xs.getD i [] := fun i hi => g4 i (fun k _ e => by omega)
  have hcur : curS (applyAll xs W) slot = curS xs slot := curS_congr (by rw [hyl, hn]) (glow 0 (by omega)) (glow slot (by omega))
  generalize applyAll xs W = ys at *
  refine ⟨⟨?_, ?_, ?_⟩, hcur, glow⟩
  · have e1 : slotX a ys slot = slotX a xs slot := by unfold slotX; rw [hcur]
    rw [e1]
    have r1 : Runs ys (slotX a xs slot) rs v := by
      refine runs_congr (by rw [hyl, hn]) h.runs (fun k hk2 => ?_)
      have e2 : (slotX a xs slot).used = 0 := rfl
      have e3 : (slotX a xs slot).slot = slot := rfl
      rw [e2] at hk2
      rw [e3, hn]
      refine g4 _ (fun j hj e => ?_)
      have e4 := runs_place h.runs j
      rw [hn, e2] at e4
      rw [e4] at e
      have := place_inj (v := slotX a xs slot) (n := n) (i := v.used - 0 + j) (j := k) (by rw [e3]; omega) (by rw [e3]; omega) (by omega)
      omega
    have r2 : recAt ys v = some r.length := by
      unfold recAt
      rw [hyl, hsl, g1, hnum, decR_enc (by omega) hlr]
      simp only [Int.toNat_natCast, true_and]
      rw [if_pos (by rw [hc]; exact hr)]
    have r3 : recB ys v r.length = r := by
      unfold recB
      have : recSecs ys v (secs r.length) = (cutsOf r).map padB := by
        unfold recSecs
        rw [hc, hyl, hsl]
        apply List.ext_getElem
        · rw [List.length_map, List.length_range, List.length_map, cuts_count, hc]
        · intro i h1 h2
          have hi : i < c := by simpa using h1
          have hi2 : i < (cutsOf r).length := by rw [cuts_count, hc]; exact hi
          rw [List.getElem_map, List.getElem_range, List.getElem_map, g2 i (by omega), List.getD_eq_getElem?_getD, List.getElem?_eq_getElem hi2]
          rfl
      rw [this]
      exact cuts_join r
    have := runs_snoc r1 r2
    rw [r3, hyl] at this
    exact this
  · show ys.getD (2 * slot + v.place n (1 + secs r.length)) [] = zeroS
    rw [hc, g2 c (Nat.le_refl _), List.getD_eq_getElem?_getD, List.getElem?_eq_none (by rw [cuts_count, hc]; omega)]
    rfl
  · rw [hyl]
    exact (pass_ok hok (by rw [hsl, hc]; exact hr) hnu).1

/-! ### Behind a checkpoint -/

def bodyS (slot g : Nat) (s : List UInt8) : List (Nat × List UInt8) := (List.range (secs s.length)).map (fun j => ((g + 1) % 2 * slot + 1 + j, (cutsOf s).getD j []))
def headS (v : WalV) (slot g : Nat) (s : List UInt8) : Nat × List UInt8 := ((g + 1) % 2 * slot, slotHead ((g + 1 : Nat) : Int) s.length v.next v.num)

theorem step_le {xs : List (List UInt8)} {slot at_ : Nat} {cur : Hd} : cur.1 ≤ (stepS xs slot at_ cur).1 := by
  unfold stepS
  split
  · split
    · rename_i h
      rw [Bool.and_eq_true, decide_eq_true_iff] at h
      omega
    · exact Int.le_refl _
  · exact Int.le_refl _
theorem step_low {xs : List (List UInt8)} {slot at_ : Nat} {cur h : Hd} (hd : decS (xs.getD at_ []) = some h) (hv : validB h.1 h.2.1 h.2.2.1 h.2.2.2 xs.length slot at_ = true) : h.1 ≤ (stepS xs slot at_ cur).1 := by
  unfold stepS
  rw [hd]
  simp only [hv, Bool.true_and, decide_eq_true_iff]
  split
  · exact Int.le_refl _
  · omega
theorem step_new {xs : List (List UInt8)} {slot at_ : Nat} {cur h : Hd} (hd : decS (xs.getD at_ []) = some h) (hv : validB h.1 h.2.1 h.2.2.1 h.2.2.2 xs.length slot at_ = true) (hlt : cur.1 < h.1) : stepS xs slot at_ cur = h := by
  unfold stepS
  rw [hd]
  simp only [hv, Bool.true_and]
  rw [if_pos (by rw [decide_eq_true_iff]; exact hlt)]
theorem step_stay {xs : List (List UInt8)} {slot at_ : Nat} {cur : Hd} (h : ∀ hd, decS (xs.getD at_ []) = some hd → validB hd.1 hd.2.1 hd.2.2.1 hd.2.2.2 xs.length slot at_ = true → hd.1 ≤ cur.1) : stepS xs slot at_ cur = cur := by
  unfold stepS
  split
  · rename_i hd he
    rw [if_neg]
    intro hc
    rw [Bool.and_eq_true, decide_eq_true_iff] at hc
    have := h hd he hc.1
    omega
  · rfl
theorem step_congr {xs ys : List (List UInt8)} {slot at_ : Nat} {cur : Hd} (hl : ys.length = xs.length) (h : ys.getD at_ [] = xs.getD at_ []) : stepS ys slot at_ cur = stepS xs slot at_ cur := by
  unfold stepS; rw [hl, h]

theorem checkpoint_found {xs : List (List UInt8)} {slot a : Nat} {v : WalV} {rs : List (List UInt8)} {g : Nat} (h : Found xs slot a v rs) {s : List UInt8} (hs : s.length ≤ 32 * (slot - 1)) (hg : v.gen = g) (hg2 : g + 1 ≤ 1099511627776) (hk : v.num ≤ 1099511627776) :
    Found (applyAll xs ((bodyS slot g s ++ [headS v slot g s]).map padP)) slot a { v with gen := ((g + 1 : Nat) : Int), used := 0 } [] ∧
    curS (applyAll xs ((bodyS slot g s ++ [headS v slot g s]).map padP)) slot = (((g + 1 : Nat) : Int), (s.length : Int), (v.next : Int), v.num) ∧
    stateOf (applyAll xs ((bodyS slot g s ++ [headS v slot g s]).map padP)) slot (g + 1) s.length = s ∧
    (∀ i, 2 * slot ≤ i → (applyAll xs ((bodyS slot g s ++ [headS v slot g s]).map padP)).getD i [] = xs.getD i []) := by
  obtain ⟨n, hn⟩ : ∃ n, xs.length = n := ⟨_, rfl⟩
  have hok := h.ok
  have hsl := h.slot
  have hgen := h.gen
  rw [hn] at hok
  have hs1 := hok.s1
  have hft := hok.fit
  have hnx := hok.next
  have hn1 := hok.n1
  have hk1 := hok.k1
  rw [hsl] at hs1 hft hnx
  obtain ⟨c, hc⟩ : ∃ c, secs s.length = c := ⟨_, rfl⟩
  have hcs : c ≤ slot - 1 := by rw [← hc]; exact secs_le hs
  obtain ⟨num, hnum⟩ := Int.eq_ofNat_of_zero_le (show 0 ≤ v.num by omega)
  obtain ⟨e, he⟩ : ∃ e, (g + 1) % 2 = e := ⟨_, rfl⟩
  have he2 : e = 0 ∨ e = 1 := by omega
  have hes : e * slot = 0 ∨ e * slot = slot := by rcases he2 with rfl | rfl <;> simp
  obtain ⟨W, hW⟩ : ∃ W, (bodyS slot g s ++ [headS v slot g s]).map padP = W := ⟨_, rfl⟩
  have hWe : W = (List.range c).map (fun j => (e * slot + 1 + j, padB ((cutsOf s).getD j []))) ++ [(e * slot, padB (slotHead ((g + 1 : Nat) : Int) s.length v.next v.num))] := by
    rw [← hW, List.map_append]
    unfold bodyS headS
    rw [hc, he, List.map_map]
    rfl
  rw [hW]
  have hpw : W.Pairwise (fun a b => a.1 ≠ b.1) := by
    rw [hWe, List.pairwise_append]
    refine ⟨?_, by simp, ?_⟩
    · rw [List.pairwise_map]
      refine List.Pairwise.imp ?_ (List.pairwise_lt_range (n := c))
      intro i j hij e
      simp only at e; omega
    · intro p hp q hq
      obtain ⟨i, hi, rfl⟩ := List.mem_map.1 hp
      rw [List.mem_singleton] at hq
      subst hq
      intro e
      simp only at e; omega
  have hyl : (applyAll xs W).length = n := by rw [applyAll_length, hn]
  have g1 : (applyAll xs W).getD (e * slot) [] = padB (slotHead ((g + 1 : Nat) : Int) s.length v.next v.num) :=
    applyAll_in W xs (p := (e * slot, padB (slotHead ((g + 1 : Nat) : Int) s.length v.next v.num))) (by rw [hWe]; simp) hpw (by show e * slot < _; omega)
  have g2 : ∀ j, j < c → (applyAll xs W).getD (e * slot + 1 + j) [] = padB ((cutsOf s).getD j []) := fun j hj =>
    applyAll_in W xs (p := (e * slot + 1 + j, padB ((cutsOf s).getD j []))) (by rw [hWe]; exact List.mem_append_left _ (List.mem_map.2 ⟨j, List.mem_range.2 hj, rfl⟩)) hpw (by show e * slot + 1 + j < _; omega)
  have g4 : ∀ i, (∀ k, k ≤ c → e * slot + k ≠ i) → (applyAll xs W).getD i [] = xs.getD i [] := fun i hi =>
    applyAll_out W xs (fun p hp => by
      rw [hWe] at hp
      rcases List.mem_append.1 hp with e1 | e1
      · obtain ⟨j, hj, rfl⟩ := List.mem_map.1 e1
        rw [List.mem_range] at hj
        have := hi (1 + j) (by omega)
        simp only; omega
      · rw [List.mem_singleton] at e1; subst e1
        have := hi 0 (by omega)
        simp only; omega)
  have ghigh : ∀ i, 2 * slot ≤ i → (applyAll xs W).getD i [] = xs.getD i [] := fun i hi => g4 i (fun k _ e1 => by omega)
  have goth : (applyAll xs W).getD ((1 - e) * slot) [] = xs.getD ((1 - e) * slot) [] := g4 _ (fun k hk2 e1 => by
    rcases he2 with rfl | rfl <;> simp at e1 <;> omega)
  have hdec : decS (padB (slotHead ((g + 1 : Nat) : Int) s.length v.next v.num)) = some (((g + 1 : Nat) : Int), (s.length : Int), (v.next : Int), v.num) := by
    rw [hnum]; exact decS_enc (by omega) (by omega) (by omega) (by omega)
  have hval : validB ((g + 1 : Nat) : Int) (s.length : Int) (v.next : Int) v.num n slot ((e * slot : Nat) : Int) = true := by
    unfold validB
    rw [decide_eq_true_iff]
    refine ⟨by omega, by omega, ?_, by omega, by omega, hk1, hk⟩
    rw [Int.natCast_mul, ← he]; rfl
  have hmax : ∀ sec hd, (sec = 0 ∨ sec = slot) → decS (xs.getD sec []) = some hd → validB hd.1 hd.2.1 hd.2.2.1 hd.2.2.2 n slot sec = true → hd.1 ≤ (g : Int) := fun sec hd hsec h1 h2 => by
    have e1 : (curS xs slot).1 = (g : Int) := by rw [← hgen, hg]
    have e2 : curS xs slot = stepS xs slot slot (stepS xs slot 0 (0, 0, 0, 1)) := rfl
    rw [← e1, e2]
    rw [← hn] at h2
    rcases hsec with rfl | rfl
    · exact Int.le_trans (step_low h1 h2) step_le
    · exact step_low h1 h2
  have hcur : curS (applyAll xs W) slot = (((g + 1 : Nat) : Int), (s.length : Int), (v.next : Int), v.num) := by
    show stepS (applyAll xs W) slot slot (stepS (applyAll xs W) slot 0 (0, 0, 0, 1)) = _
    rcases he2 with rfl | rfl
    · rw [Nat.zero_mul] at g1 hval
      rw [step_new (at_ := 0) (h := (((g + 1 : Nat) : Int), (s.length : Int), (v.next : Int), v.num)) (by rw [g1]; exact hdec) (by rw [hyl]; exact hval) (by show (0 : Int) < ((g + 1 : Nat) : Int); omega)]
      refine step_stay (fun hd h1 h2 => ?_)
      rw [Nat.sub_zero, Nat.one_mul] at goth
      rw [goth] at h1
      rw [hyl] at h2
      have := hmax slot hd (Or.inr rfl) h1 h2
      show hd.1 ≤ ((g + 1 : Nat) : Int)
      omega
    · rw [Nat.one_mul] at g1 hval
      rw [Nat.sub_self, Nat.zero_mul] at goth
      refine step_new (by rw [g1]; exact hdec) (by rw [hyl]; exact hval) ?_
      rw [step_congr (xs := xs) (by rw [hyl, hn]) goth]
      show (stepS xs slot 0 (0, 0, 0, 1)).1 < ((g + 1 : Nat) : Int)
      have e1 : (curS xs slot).1 = (g : Int) := by rw [← hgen, hg]
      have e2 : (stepS xs slot 0 (0, 0, 0, 1)).1 ≤ (curS xs slot).1 := step_le
      omega
  have hstate : stateOf (applyAll xs W) slot (g + 1) s.length = s := by
    unfold stateOf
    rw [he, hc, take_drop_range (by rw [hyl]; omega)]
    have : (List.range c).map (fun i => (applyAll xs W).getD (e * slot + 1 + i) []) = (cutsOf s).map padB := by
      apply List.ext_getElem
      · rw [List.length_map, List.length_range, List.length_map, cuts_count, hc]
      · intro i h1 h2
        have hi : i < c := by simpa using h1
        have hi2 : i < (cutsOf s).length := by rw [cuts_count, hc]; exact hi
        rw [List.getElem_map, List.getElem_range, List.getElem_map, g2 i hi, List.getD_eq_getElem?_getD, List.getElem?_eq_getElem hi2]
        rfl
    rw [this]
    exact cuts_join s
  generalize applyAll xs W = ys at *
  refine ⟨⟨?_, ?_, ?_⟩, hcur, hstate, ghigh⟩
  · show slotX a ys slot = _
    unfold slotX
    rw [hcur]
    have e1 := h.slot
    have e2 := h.disk
    have e3 := h.down
    obtain ⟨vd, vs, vg, vn, vx, vu, vw⟩ := v
    simp only at e1 e2 e3
    subst e1 e2 e3
    simp
  · show ys.getD (2 * slot + v.next) [] = zeroS
    rw [ghigh _ (by omega)]; exact h.zero
  · rw [hyl]
    refine ⟨hn1, by show 2 ≤ v.slot; omega, by show 2 * v.slot + 3 ≤ n; omega, by show v.next < n - 2 * v.slot; omega, by show 0 < n - 2 * v.slot; omega, by show (0 : Int) ≤ ((g + 1 : Nat) : Int); omega, by show ((g + 1 : Nat) : Int) ≤ _; omega, hk1, by show v.num ≤ _; omega⟩

/-! ### A new disk -/

theorem new_found (slot m a : Nat) (hs : 2 ≤ slot) (hm : 3 ≤ m) (hn : 2 * slot + m ≤ 4096) : Found (DSt.new (2 * slot + m)).seen slot a ⟨a, slot, 0, 1, 0, 0, false⟩ [] ∧ curS (DSt.new (2 * slot + m)).seen slot = (0, 0, 0, 1) := by
  have hl : (DSt.new (2 * slot + m)).seen.length = 2 * slot + m := by simp [DSt.new]
  have hz : ∀ i, i < 2 * slot + m → (DSt.new (2 * slot + m)).seen.getD i [] = zeroS := fun i hi => by
    rw [List.getD_eq_getElem?_getD, List.getElem?_eq_getElem (by rw [hl]; exact hi)]
    simp [DSt.new, zeroS]
  have hcur : curS (DSt.new (2 * slot + m)).seen slot = (0, 0, 0, 1) := by
    show stepS _ slot slot (stepS _ slot 0 (0, 0, 0, 1)) = _
    rw [step_stay (at_ := 0) (fun hd h1 _ => by rw [hz 0 (by omega), decS_zero] at h1; cases h1)]
    exact step_stay (fun hd h1 _ => by rw [hz slot (by omega), decS_zero] at h1; cases h1)
  refine ⟨⟨?_, ?_, ?_⟩, hcur⟩
  · show slotX a _ slot = _
    unfold slotX; rw [hcur]; rfl
  · exact hz _ (by show 2 * slot + 0 < _; omega)
  · rw [hl]
    exact ⟨hn, hs, by show 2 * slot + 3 ≤ _; omega, by show 0 < 2 * slot + m - 2 * slot; omega, by show 0 < 2 * slot + m - 2 * slot; omega, by show (0 : Int) ≤ 0; omega, by show (0 : Int) ≤ 1099511627776; omega, by show (1 : Int) ≤ 1; omega, by show (1 : Int) ≤ _; omega⟩
end Go.Proofs.YtlelfakememckaaGreatDoor
