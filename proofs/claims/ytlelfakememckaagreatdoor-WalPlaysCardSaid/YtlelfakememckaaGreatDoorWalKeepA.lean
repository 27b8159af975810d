/- What a disk has taken when its power goes in the midst of a store. A log on a disk whose power may go: what an append and a checkpoint leave, and what is opened behind a crash. behind: what must be there behind a checkpoint (a new kept in memory). A log whose power is on, and one whose power has gone: what each play makes of it. No program in sight. For WalPlays. -/
import Derived.Test.YtlelfakememckaaGreatDoorWalQ
import Derived.Test.YtlelfakememckaaGreatDoorWalW
import Derived.Laws.Rows
import Derived.Test.YtlelfakememckaaGreatDoorDiskL
namespace Go.Proofs.YtlelfakememckaaGreatDoor

theorem spent_keeps (d : DSt) : d.spent.seen = d.seen ∧ d.spent.firm = d.firm ∧ d.spent.loose = d.loose := by
  unfold DSt.spent; split
  · split <;> exact ⟨rfl, rfl, rfl⟩
  · exact ⟨rfl, rfl, rfl⟩
theorem spent_goes {d : DSt} (h : d.off = false) (hl : d.lasts = true) : d.spent.off = false := by
  unfold DSt.spent; split
  · rename_i ha
    split
    · rename_i h0
      unfold DSt.lasts at hl
      rw [ha, h0] at hl
      exact absurd hl (by decide)
    · exact h
  · exact h
theorem spent_ends {d : DSt} (hl : d.lasts = false) : d.spent.off = true := by
  unfold DSt.lasts at hl
  unfold DSt.spent
  have h1 : d.armed = true := by cases h : d.armed <;> simp_all
  have h2 : d.left = 0 := by simp_all
  rw [if_pos h1, if_pos h2]
/-- One write, be the power armed. -/
theorem write_cut {d : DSt} (h : d.off = false) {i : Nat} {s : List UInt8} (hi : i < d.seen.length) (hs : s.length ≤ 32) :
    (d.lasts = true ∧ d.writeE (i : Int) s = 0 ∧ d.writeD (i : Int) s = d.spent.put i (padB s)) ∨ (d.lasts = false ∧ d.writeE (i : Int) s = 7 ∧ d.writeD (i : Int) s = d.spent) := by
  have hh : d.has (i : Int) = true := (d.has_iff _).2 (by omega)
  cases hl : d.lasts with
  | true =>
    refine .inl ⟨rfl, ?_, ?_⟩
    · unfold DSt.writeE
      rw [if_neg (by rw [h]; simp), if_neg (by rw [hh]; simp), if_neg (by omega), if_pos hl]
    · unfold DSt.writeD
      rw [if_neg (by rw [h, hh]; simp; omega), if_pos hl, Int.toNat_natCast]
  | false =>
    refine .inr ⟨rfl, ?_, ?_⟩
    · unfold DSt.writeE
      rw [if_neg (by rw [h]; simp), if_neg (by rw [hh]; simp), if_neg (by omega), if_neg (by rw [hl]; simp)]
    · unfold DSt.writeD
      rw [if_neg (by rw [h, hh]; simp; omega), if_neg (by rw [hl]; simp)]
/-- Writes one behind the other: all of them, or the power has gone behind a part of them. -/
theorem puts_cut : ∀ (ps : List (Nat × List UInt8)) {d : DSt}, d.off = false → (∀ p ∈ ps, p.1 < d.seen.length ∧ p.2.length ≤ 32) →
    (d.putsE ps = true ∧ (d.putsD ps).seen = applyAll d.seen (ps.map padP) ∧ (d.putsD ps).loose = d.loose ++ ps.map padP ∧ (d.putsD ps).firm = d.firm ∧ (d.putsD ps).off = false) ∨
    (d.putsE ps = false ∧ (d.putsD ps).off = true ∧ (d.putsD ps).firm = d.firm ∧ ∃ k, (d.putsD ps).loose = d.loose ++ (ps.take k).map padP)
  | [], d, h, _ => .inl ⟨rfl, rfl, by simp [DSt.putsD], rfl, h⟩
  | p :: ps, d, h, hp => by
    obtain ⟨h1, h2⟩ := hp p List.mem_cons_self
    obtain ⟨s1, s2, s3⟩ := spent_keeps d
    unfold DSt.putsE DSt.putsD
    rcases write_cut h h1 h2 with ⟨hl, e1, e2⟩ | ⟨hl, e1, e2⟩
    · have ho : (d.spent.put p.1 (padB p.2)).off = false := spent_goes h hl
      have hb := puts_cut ps ho (fun q hq => by
        show q.1 < (d.spent.seen.set p.1 (padB p.2)).length ∧ _
        rw [List.length_set, s1]; exact hp q (List.mem_cons_of_mem _ hq))
      have e3 : (d.spent.put p.1 (padB p.2)).loose = d.loose ++ [padP p] := by show d.spent.loose ++ _ = _; rw [s3]; rfl
      have e4 : (d.spent.put p.1 (padB p.2)).firm = d.firm := s2
      have e5 : (d.spent.put p.1 (padB p.2)).seen = d.seen.set p.1 (padB p.2) := by show d.spent.seen.set _ _ = _; rw [s1]
      rw [if_pos e1, if_pos e1, e2]
      rcases hb with ⟨g1, g2, g3, g4, g5⟩ | ⟨g1, g2, g3, k, g4⟩
      · refine .inl ⟨g1, by rw [g2, e5]; rfl, by rw [g3, e3, List.append_assoc]; rfl, g4.trans e4, g5⟩
      · refine .inr ⟨g1, g2, g3.trans e4, k + 1, by rw [g4, e3, List.append_assoc]; rfl⟩
    · rw [if_neg (by rw [e1]; decide), if_neg (by rw [e1]; decide), e2]
      exact .inr ⟨rfl, spent_ends hl, s2, 0, by rw [s3]; simp⟩
theorem firm_cut {ps : List (Nat × List UInt8)} {d : DSt} (h : d.off = false) (hp : ∀ p ∈ ps, p.1 < d.seen.length ∧ p.2.length ≤ 32) :
    (d.firmE ps = true ∧ (d.firmD ps).seen = applyAll d.seen (ps.map padP) ∧ (d.firmD ps).loose = [] ∧ (d.firmD ps).firm = applyAll d.firm (d.loose ++ ps.map padP) ∧ (d.firmD ps).off = false) ∨
    (d.firmE ps = false ∧ (d.firmD ps).off = true ∧ (d.firmD ps).firm = d.firm ∧ ∃ k, (d.firmD ps).loose = d.loose ++ (ps.take k).map padP) := by
  unfold DSt.firmE DSt.firmD
  rcases puts_cut ps h hp with ⟨g1, g2, g3, g4, g5⟩ | ⟨g1, g2, g3, k, g4⟩
  · obtain ⟨s1, s2, s3⟩ := spent_keeps (d.putsD ps)
    rw [if_pos g1, g1]
    cases hl : (d.putsD ps).lasts with
    | true =>
      have e1 : (d.putsD ps).flushE = 0 := by unfold DSt.flushE; rw [if_neg (by rw [g5]; simp), if_pos hl]
      have e2 : (d.putsD ps).flushD = (d.putsD ps).spent.firmAll := by unfold DSt.flushD; rw [if_neg (by rw [g5]; simp), if_pos hl]
      rw [e1, e2]
      refine .inl ⟨rfl, s1.trans g2, rfl, ?_, spent_goes g5 hl⟩
      show applyAll (d.putsD ps).spent.firm (d.putsD ps).spent.loose = _
      rw [s2, s3, g3, g4]
    | false =>
      have e1 : (d.putsD ps).flushE = 7 := by unfold DSt.flushE; rw [if_neg (by rw [g5]; simp), if_neg (by rw [hl]; simp)]
      have e2 : (d.putsD ps).flushD = (d.putsD ps).spent := by unfold DSt.flushD; rw [if_neg (by rw [g5]; simp), if_neg (by rw [hl]; simp)]
      rw [e1, e2]
      exact .inr ⟨rfl, spent_ends hl, s2.trans g4, ps.length, by rw [s3, g3, List.take_length]⟩
  · rw [g1]
    exact .inr ⟨rfl, g2, g3, k, g4⟩
/-- A store: done; or the power has gone in its body, or at its head. -/
theorem store_cut {ps : List (Nat × List UInt8)} {q : Nat × List UInt8} {d : DSt} (h : d.off = false) (hz : d.loose = []) (hp : ∀ p ∈ ps, p.1 < d.seen.length ∧ p.2.length ≤ 32) (hq : q.1 < d.seen.length ∧ q.2.length ≤ 32) :
    (d.storeE ps q = true ∧ (d.storeD ps q).seen = applyAll d.seen ((ps ++ [q]).map padP) ∧ (d.storeD ps q).loose = [] ∧ (d.storeD ps q).firm = applyAll d.firm ((ps ++ [q]).map padP) ∧ (d.storeD ps q).off = false) ∨
    (d.storeE ps q = false ∧ (d.storeD ps q).off = true ∧ (d.storeD ps q).firm = d.firm ∧ ∃ k, (d.storeD ps q).loose = (ps.take k).map padP) ∨
    (d.storeE ps q = false ∧ (d.storeD ps q).off = true ∧ (d.storeD ps q).firm = applyAll d.firm (ps.map padP) ∧ ∃ k, (d.storeD ps q).loose = ([q].take k).map padP) := by
  unfold DSt.storeE DSt.storeD
  rcases firm_cut h hp with ⟨g1, g2, g3, g4, g5⟩ | ⟨g1, g2, g3, k, g4⟩
  · rw [if_pos g1, g1, Bool.true_and]
    rw [hz, List.nil_append] at g4
    rcases firm_cut (ps := [q]) g5 (fun p hp => by
      rw [List.mem_singleton] at hp
      subst hp
      rw [g2, applyAll_length]; exact hq) with ⟨k1, k2, k3, k4, k5⟩ | ⟨k1, k2, k3, k, k4⟩
    · refine .inl ⟨k1, ?_, k3, ?_, k5⟩
      · rw [k2, g2, List.map_append, applyAll_append]
      · rw [k4, g3, g4, List.nil_append, List.map_append, applyAll_append]
    · refine .inr (.inr ⟨k1, k2, k3.trans g4, k, ?_⟩)
      rw [k4, g3, List.nil_append]
  · rw [g1]
    refine .inr (.inl ⟨rfl, g2, g3, k, ?_⟩)
    rw [hz, List.nil_append] at g4
    exact g4

/-! ### A part of the body of a store, kept or not: the log that stands is not touched -/

/-- Behind a part of a record's body. -/
theorem append_lost {xs : List (List UInt8)} {slot a : Nat} {v : WalV} {rs : List (List UInt8)} (h : Found xs slot a v rs) {c : Nat} (hr : 1 + c < xs.length - 2 * slot - v.used) {W : List (Nat × List UInt8)} (hW : ∀ p ∈ W, ∃ j, j ≤ c ∧ p.1 = 2 * slot + v.place xs.length (1 + j)) :
    Found (applyAll xs W) slot a v rs ∧ curS (applyAll xs W) slot = curS xs slot ∧ (∀ i, i < 2 * slot → (applyAll xs W).getD i [] = xs.getD i []) := by
  obtain ⟨n, hn⟩ : ∃ n, xs.length = n := ⟨_, rfl⟩
  have hok := h.ok
  have hsl := h.slot
  rw [hn] at hok hr hW
  have hs1 := hok.s1
  have hft := hok.fit
  have hus := hok.used
  rw [hsl] at hs1 hft hus
  have hyl : (applyAll xs W).length = n := by rw [applyAll_length, hn]
  have hinj : ∀ i j, i < n - 2 * slot → j < n - 2 * slot → v.place n i = v.place n j → i = j := fun i j hi hj e => place_inj (by rw [hsl]; exact hi) (by rw [hsl]; exact hj) e
  have g4 : ∀ i, (∀ j, j ≤ c → 2 * slot + v.place n (1 + j) ≠ i) → (applyAll xs W).getD i [] = xs.getD i [] := fun i hi =>
    applyAll_out W xs (fun p hp e => by
      obtain ⟨j, hj, e2⟩ := hW p hp
      exact hi j hj (e2.symm.trans e))
  have glow : ∀ i, i < 2 * slot → (applyAll xs W).getD i [] = xs.getD i [] := fun i hi => g4 i (fun k _ e => by omega)
  have hcur : curS (applyAll xs W) slot = curS xs slot := curS_congr (by rw [hyl, hn]) (glow 0 (by omega)) (glow slot (by omega))
  generalize applyAll xs W = ys at *
  refine ⟨⟨?_, ?_, ?_⟩, hcur, glow⟩
  · have e1 : slotX a ys slot = slotX a xs slot := by unfold slotX; rw [hcur]
    rw [e1]
    refine runs_congr (by rw [hyl, hn]) h.runs (fun k hk2 => ?_)
    have e2 : (slotX a xs slot).used = 0 := rfl
    have e3 : (slotX a xs slot).slot = slot := rfl
    rw [e2] at hk2
    rw [e3, hn]
    refine g4 _ (fun j hj e => ?_)
    have e4 := runs_place h.runs (1 + j)
    rw [hn, e2] at e4
    rw [e4] at e
    have := place_inj (v := slotX a xs slot) (n := n) (i := v.used - 0 + (1 + j)) (j := k) (by rw [e3]; omega) (by rw [e3]; omega) (by omega)
    omega
  · rw [← h.zero]
    refine g4 _ (fun j hj e => ?_)
    have e0 : v.place n 0 = v.next := place_zero hok
    have := hinj (1 + j) 0 (by omega) (by omega) (by omega)
    omega
  · rw [hyl]; exact hok
theorem state_same {xs ys : List (List UInt8)} {slot gen len : Nat} (hl : ys.length = xs.length) (hk : gen % 2 * slot + 1 + secs len ≤ xs.length) (h : ∀ i, i < secs len → ys.getD (gen % 2 * slot + 1 + i) [] = xs.getD (gen % 2 * slot + 1 + i) []) : stateOf ys slot gen len = stateOf xs slot gen len := by
  unfold stateOf
  rw [take_drop_range (by rw [hl]; exact hk), take_drop_range hk]
  congr 2
  exact List.map_congr_left (fun i hi => h i (List.mem_range.1 hi))
/-- Behind a part of a state's body. -/
theorem checkpoint_lost {xs : List (List UInt8)} {slot a : Nat} {v : WalV} {rs : List (List UInt8)} {g : Nat} (h : Found xs slot a v rs) {c : Nat} (hc : c ≤ slot - 1) {W : List (Nat × List UInt8)} (hW : ∀ p ∈ W, ∃ j, j < c ∧ p.1 = (g + 1) % 2 * slot + 1 + j) :
    Found (applyAll xs W) slot a v rs ∧ curS (applyAll xs W) slot = curS xs slot ∧ (∀ i, i < slot → (applyAll xs W).getD (g % 2 * slot + i) [] = xs.getD (g % 2 * slot + i) []) := by
  obtain ⟨n, hn⟩ : ∃ n, xs.length = n := ⟨_, rfl⟩
  have hok := h.ok
  have hsl := h.slot
  rw [hn] at hok
  have hs1 := hok.s1
  have hft := hok.fit
  rw [hsl] at hs1 hft
  have hyl : (applyAll xs W).length = n := by rw [applyAll_length, hn]
  have hes : ((g + 1) % 2 = 0 ∧ g % 2 = 1) ∨ ((g + 1) % 2 = 1 ∧ g % 2 = 0) := by omega
  have g4 : ∀ i, (∀ j, j < c → (g + 1) % 2 * slot + 1 + j ≠ i) → (applyAll xs W).getD i [] = xs.getD i [] := fun i hi =>
    applyAll_out W xs (fun p hp e => by
      obtain ⟨j, hj, e2⟩ := hW p hp
      exact hi j hj (e2.symm.trans e))
  have ghigh : ∀ i, 2 * slot ≤ i → (applyAll xs W).getD i [] = xs.getD i [] := fun i hi => g4 i (fun k _ e => by
    rcases hes with ⟨e1, _⟩ | ⟨e1, _⟩ <;> rw [e1] at e <;> omega)
  have g0 : (applyAll xs W).getD 0 [] = xs.getD 0 [] := g4 0 (fun k _ e => by omega)
  have g1 : (applyAll xs W).getD slot [] = xs.getD slot [] := g4 slot (fun k _ e => by
    rcases hes with ⟨e1, _⟩ | ⟨e1, _⟩ <;> rw [e1] at e <;> omega)
  have gown : ∀ i, i < slot → (applyAll xs W).getD (g % 2 * slot + i) [] = xs.getD (g % 2 * slot + i) [] := fun i hi => g4 _ (fun k _ e => by
    rcases hes with ⟨e1, e2⟩ | ⟨e1, e2⟩ <;> rw [e1, e2] at e <;> omega)
  have hcur : curS (applyAll xs W) slot = curS xs slot := curS_congr (by rw [hyl, hn]) g0 g1
  generalize applyAll xs W = ys at *
  refine ⟨⟨?_, ?_, ?_⟩, hcur, gown⟩
  · have e1 : slotX a ys slot = slotX a xs slot := by unfold slotX; rw [hcur]
    rw [e1]
    refine runs_congr (by rw [hyl, hn]) h.runs (fun k hk2 => ?_)
    have e3 : (slotX a xs slot).slot = slot := rfl
    rw [e3]
    exact ghigh _ (by omega)
  · rw [← h.zero]
    exact ghigh _ (by omega)
  · rw [hyl]; exact hok
theorem keepOf_mem {keep : List Bool} {l : List (Nat × List UInt8)} {p : Nat × List UInt8} (h : p ∈ keepOf keep l) : p ∈ l := by
  unfold keepOf at h
  obtain ⟨q, hq, rfl⟩ := List.mem_map.1 h
  have := (List.mem_filter.1 hq).1
  exact (List.mem_zipIdx' this).2 ▸ List.getElem_mem _
theorem keepOf_one (keep : List Bool) (q : Nat × List UInt8) (k : Nat) : keepOf keep ([q].take k) = [] ∨ keepOf keep ([q].take k) = [q] := by
  cases k with
  | zero => exact .inl rfl
  | succ k =>
    rw [show [q].take (k + 1) = [q] from by simp]
    have := keepOf_snoc keep [] q
    rw [List.nil_append, keepOf_nil, List.nil_append] at this
    rw [this]
    split
    · exact .inr rfl
    · exact .inl rfl
end Go.Proofs.YtlelfakememckaaGreatDoor

namespace Go.Proofs.YtlelfakememckaaGreatDoor

/-- What is opened of these sectors: this state, these records. -/
def Opens (xs : List (List UInt8)) (slot a : Nat) (st : List UInt8) (rs : List (List UInt8)) : Prop :=
  ∃ v, Found xs slot a v rs ∧ stateOf xs slot (curS xs slot).1.toNat (curS xs slot).2.1.toNat = st
/-- A log that stands firm on its disk; the power is on, armed or not. -/
structure KeepSt (d : DSt) (slot a : Nat) (v : WalV) (st : List UInt8) (rs : List (List UInt8)) : Prop where
  off : d.off = false
  firm : d.firm = d.seen
  loose : d.loose = []
  found : Found d.seen slot a v rs
  state : openS d slot = st
theorem KeepSt.of_opens {d : DSt} {slot a : Nat} {st : List UInt8} {rs : List (List UInt8)} {keep : List Bool} (h : Opens (d.crashF keep) slot a st rs) : ∃ v, KeepSt (d.crashD keep) slot a v st rs := by
  obtain ⟨v, h1, h2⟩ := h
  exact ⟨v, ⟨rfl, rfl, rfl, h1, h2⟩⟩
/-- The power is on, and nothing is under way: a crash leaves all as it is. -/
theorem KeepSt.crash {d : DSt} {slot a : Nat} {v : WalV} {st : List UInt8} {rs : List (List UInt8)} (h : KeepSt d slot a v st rs) (keep : List Bool) : Opens (d.crashF keep) slot a st rs := by
  have e : d.crashF keep = d.seen := by unfold DSt.crashF; rw [h.loose, keepOf_nil, h.firm]; rfl
  rw [e]
  exact ⟨v, h.found, h.state⟩
theorem opens_low {xs ys : List (List UInt8)} {slot a : Nat} {v : WalV} {st : List UInt8} {rs : List (List UInt8)} (hs : 2 ≤ slot) (hf : 2 * slot + 3 ≤ xs.length) (hl : ys.length = xs.length) (hx : stateOf xs slot (curS xs slot).1.toNat (curS xs slot).2.1.toNat = st)
    (h : Found ys slot a v rs) (hc : curS ys slot = curS xs slot) (hlow : ∀ i, i < 2 * slot → ys.getD i [] = xs.getD i []) : Opens ys slot a st rs := by
  refine ⟨v, h, ?_⟩
  rw [hc, ← hx]
  have hk := curS_ok hs hf
  have := hk.l0
  have := hk.l1
  exact state_congr hl (by omega) (by omega) (by omega) hlow

theorem add_cut {d : DSt} {slot a : Nat} {v : WalV} {st : List UInt8} {rs : List (List UInt8)} (h : KeepSt d slot a v st rs) {l : List UInt8} (hb : addBad v d.seen.length l = 0) (hl : l.length ≤ 100000) :
    (addE v d l = 0 ∧ addV v d l = v.pass d.seen.length l.length ∧ KeepSt (addD v d l) slot a (v.pass d.seen.length l.length) st (rs ++ [l]) ∧ (addD v d l).seen.length = d.seen.length) ∨
    (addE v d l = 7 ∧ addV v d l = v ∧ (addD v d l).off = true ∧ (addD v d l).seen.length = d.seen.length ∧ (addD v d l).loose.length ≤ 100000 ∧ ∀ keep, Opens ((addD v d l).crashF keep) slot a st rs ∨ Opens ((addD v d l).crashF keep) slot a st (rs ++ [l])) := by
  obtain ⟨z1, z2, z3, z4⟩ := addBad_zero hb
  have hok := h.found.ok
  have hsl := h.found.slot
  have hs1 := hok.s1
  have hft := hok.fit
  have hn1 := hok.n1
  have hus := hok.used
  have hk1 := hok.k1
  rw [hsl] at z2 z3 hs1 hft hus
  have hr : 1 + secs l.length < d.seen.length - 2 * slot - v.used := by omega
  obtain ⟨f1, f2, f3⟩ := append_found h.found hr z4 (by omega) (by omega)
  obtain ⟨num, hnum⟩ := Int.eq_ofNat_of_zero_le (show 0 ≤ v.num by omega)
  have hcase := store_cut (ps := bodyR v d.seen.length l) (q := headR v d.seen.length l) h.off h.loose (fun p hp => by
      unfold bodyR at hp
      obtain ⟨j, _, rfl⟩ := List.mem_map.1 hp
      have e := WalV.place_lt hok (1 + j)
      rw [hsl] at e
      refine ⟨?_, getD_cuts_short l j⟩
      show 2 * v.slot + _ < _
      rw [hsl]; omega) ⟨by
      have e := WalV.place_lt hok 0
      rw [hsl] at e
      show 2 * v.slot + _ < _
      rw [hsl]; omega, by
      show (recHead v.num l.length).length ≤ 32
      rw [hnum]
      have := recHead_len (num := num) (len := l.length) (by omega) (by omega)
      omega⟩
  obtain ⟨g1, g2, g3⟩ := add_go (d := d) hb
  have hlen : (d.storeD (bodyR v d.seen.length l) (headR v d.seen.length l)).seen.length = d.seen.length := storeD_length _ _
  have hst : stateOf d.seen slot (curS d.seen slot).1.toNat (curS d.seen slot).2.1.toNat = st := h.state
  -- a part of the body touches nothing that stands
  have hpart : ∀ W : List (Nat × List UInt8), (∀ p ∈ W, p ∈ (bodyR v d.seen.length l).map padP) → Opens (applyAll d.seen W) slot a st rs := fun W hW => by
    obtain ⟨p1, p2, p3⟩ := append_lost h.found hr (W := W) (fun p hp => by
      obtain ⟨q, hq, rfl⟩ := List.mem_map.1 (hW p hp)
      unfold bodyR at hq
      obtain ⟨j, hj, rfl⟩ := List.mem_map.1 hq
      rw [List.mem_range] at hj
      exact ⟨j, by omega, by show 2 * v.slot + _ = _; rw [hsl]⟩)
    exact opens_low hs1 hft (applyAll_length _ _) hst p1 p2 p3
  have hfull : Opens (applyAll d.seen ((bodyR v d.seen.length l ++ [headR v d.seen.length l]).map padP)) slot a st (rs ++ [l]) :=
    opens_low hs1 hft (applyAll_length _ _) hst f1 f2 f3
  rw [g1]
  rcases hcase with ⟨s0, s2, s3, s4, s5⟩ | ⟨s0, s1, s2, k, s3⟩ | ⟨s0, s1, s2, k, s3⟩
  · obtain ⟨e1, e2⟩ := g2 s0
    refine .inl ⟨e1, e2, ⟨s5, by rw [s2, s4, h.firm], s3, by rw [s2]; exact f1, ?_⟩, hlen⟩
    obtain ⟨v9, _, h9⟩ := hfull
    unfold openS
    rw [s2]; exact h9
  · obtain ⟨e1, e2⟩ := g3 s0
    refine .inr ⟨e1, e2, s1, hlen, by rw [s3, List.length_map, List.length_take]; unfold bodyR; rw [List.length_map, List.length_range]; omega, fun keep => .inl ?_⟩
    unfold DSt.crashF
    rw [s2, s3, h.firm]
    refine hpart _ (fun p hp => ?_)
    obtain ⟨q, hq, rfl⟩ := List.mem_map.1 (keepOf_mem hp)
    exact List.mem_map.2 ⟨q, List.mem_of_mem_take hq, rfl⟩
  · obtain ⟨e1, e2⟩ := g3 s0
    refine .inr ⟨e1, e2, s1, hlen, by rw [s3, List.length_map, List.length_take]; simp only [List.length_singleton]; omega, fun keep => ?_⟩
    unfold DSt.crashF
    rw [s2, s3, h.firm, List.map_take, List.map_cons, List.map_nil]
    rcases keepOf_one keep (padP (headR v d.seen.length l)) k with e | e
    · rw [e]; exact .inl (hpart _ (fun p hp => hp))
    · rw [e, ← applyAll_append]
      refine .inr ?_
      rw [List.map_append] at hfull
      exact hfull

theorem ck_cut {d : DSt} {slot a : Nat} {v : WalV} {st : List UInt8} {rs : List (List UInt8)} (h : KeepSt d slot a v st rs) {l : List UInt8} (hb : ckBad v l = 0) :
    (ckE v d l = 0 ∧ ckV v d l = ckN v ∧ KeepSt (ckD v d l) slot a (ckN v) l [] ∧ (ckD v d l).seen.length = d.seen.length) ∨
    (ckE v d l = 7 ∧ ckV v d l = v ∧ (ckD v d l).off = true ∧ (ckD v d l).seen.length = d.seen.length ∧ (ckD v d l).loose.length ≤ 100000 ∧ ∀ keep, Opens ((ckD v d l).crashF keep) slot a st rs ∨ Opens ((ckD v d l).crashF keep) slot a l []) := by
  obtain ⟨z1, z2, z3, z4⟩ := ckBad_zero hb
  have hok := h.found.ok
  have hsl := h.found.slot
  have hs1 := hok.s1
  have hft := hok.fit
  have hn1 := hok.n1
  have hnx := hok.next
  have hk1 := hok.k1
  have hg1 := hok.g1
  have hg2 := hok.g2
  rw [hsl] at z2 hs1 hft hnx
  obtain ⟨g, hg⟩ := Int.eq_ofNat_of_zero_le hg1
  have hgt : v.gen.toNat = g := by rw [hg, Int.toNat_natCast]
  obtain ⟨f1, f2, f3, _⟩ := checkpoint_found h.found (s := l) (g := g) (by omega) hg (by omega) z4
  obtain ⟨num, hnum⟩ := Int.eq_ofNat_of_zero_le (show 0 ≤ v.num by omega)
  have hes : (g + 1) % 2 * slot ≤ slot := by
    have : (g + 1) % 2 ≤ 1 := by omega
    calc (g + 1) % 2 * slot ≤ 1 * slot := Nat.mul_le_mul_right _ this
      _ = slot := Nat.one_mul _
  have hes2 : g % 2 * slot ≤ slot := by
    have : g % 2 ≤ 1 := by omega
    calc g % 2 * slot ≤ 1 * slot := Nat.mul_le_mul_right _ this
      _ = slot := Nat.one_mul _
  have hcs : secs l.length ≤ slot - 1 := secs_le (by omega)
  have hcase := store_cut (ps := bodyS slot g l) (q := headS v slot g l) h.off h.loose (fun p hp => by
      unfold bodyS at hp
      obtain ⟨j, hj, rfl⟩ := List.mem_map.1 hp
      rw [List.mem_range] at hj
      refine ⟨?_, getD_cuts_short l j⟩
      show (g + 1) % 2 * slot + 1 + j < _
      omega) ⟨by show (g + 1) % 2 * slot < _; omega, by
      show (slotHead ((g + 1 : Nat) : Int) l.length v.next v.num).length ≤ 32
      rw [hnum, slotHead_len (by omega) (by omega) (by omega) (by omega)]; omega⟩
  obtain ⟨g1, g2, g3⟩ := ck_go (d := d) hb
  rw [hsl, hgt] at g1 g2 g3
  have hN : ckN v = { v with gen := ((g + 1 : Nat) : Int), used := 0 } := by unfold ckN; rw [hgt]
  have hlen : (d.storeD (bodyS slot g l) (headS v slot g l)).seen.length = d.seen.length := storeD_length _ _
  have hst : stateOf d.seen slot (curS d.seen slot).1.toNat (curS d.seen slot).2.1.toNat = st := h.state
  have hpart : ∀ W : List (Nat × List UInt8), (∀ p ∈ W, p ∈ (bodyS slot g l).map padP) → Opens (applyAll d.seen W) slot a st rs := fun W hW => by
    obtain ⟨p1, p2, p3⟩ := checkpoint_lost (g := g) h.found hcs (W := W) (fun p hp => by
      obtain ⟨q, hq, rfl⟩ := List.mem_map.1 (hW p hp)
      unfold bodyS at hq
      obtain ⟨j, hj, rfl⟩ := List.mem_map.1 hq
      rw [List.mem_range] at hj
      exact ⟨j, hj, rfl⟩)
    refine ⟨v, p1, ?_⟩
    rw [p2, ← hst]
    have hk := curS_ok hs1 hft
    have := hk.l0
    have := hk.l1
    have hcg : (curS d.seen slot).1.toNat = g := by rw [← h.found.gen, hg, Int.toNat_natCast]
    have hlc : secs (curS d.seen slot).2.1.toNat ≤ slot - 1 := secs_le (by omega)
    rw [hcg]
    refine state_same (applyAll_length _ _) (by omega) (fun i hi => ?_)
    have := p3 (1 + i) (by omega)
    rw [← Nat.add_assoc] at this
    exact this
  have hfull : Opens (applyAll d.seen ((bodyS slot g l ++ [headS v slot g l]).map padP)) slot a l [] := ⟨_, f1, by
    rw [f2]
    simp only [Int.toNat_natCast]
    exact f3⟩
  rw [g1]
  rcases hcase with ⟨s0, s2, s3, s4, s5⟩ | ⟨s0, s1, s2, k, s3⟩ | ⟨s0, s1, s2, k, s3⟩
  · obtain ⟨e1, e2⟩ := g2 s0
    refine .inl ⟨e1, e2, ⟨s5, by rw [s2, s4, h.firm], s3, by rw [s2, hN]; exact f1, ?_⟩, hlen⟩
    obtain ⟨v9, _, h9⟩ := hfull
    unfold openS
    rw [s2]; exact h9
  · obtain ⟨e1, e2⟩ := g3 s0
    refine .inr ⟨e1, e2, s1, hlen, by rw [s3, List.length_map, List.length_take]; unfold bodyS; rw [List.length_map, List.length_range]; omega, fun keep => .inl ?_⟩
    unfold DSt.crashF
    rw [s2, s3, h.firm]
    refine hpart _ (fun p hp => ?_)
    obtain ⟨q, hq, rfl⟩ := List.mem_map.1 (keepOf_mem hp)
    exact List.mem_map.2 ⟨q, List.mem_of_mem_take hq, rfl⟩
  · obtain ⟨e1, e2⟩ := g3 s0
    refine .inr ⟨e1, e2, s1, hlen, by rw [s3, List.length_map, List.length_take]; simp only [List.length_singleton]; omega, fun keep => ?_⟩
    unfold DSt.crashF
    rw [s2, s3, h.firm, List.map_take, List.map_cons, List.map_nil]
    rcases keepOf_one keep (padP (headS v slot g l)) k with e | e
    · rw [e]; exact .inl (hpart _ (fun p hp => hp))
    · rw [e, ← applyAll_append]
      refine .inr ?_
      rw [List.map_append] at hfull
      exact hfull

/-! ### What else happens to it -/

theorem KeepSt.log {d : DSt} {slot a : Nat} {v : WalV} {st : List UInt8} {rs : List (List UInt8)} (h : KeepSt d slot a v st rs) (ha : d.armed = false) : LogSt d slot a v st rs := ⟨⟨h.off, ha⟩, h.found, h.state, h.loose⟩
theorem KeepSt.of_log {d : DSt} {slot a : Nat} {v : WalV} {st : List UInt8} {rs : List (List UInt8)} (h : LogSt d slot a v st rs) (hf : d.firm = d.seen) : KeepSt d slot a v st rs := ⟨h.on.off, hf, h.loose, h.found, h.state⟩
theorem KeepSt.arm {d : DSt} {slot a : Nat} {v : WalV} {st : List UInt8} {rs : List (List UInt8)} (h : KeepSt d slot a v st rs) (n : Int) : KeepSt (d.armD n) slot a v st rs := ⟨h.off, h.firm, h.loose, h.found, h.state⟩
/-- The power has gone in the midst of a call: whatever a crash keeps, one of the two is there. -/
structure CutSt (d : DSt) (slot a : Nat) (v : WalV) (st : List UInt8) (rs : List (List UInt8)) (st2 : List UInt8) (rs2 : List (List UInt8)) : Prop where
  off : d.off = true
  down : v.down = true
  disk : v.disk = a
  loose : d.loose.length ≤ 100000
  opens : ∀ keep, Opens (d.crashF keep) slot a st rs ∨ Opens (d.crashF keep) slot a st2 rs2
theorem CutSt.arm {d : DSt} {slot a : Nat} {v : WalV} {st st2 : List UInt8} {rs rs2 : List (List UInt8)} (h : CutSt d slot a v st rs st2 rs2) (n : Int) : CutSt (d.armD n) slot a v st rs st2 rs2 := ⟨h.off, h.down, h.disk, h.loose, h.opens⟩
/-- A log that is down refuses all. -/
theorem add_down {v : WalV} {d : DSt} {l : List UInt8} (h : v.down = true) : addE v d l = 7 ∧ addV v d l = v ∧ addD v d l = d := by
  have hb : addBad v d.seen.length l = 7 := by unfold addBad; rw [if_pos h]
  obtain ⟨e1, e2, e3⟩ := add_bad hb (by decide)
  exact ⟨e1, e3, e2⟩
theorem ck_down {v : WalV} {d : DSt} {l : List UInt8} (h : v.down = true) : ckE v d l = 7 ∧ ckV v d l = v ∧ ckD v d l = d := by
  have hb : ckBad v l = 7 := by unfold ckBad; rw [if_pos h]
  obtain ⟨e1, e2, e3⟩ := ck_bad (d := d) hb (by decide)
  exact ⟨e1, e3, e2⟩
/-- An append, whatever becomes of it: done; refused; or cut. -/
theorem add_keep {d : DSt} {slot a : Nat} {v : WalV} {st : List UInt8} {rs : List (List UInt8)} (h : KeepSt d slot a v st rs) {l : List UInt8} (hl : l.length ≤ 100000) :
    (addD v d l).seen.length = d.seen.length ∧ ((addE v d l = 0 ∧ KeepSt (addD v d l) slot a (addV v d l) st (rs ++ [l])) ∨ (addE v d l ≠ 0 ∧ addE v d l ≠ 7 ∧ KeepSt (addD v d l) slot a (addV v d l) st rs) ∨
    (addE v d l = 7 ∧ CutSt (addD v d l) slot a { addV v d l with down := true } st rs st (rs ++ [l]))) := by
  by_cases h0 : addBad v d.seen.length l = 0
  · rcases add_cut h h0 hl with ⟨e1, e2, e3, e5⟩ | ⟨e1, e2, e3, e5, e6, e4⟩
    · exact ⟨e5, .inl ⟨e1, by rw [e2]; exact e3⟩⟩
    · exact ⟨e5, .inr (.inr ⟨e1, ⟨e3, rfl, by rw [e2]; exact h.found.disk, e6, e4⟩⟩)⟩
  · obtain ⟨e1, e2, e3⟩ := add_bad (v := v) (d := d) (l := l) rfl h0
    refine ⟨by rw [e2], .inr (.inl ⟨by rw [e1]; exact h0, ?_, by rw [e2, e3]; exact h⟩)⟩
    rw [e1]
    intro e
    have hd := h.found.down
    unfold addBad at e
    rw [if_neg (by rw [hd]; simp)] at e
    split at e
    · exact absurd e (by decide)
    · split at e
      · exact absurd e (by decide)
      · exact absurd e (by decide)
theorem ck_keep {d : DSt} {slot a : Nat} {v : WalV} {st : List UInt8} {rs : List (List UInt8)} (h : KeepSt d slot a v st rs) {l : List UInt8} :
    (ckD v d l).seen.length = d.seen.length ∧ ((ckE v d l = 0 ∧ KeepSt (ckD v d l) slot a (ckV v d l) l []) ∨ (ckE v d l ≠ 0 ∧ ckE v d l ≠ 7 ∧ KeepSt (ckD v d l) slot a (ckV v d l) st rs) ∨
    (ckE v d l = 7 ∧ CutSt (ckD v d l) slot a { ckV v d l with down := true } st rs l [])) := by
  by_cases h0 : ckBad v l = 0
  · rcases ck_cut h h0 with ⟨e1, e2, e3, e5⟩ | ⟨e1, e2, e3, e5, e6, e4⟩
    · exact ⟨e5, .inl ⟨e1, by rw [e2]; exact e3⟩⟩
    · exact ⟨e5, .inr (.inr ⟨e1, ⟨e3, rfl, by rw [e2]; exact h.found.disk, e6, e4⟩⟩)⟩
  · obtain ⟨e1, e2, e3⟩ := ck_bad (v := v) (d := d) (l := l) rfl h0
    refine ⟨by rw [e2], .inr (.inl ⟨by rw [e1]; exact h0, ?_, by rw [e2, e3]; exact h⟩)⟩
    rw [e1]
    intro e
    have hd := h.found.down
    unfold ckBad at e
    rw [if_neg (by rw [hd]; simp)] at e
    split at e
    · exact absurd e (by decide)
    · split at e
      · exact absurd e (by decide)
      · exact absurd e (by decide)
end Go.Proofs.YtlelfakememckaaGreatDoor

namespace Go.Proofs.YtlelfakememckaaGreatDoor
open Go.RowKit Lib
end Go.Proofs.YtlelfakememckaaGreatDoor

namespace Go.Proofs.YtlelfakememckaaGreatDoor

theorem ok_puts : ∀ (ps : List (Nat × List UInt8)) {d : DSt}, d.Ok → (d.putsD ps).Ok
  | [], _, h => h
  | p :: ps, d, h => by
    unfold DSt.putsD
    split
    · exact ok_puts ps (h.writeD _ _)
    · exact h.writeD _ _
theorem ok_firm {d : DSt} (h : d.Ok) (ps : List (Nat × List UInt8)) : (d.firmD ps).Ok := by
  unfold DSt.firmD
  split
  · exact (ok_puts ps h).flushD
  · exact ok_puts ps h
theorem ok_store {d : DSt} (h : d.Ok) (ps : List (Nat × List UInt8)) (q : Nat × List UInt8) : (d.storeD ps q).Ok := by
  unfold DSt.storeD
  split
  · exact ok_firm (ok_firm h ps) [q]
  · exact ok_firm h ps
theorem tru_puts : ∀ (ps : List (Nat × List UInt8)) {d : DSt}, d.Tru → (d.putsD ps).Tru
  | [], _, h => h
  | p :: ps, d, h => by
    unfold DSt.putsD
    split
    · exact tru_puts ps (h.writeD _ _)
    · exact h.writeD _ _
theorem tru_firm {d : DSt} (h : d.Tru) (ps : List (Nat × List UInt8)) : (d.firmD ps).Tru := by
  unfold DSt.firmD
  split
  · exact (tru_puts ps h).flushD
  · exact tru_puts ps h
theorem tru_store {d : DSt} (h : d.Tru) (ps : List (Nat × List UInt8)) (q : Nat × List UInt8) : (d.storeD ps q).Tru := by
  unfold DSt.storeD
  split
  · exact tru_firm (tru_firm h ps) [q]
  · exact tru_firm h ps
theorem ok_add {d : DSt} (h : d.Ok) (v : WalV) (l : List UInt8) : (addD v d l).Ok := by unfold addD; split; exact ok_store h _ _; exact h
theorem tru_add {d : DSt} (h : d.Tru) (v : WalV) (l : List UInt8) : (addD v d l).Tru := by unfold addD; split; exact tru_store h _ _; exact h
theorem ok_ck {d : DSt} (h : d.Ok) (v : WalV) (l : List UInt8) : (ckD v d l).Ok := by unfold ckD; split; exact ok_store h _ _; exact h
theorem tru_ck {d : DSt} (h : d.Tru) (v : WalV) (l : List UInt8) : (ckD v d l).Tru := by unfold ckD; split; exact tru_store h _ _; exact h

/-- The power is on, armed or not; the log stands firm on its disk. -/
def Live (d : DSt) (slot a : Nat) (v : WalV) : Prop := ∃ st rs, KeepSt d slot a v st rs
/-- The power has gone; whatever a crash keeps, a log is there. -/
structure Gone (d : DSt) (slot a : Nat) (v : WalV) : Prop where
  off : d.off = true
  down : v.down = true
  disk : v.disk = a
  loose : d.loose.length ≤ 100000
  opens : ∀ keep, ∃ st rs, Opens (d.crashF keep) slot a st rs
section
variable {d : DSt} {slot a : Nat} {v : WalV}
theorem Live.off (h : Live d slot a v) : d.off = false := by obtain ⟨_, _, h⟩ := h; exact h.off
theorem Live.loose (h : Live d slot a v) : d.loose = [] := by obtain ⟨_, _, h⟩ := h; exact h.loose
theorem Live.ok (h : Live d slot a v) : v.Ok d.seen.length := by obtain ⟨_, _, h⟩ := h; exact h.found.ok
theorem Live.slotIs (h : Live d slot a v) : v.slot = slot := by obtain ⟨_, _, h⟩ := h; exact h.found.slot
theorem Live.disk (h : Live d slot a v) : v.disk = a := by obtain ⟨_, _, h⟩ := h; exact h.found.disk
theorem Live.down (h : Live d slot a v) : v.down = false := by obtain ⟨_, _, h⟩ := h; exact h.found.down
/-- What an Open tells is what the log knows. -/
theorem Live.opens (h : Live d slot a v) : openV a d slot = v := by obtain ⟨_, _, h⟩ := h; exact h.found.opens.1
theorem CutSt.gone {st st2 : List UInt8} {rs rs2 : List (List UInt8)} (h : CutSt d slot a v st rs st2 rs2) : Gone d slot a v :=
  ⟨h.off, h.down, h.disk, h.loose, fun keep => (h.opens keep).elim (fun e => ⟨_, _, e⟩) (fun e => ⟨_, _, e⟩)⟩
theorem Live.add (h : Live d slot a v) {l : List UInt8} (hl : l.length ≤ 100000) : (addD v d l).seen.length = d.seen.length ∧ (addE v d l = 7 → Gone (addD v d l) slot a { addV v d l with down := true }) ∧ (addE v d l ≠ 7 → Live (addD v d l) slot a (addV v d l)) := by
  obtain ⟨st, rs, h⟩ := h
  obtain ⟨h1, h2⟩ := add_keep h hl
  refine ⟨h1, fun e => ?_, fun e => ?_⟩
  · rcases h2 with ⟨e0, _⟩ | ⟨_, e7, _⟩ | ⟨_, hc⟩
    · omega
    · exact absurd e e7
    · exact hc.gone
  · rcases h2 with ⟨_, hk⟩ | ⟨_, _, hk⟩ | ⟨e7, _⟩
    · exact ⟨_, _, hk⟩
    · exact ⟨_, _, hk⟩
    · exact absurd e7 e
theorem Live.ck (h : Live d slot a v) {l : List UInt8} : (ckD v d l).seen.length = d.seen.length ∧ (ckE v d l = 7 → Gone (ckD v d l) slot a { ckV v d l with down := true }) ∧ (ckE v d l ≠ 7 → Live (ckD v d l) slot a (ckV v d l)) := by
  obtain ⟨st, rs, h⟩ := h
  obtain ⟨h1, h2⟩ := ck_keep h (l := l)
  refine ⟨h1, fun e => ?_, fun e => ?_⟩
  · rcases h2 with ⟨e0, _⟩ | ⟨_, e7, _⟩ | ⟨_, hc⟩
    · omega
    · exact absurd e e7
    · exact hc.gone
  · rcases h2 with ⟨_, hk⟩ | ⟨_, _, hk⟩ | ⟨e7, _⟩
    · exact ⟨_, _, hk⟩
    · exact ⟨_, _, hk⟩
    · exact absurd e7 e
theorem Live.arm (h : Live d slot a v) (n : Int) : Live (d.armD n) slot a v := by obtain ⟨st, rs, h⟩ := h; exact ⟨st, rs, h.arm n⟩
theorem Gone.arm (h : Gone d slot a v) (n : Int) : Gone (d.armD n) slot a v := ⟨h.off, h.down, h.disk, h.loose, h.opens⟩
theorem live_of_opens {keep : List Bool} {st : List UInt8} {rs : List (List UInt8)} (h : Opens (d.crashF keep) slot a st rs) : Live (d.crashD keep) slot a (openV a (d.crashD keep) slot) := by
  obtain ⟨v', hv⟩ := KeepSt.of_opens h
  rw [hv.found.opens.1]
  exact ⟨_, _, hv⟩
/-- Behind a crash a log is there, whatever was. -/
theorem Live.crash (h : Live d slot a v) (keep : List Bool) : Live (d.crashD keep) slot a (openV a (d.crashD keep) slot) := by obtain ⟨st, rs, h⟩ := h; exact live_of_opens (h.crash keep)
theorem Gone.crash (h : Gone d slot a v) (keep : List Bool) : Live (d.crashD keep) slot a (openV a (d.crashD keep) slot) := by obtain ⟨st, rs, h⟩ := h.opens keep; exact live_of_opens h
theorem live_new {n : Nat} (hs : 2 ≤ slot) (hm : 3 ≤ n) (hn : 2 * slot + n ≤ 4096) : Live (DSt.new (2 * slot + n)) slot a ⟨a, slot, 0, 1, 0, 0, false⟩ :=
  ⟨[], [], ⟨rfl, rfl, rfl, (new_found slot n a hs hm hn).1, by unfold openS; rw [(new_found slot n a hs hm hn).2]; exact List.take_zero⟩⟩
end
end Go.Proofs.YtlelfakememckaaGreatDoor
