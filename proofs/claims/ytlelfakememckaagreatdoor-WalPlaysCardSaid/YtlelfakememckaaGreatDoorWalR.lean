/- Contract of addRecord. -/
import Derived.Test.YtlelfakememckaaGreatDoorWalQ
namespace Go.Proofs.YtlelfakememckaaGreatDoor
open Go.RowKit

theorem Tryz.infoWrite6 : (Tryz.prog.info? 131).map (fun i => (i.zero, i.size, i.bytes)) = some (some (.agg #[.int .i64 0, .string ⟨#[]⟩]), 2, 24) := by kernel_rfl

/-- What a call on a log leaves. -/
def LogEnd (w : World) (F : Nat → Prop) (a : Nat) (v : WalV) (d : DSt) (x : Value) (e : Ending) (w' : World) : Prop :=
  e = .returned x ∧ ∃ F', LogAt w' F' a v d ∧ ¬ F' a ∧ Moves (fun q => F q ∨ q = a) w w' ∧ ∀ k, F' k → F k ∨ w.heap.size ≤ k
theorem LogEnd.same {w w' : World} {F : Nat → Prop} {a : Nat} {v : WalV} {d : DSt} {x : Value} (h : LogAt w F a v d) (hF : ¬ F a) (hb : Below w.heap.size w w') : LogEnd w F a v d x (.returned x) w' :=
  ⟨rfl, F, h.later hb, hF, Moves.of_below hb, fun _ h => Or.inl h⟩
theorem size_later {w : World} {F : Nat → Prop} {a : Nat} {v : WalV} {d : DSt} (h : LogAt w F a v d) : Calls Tryz.prog 78 #[.pointer (some ⟨a, 0, none⟩)] w fun e w' => e = .returned (.int .i64 ((d.seen.length : Int) - 2 * (v.slot : Int))) ∧ Below w.heap.size w w' :=
  (size_any h).mono (fun _ _ ⟨he, m, hm⟩ => ⟨he, by rw [hm]; exact below_drawsW w m⟩)

/-- Why a record is refused. -/
def addBad (v : WalV) (n : Nat) (l : List UInt8) : Int :=
  if v.down = true then 7 else if 32 * ((n : Int) - 2 * (v.slot : Int) - 2) < (l.length : Int) then 5 else if (n : Int) - 2 * (v.slot : Int) - (v.used : Int) - 1 < ((1 + secs l.length : Nat) : Int) ∨ 1099511627776 < v.num then 6 else 0
def addE (v : WalV) (d : DSt) (l : List UInt8) : Int := if addBad v d.seen.length l = 0 then (if d.storeE (bodyR v d.seen.length l) (headR v d.seen.length l) = true then 0 else 7) else addBad v d.seen.length l
def addD (v : WalV) (d : DSt) (l : List UInt8) : DSt := if addBad v d.seen.length l = 0 then d.storeD (bodyR v d.seen.length l) (headR v d.seen.length l) else d
def addV (v : WalV) (d : DSt) (l : List UInt8) : WalV := if addE v d l = 0 then v.pass d.seen.length l.length else v
theorem add_bad {v : WalV} {d : DSt} {l : List UInt8} {k : Int} (h : addBad v d.seen.length l = k) (hk : k ≠ 0) : addE v d l = k ∧ addD v d l = d ∧ addV v d l = v := by
  have e : addE v d l = k := by unfold addE; rw [h, if_neg hk]
  exact ⟨e, by unfold addD; rw [h, if_neg hk], by unfold addV; rw [e, if_neg hk]⟩
theorem add_go {v : WalV} {d : DSt} {l : List UInt8} (h : addBad v d.seen.length l = 0) : addD v d l = d.storeD (bodyR v d.seen.length l) (headR v d.seen.length l) ∧
    (d.storeE (bodyR v d.seen.length l) (headR v d.seen.length l) = true → addE v d l = 0 ∧ addV v d l = v.pass d.seen.length l.length) ∧
    (d.storeE (bodyR v d.seen.length l) (headR v d.seen.length l) = false → addE v d l = 7 ∧ addV v d l = v) := by
  refine ⟨by unfold addD; rw [if_pos h], fun h2 => ?_, fun h2 => ?_⟩
  · have e : addE v d l = 0 := by unfold addE; rw [if_pos h, if_pos h2]
    exact ⟨e, by unfold addV; rw [if_pos e]⟩
  · have e : addE v d l = 7 := by unfold addE; rw [if_pos h, h2]; rfl
    exact ⟨e, by unfold addV; rw [e]; rfl⟩
theorem addBad_zero {v : WalV} {n : Nat} {l : List UInt8} (h : addBad v n l = 0) : v.down = false ∧ (l.length : Int) ≤ 32 * ((n : Int) - 2 * (v.slot : Int) - 2) ∧ ((1 + secs l.length : Nat) : Int) ≤ (n : Int) - 2 * (v.slot : Int) - (v.used : Int) - 1 ∧ v.num ≤ 1099511627776 := by
  unfold addBad at h
  split at h
  · cases h
  · rename_i h1
    split at h
    · cases h
    · rename_i h2
      split at h
      · cases h
      · rename_i h3
        exact ⟨by simpa using h1, by omega, by omega, by omega⟩

def bodyT (v : WalV) (n : Nat) (l : List UInt8) (i : Nat) : List (Nat × List UInt8) := (List.range i).map (fun j => (2 * v.slot + v.place n (1 + j), (cutsOf l).getD j []))
theorem bodyT_succ (v : WalV) (n : Nat) (l : List UInt8) (i : Nat) : bodyT v n l (i + 1) = bodyT v n l i ++ [(2 * v.slot + v.place n (1 + i), (cutsOf l).getD i [])] := by
  unfold bodyT; rw [List.range_succ, List.map_append]; rfl
theorem putCells_snoc (ps : List (Nat × List UInt8)) (p : Nat × List UInt8) : putCells (ps ++ [p]) = putCells ps ++ [.int .i64 (p.1 : Int), .string (str p.2)] := by
  unfold putCells; rw [List.map_append, List.flatten_append]; rfl
theorem storeD_length {d : DSt} (ps : List (Nat × List UInt8)) (q : Nat × List UInt8) : (d.storeD ps q).seen.length = d.seen.length := by
  have hw : ∀ (d : DSt) i s, (d.writeD i s).seen.length = d.seen.length := fun d i s => by
    unfold DSt.writeD
    split
    · rfl
    · split
      · show (d.spent.seen.set _ _).length = _; rw [List.length_set, DSt.spent_seen]
      · rw [DSt.spent_seen]
  have hp : ∀ (ps : List (Nat × List UInt8)) (d : DSt), (d.putsD ps).seen.length = d.seen.length := fun ps => by
    induction ps with
    | nil => intro d; rfl
    | cons p ps ih =>
      intro d
      unfold DSt.putsD
      split
      · rw [ih, hw]
      · exact hw _ _ _
  have hf : ∀ (d : DSt), d.flushD.seen.length = d.seen.length := fun d => by
    unfold DSt.flushD
    split
    · rfl
    · split
      · show d.spent.seen.length = _; rw [DSt.spent_seen]
      · rw [DSt.spent_seen]
  have hm : ∀ (ps : List (Nat × List UInt8)) (d : DSt), (d.firmD ps).seen.length = d.seen.length := fun ps d => by
    unfold DSt.firmD
    split
    · rw [hf, hp]
    · exact hp _ _
  unfold DSt.storeD
  split
  · rw [hm, hm]
  · exact hm _ _

set_option maxHeartbeats 8000000 in
set_option maxRecDepth 100000 in
theorem addRecord_any {w : World} {F : Nat → Prop} {a : Nat} {v : WalV} {d : DSt} (h : LogAt w F a v d) (hF : ¬ F a) (l : List UInt8) (hl : l.length ≤ 100000) (hlo : d.loose.length ≤ 100000) :
    Calls Tryz.prog 51 #[.pointer (some ⟨a, 0, none⟩), .string (str l)] w (LogEnd w F a (addV v d l) (addD v d l) (.int .i64 (addE v d l))) := by
  have HL0 := Lib.hid h
  have HF := Lib.hid hF
  have halt : a < w.heap.size := heap_lt h.wal
  have HLow : Hid (∀ k, F k → k < w.heap.size) := Lib.hid h.disk.low
  obtain ⟨c0, c1, c2, c3, c4, c5, c6, cf⟩ := h.wal.cells
  have hok := h.ok
  have hn1 := hok.n1
  have hs1 := hok.s1
  have hft := hok.fit
  have hus := hok.used
  have hk1 := hok.k1
  have hk2 := hok.k2
  obtain ⟨n, hn⟩ : ∃ n, d.seen.length = n := ⟨_, rfl⟩
  have HN := Lib.hid hn
  rw [hn] at hn1 hft hus
  have hsl := str_size l
  obtain ⟨R, hR⟩ : ∃ R, str l = R := ⟨_, rfl⟩
  have HR := Lib.hid hR
  rw [hR] at hsl ⊢
  obtain ⟨N, hN⟩ : ∃ N, l.length = N := ⟨_, rfl⟩
  have HNl := Lib.hid hN
  rw [hN] at hsl hl
  have hsz : (R.size : Int) = (N : Int) := by omega
  clear h hF hok hR hN
  cases hd : v.down with
  | true =>
    have HE := Lib.hid (add_bad (v := v) (d := d) (l := l) (k := 7) (by unfold addBad; rw [if_pos hd]) (by decide))
    rw [hd] at c6
    clear hd hn
    go_enter Tryz.func51, Tryz.ntmps51
    go_wp2_with fail
    go_ret
    rw [HE.out.1, HE.out.2.1, HE.out.2.2]
    exact LogEnd.same HL0.out HF.out (Below.refl _ _)
  | false =>
    rw [hd] at c6
    have HSz : Hid (Calls Tryz.prog 78 #[.pointer (some ⟨a, 0, none⟩)] w fun e w' => e = .returned (.int .i64 ((n : Int) - 2 * (v.slot : Int))) ∧ Below w.heap.size w w') := Lib.hid (by
      have := size_later HL0.out
      rw [hn] at this
      exact this)
    by_cases hlong : 32 * ((n : Int) - 2 * (v.slot : Int) - 2) < (N : Int)
    · have HE := Lib.hid (add_bad (v := v) (d := d) (l := l) (k := 5) (by unfold addBad; rw [if_neg (by rw [hd]; simp), if_pos (by rw [hn, HNl.out]; exact hlong)]) (by decide))
      clear hd hn
      go_enter Tryz.func51, Tryz.ntmps51
      go_wp2_with fail
      refine HSz.out.mono ?_
      rintro e w1 ⟨rfl, hb1⟩
      have HB1 := Lib.hid hb1
      clear hb1
      go_wp2_with fail
      refine (longestRecord_any _ _ (by omega) (by omega)).mono ?_
      rintro e w' ⟨rfl, rfl⟩
      go_wp2_with fail
      go_ret
      rw [HE.out.1, HE.out.2.1, HE.out.2.2]
      exact LogEnd.same HL0.out HF.out HB1.out
    · have hlongz : decide (32 * ((n : Int) - 2 * (v.slot : Int) - 2) < (N : Int)) = false := decide_eq_false hlong
      have HFr : Hid (∀ w1, Below w.heap.size w w1 → Calls Tryz.prog 52 #[.pointer (some ⟨a, 0, none⟩)] w1 fun e w' => e = .returned (.int .i64 ((n : Int) - 2 * (v.slot : Int) - (v.used : Int))) ∧ Below w.heap.size w w') := Lib.hid (fun w1 hb => by
        have := free_later (HL0.out.later hb)
        rw [hn] at this
        exact this.mono (fun _ _ h => ⟨h.1, below_next hb h.2⟩))
      obtain ⟨c, hc⟩ : ∃ c, secs N = c := ⟨_, rfl⟩
      have hcle : c ≤ 100000 := by rw [← hc]; unfold secs; omega
      obtain ⟨pc, hpc⟩ : ∃ pc, 1 + c = pc := ⟨_, rfl⟩
      have hpcle : pc ≤ 100001 := by omega
      have HPo : Hid (∀ w', Calls Tryz.prog 63 #[.int .i64 N] w' fun e w'' => e = .returned (.int .i64 pc) ∧ w' = w'') := Lib.hid (fun w' => by
        have := positionsOf_any N w' (by omega)
        rw [hc, hpc] at this
        exact this)
      have HC := Lib.hid hc
      have HPc := Lib.hid hpc
      clear hc hpc
      by_cases hfull : (n : Int) - 2 * (v.slot : Int) - (v.used : Int) - 1 < (pc : Int)
      · have HE := Lib.hid (add_bad (v := v) (d := d) (l := l) (k := 6) (by unfold addBad; rw [if_neg (by rw [hd]; simp), if_neg (by rw [hn, HNl.out]; exact hlong), if_pos (by rw [hn, HNl.out, HC.out, HPc.out]; exact Or.inl hfull)]) (by decide))
        clear hd hn
        go_enter Tryz.func51, Tryz.ntmps51
        go_wp2_with fail
        refine HSz.out.mono ?_
        rintro e w1 ⟨rfl, hb1⟩
        have HB1 := Lib.hid hb1
        clear hb1
        go_wp2_with fail
        refine (longestRecord_any _ _ (by omega) (by omega)).mono ?_
        rintro e w' ⟨rfl, rfl⟩
        go_wp2_with fail
        refine (HPo.out _).mono ?_
        rintro e w' ⟨rfl, rfl⟩
        go_wp2_with fail
        refine (HFr.out _ HB1.out).mono ?_
        rintro e w2 ⟨rfl, hb2⟩
        have HB2 := Lib.hid hb2
        clear hb2
        go_wp2_with fail
        go_ret
        rw [HE.out.1, HE.out.2.1, HE.out.2.2]
        exact LogEnd.same HL0.out HF.out HB2.out
      · have hfullz : decide ((n : Int) - 2 * (v.slot : Int) - (v.used : Int) - 1 < (pc : Int)) = false := decide_eq_false hfull
        have HD3 : Hid (∀ w1, Below w.heap.size w w1 → w1.cell? ⟨a, 3, none⟩ = some (.int .i64 v.num) ∧ w1.cell? ⟨a, 0, none⟩ = some (.pointer (some ⟨v.disk, 0, none⟩))) := Lib.hid (fun w1 hb => by
          obtain ⟨q0, _, _, q3, _⟩ := ((HL0.out.later hb).wal).cells
          exact ⟨q3, q0⟩)
        by_cases hnum : 1099511627776 < v.num
        · have HE := Lib.hid (add_bad (v := v) (d := d) (l := l) (k := 6) (by unfold addBad; rw [if_neg (by rw [hd]; simp), if_neg (by rw [hn, HNl.out]; exact hlong), if_pos (Or.inr hnum)]) (by decide))
          clear hd hn
          go_enter Tryz.func51, Tryz.ntmps51
          go_wp2_with fail
          refine HSz.out.mono ?_
          rintro e w1 ⟨rfl, hb1⟩
          have HB1 := Lib.hid hb1
          clear hb1
          go_wp2_with fail
          refine (longestRecord_any _ _ (by omega) (by omega)).mono ?_
          rintro e w' ⟨rfl, rfl⟩
          go_wp2_with fail
          refine (HPo.out _).mono ?_
          rintro e w' ⟨rfl, rfl⟩
          go_wp2_with fail
          refine (HFr.out _ HB1.out).mono ?_
          rintro e w2 ⟨rfl, hb2⟩
          have HB2 := Lib.hid hb2
          obtain ⟨x3, x0⟩ := HD3.out w2 hb2
          clear hb2
          go_wp2_with fail
          go_ret
          rw [HE.out.1, HE.out.2.1, HE.out.2.2]
          exact LogEnd.same HL0.out HF.out HB2.out
        · have hnumz : decide (1099511627776 < v.num) = false := decide_eq_false hnum
          have hbad : addBad v d.seen.length l = 0 := by
            unfold addBad
            rw [if_neg (by rw [hd]; simp), if_neg (by rw [hn, HNl.out]; exact hlong), if_neg (by rw [hn, HNl.out, HC.out, HPc.out]; exact fun hh => hh.elim hfull hnum)]
          have HG := Lib.hid (add_go hbad)
          rw [hn] at HG
          clear hbad
          have HCut : Hid (∀ w', Calls Tryz.prog 73 #[.string R] w' (StrsEnd (cutsOf l) w')) := Lib.hid (fun w' => by
            have := cut_any l w' (by rw [HNl.out]; omega)
            rw [HR.out] at this
            exact this)
          have HCn : Hid ((cutsOf l).length = c) := Lib.hid (by rw [cuts_count, HNl.out, HC.out])
          have HSec : Hid (∀ k : Nat, k ≤ 1099511627776 → ∀ w1, Below w.heap.size w w1 → Calls Tryz.prog 62 #[.pointer (some ⟨a, 0, none⟩), .int .i64 k] w1 fun e w' => e = .returned (.int .i64 (2 * v.slot + v.place n k : Nat)) ∧ Below w.heap.size w w') := Lib.hid (fun k hk w1 hb => by
            have := sector_later (HL0.out.later hb) k hk
            rw [hn] at this
            exact this.mono (fun _ _ h => ⟨h.1, below_next hb h.2⟩))
          have hplt : ∀ k, 2 * v.slot + v.place n k < n := fun k => by have := WalV.place_lt HL0.out.ok k; rw [hn] at this; omega
          have HPlt := Lib.hid hplt
          obtain ⟨i0, hi0', hz0, hz1, hz2⟩ := info_parts Tryz.infoWrite6
          have HBody : Hid (bodyT v n l pc = bodyR v n l) := Lib.hid (by unfold bodyT bodyR; rw [HNl.out, HC.out, ← HPc.out, Nat.add_comm])
          have HBs : Hid (bodyT v n l pc = bodyT v n l c ++ [(2 * v.slot + v.place n pc, [])]) := Lib.hid (by
            rw [← HPc.out, Nat.add_comm 1 c, bodyT_succ, Nat.add_comm 1 c, List.getD_eq_getElem?_getD, List.getElem?_eq_none (by rw [HCn.out]; omega)]; rfl)
          have HBl : Hid (∀ i, (bodyT v n l i).length = i) := Lib.hid (fun i => by unfold bodyT; simp)
          have hcpc : c + 1 = pc := by have := HPc.out; omega
          have HDl : Hid (∀ ps q, (d.storeD ps q).seen.length = n) := Lib.hid (fun ps q => by rw [storeD_length, hn])
          have HOk := Lib.hid HL0.out.ok
          have HDk := Lib.hid HL0.out.disk
          clear hd hn hplt
          go_enter Tryz.func51, Tryz.ntmps51
          go_wp2_with fail
          refine HSz.out.mono ?_
          rintro e w1 ⟨rfl, hb1⟩
          have HB1 := Lib.hid hb1
          clear hb1
          go_wp2_with fail
          refine (longestRecord_any _ _ (by omega) (by omega)).mono ?_
          rintro e w' ⟨rfl, rfl⟩
          go_wp2_with fail
          refine (HPo.out _).mono ?_
          rintro e w' ⟨rfl, rfl⟩
          go_wp2_with fail
          refine (HFr.out _ HB1.out).mono ?_
          rintro e w2 ⟨rfl, hb2⟩
          have HB2 := Lib.hid hb2
          obtain ⟨x3, x0⟩ := HD3.out w2 hb2
          clear hb2
          go_wp2_with fail
          refine (HCut.out _).mono ?_
          rintro e w3 ⟨A3, c3', rfl, hl3, hb3⟩
          have HB3 : Hid (Below w.heap.size w w3) := Lib.hid (below_next HB2.out hb3)
          have HA3 := Lib.hid hl3
          have hw3 : w.heap.size ≤ w3.heap.size := HB3.out.size
          clear hb3 hl3 x3 x0
          rw [HCn.out]
          go_wp2_with fail
          go_loopg [5, 39] c (fun kx s5 s39 wr => ∃ i : Nat, s39 = .int .i64 i ∧ i ≤ c ∧ c - i ≤ kx ∧ Hid (wr.ownsRow w3.heap.size 131 2 s5 i (putCells (bodyT v n l i))) ∧ Hid (Below w3.heap.size w3 wr))
          case atStart => exact ⟨0, rfl, Nat.zero_le _, by omega, Lib.hid (World.ownsRow_nil _ _ _ _), Lib.hid (Below.refl _ _)⟩
          case round =>
            obtain ⟨i, rfl, hi, hki, HO, HBi⟩ := hrel
            obtain ⟨A5, c5, h5, hxx⟩ := own_lies HO.out
            clear hxx
            subst h5
            have hwi : w3.heap.size ≤ wr.heap.size := HBi.out.size
            have HBw : Hid (Below w.heap.size w wr) := Lib.hid (HB3.out.trans (HBi.out.mono hw3))
            by_cases hlt : i < c
            · have hltz : (i : Int) < (c : Int) := by omega
              have hi0 : (0 : Int) ≤ (i : Int) := Int.natCast_nonneg _
              have hic : i < (cutsOf l).length := by rw [HCn.out]; exact hlt
              obtain ⟨b3, off3, hA3, hb3, hc3⟩ := HA3.out.at_ (by intro e; rw [List.map_eq_nil_iff] at e; rw [e] at hic; simp at hic)
              have x1 : wr.cell? ⟨b3, off3 + i, none⟩ = some (.string (str ((cutsOf l).getD i []))) := by
                rw [HBi.out.cell (p := ⟨b3, off3 + i, none⟩) hb3, hc3 i (by rw [List.length_map]; exact hic), List.getElem_map, List.getD_eq_getElem?_getD, List.getElem?_eq_getElem hic]
                rfl
              subst hA3
              obtain ⟨p, hp⟩ : ∃ p, 2 * v.slot + v.place n (1 + i) = p := ⟨_, rfl⟩
              have HSi : Hid (Calls Tryz.prog 62 #[.pointer (some ⟨a, 0, none⟩), .int .i64 (1 + (i : Int))] wr fun e w' => e = .returned (.int .i64 p) ∧ Below w.heap.size w w') := Lib.hid (by
                have := HSec.out (1 + i) (by omega) wr HBw.out
                rw [hp, show ((1 + i : Nat) : Int) = 1 + (i : Int) from by omega] at this
                exact this)
              have HSi2 : Hid (∀ w', Below wr.heap.size wr w' → Below w3.heap.size w3 w') := Lib.hid (fun w' hb => HBi.out.trans (hb.mono hwi))
              have HSl : Hid (Calls Tryz.prog 62 #[.pointer (some ⟨a, 0, none⟩), .int .i64 (1 + (i : Int))] wr fun e w' => e = .returned (.int .i64 p) ∧ Below wr.heap.size wr w') := Lib.hid (by
                have := sector_later (HL0.out.later HBw.out) (1 + i) (by omega)
                rw [show d.seen.length = n from HN.out, hp, show ((1 + i : Nat) : Int) = 1 + (i : Int) from by omega] at this
                exact this)
              have HSuc : Hid (bodyT v n l (i + 1) = bodyT v n l i ++ [(p, (cutsOf l).getD i [])]) := Lib.hid (by rw [bodyT_succ, hp])
              obtain ⟨S, hS⟩ : ∃ S, (cutsOf l).getD i [] = S := ⟨_, rfl⟩
              rw [hS] at x1 HSuc
              clear hp hS hc3 hic HSi
              go_wp2_with fail
              refine HSl.out.mono ?_
              rintro e w4 ⟨rfl, hb4⟩
              have HB4 : Hid (Below w3.heap.size w3 w4) := Lib.hid (HSi2.out _ hb4)
              have HO4 : Hid (w4.ownsRow w3.heap.size 131 2 (.slice A5 i c5) i (putCells (bodyT v n l i))) := Lib.hid (own_kept HO.out hb4)
              have hw4 : w3.heap.size ≤ w4.heap.size := HB4.out.size
              clear hb4 x1 HSl HSi2
              go_wp2_with (at_builtin; refine wpList_append_own _ rfl (.tmp 44) (.tmp 51) 128 rfl w3.heap.size 131 i0 (.agg #[.int .i64 0, .string ByteArray.empty]) 2 24 Tryz.underlying128 hi0' hz0 hz1 hz2 rfl (by decide) (.slice A5 i c5) i (putCells (bodyT v n l i)) rfl (HO4.out.alloc _) ⟨w4.heap.size, 0, none⟩ 1 1 [.int .i64 p, .string (str S)] rfl rfl ?c3 (by intro u hu; simp at hu; rcases hu with rfl | rfl <;> rfl) ?c4 ?c5 ?c6 ?_)
              case c3 =>
                intro j u hj
                rw [WideShapes.add_plain, Nat.zero_add, Lib.cell_of_heap (heap_alloc_new _ _)]
                simpa using hj
              case c4 => unfold maxLen; omega
              case c5 => omega
              case c6 => simp; omega
              intro v6 w6 hown hg _
              have HO6 : Hid (w6.ownsRow w3.heap.size 131 2 v6 (i + 1) (putCells (bodyT v n l (i + 1)))) := Lib.hid (by rw [HSuc.out, putCells_snoc]; exact hown)
              have HB6 : Hid (Below w3.heap.size w3 w6) := Lib.hid ((HB4.out.alloc hw4 _).grown hg (by simp; omega) (fun q hq => (HO4.out.lt q hq).1))
              clear hown hg
              go_wp2_with fail
              go_roundg (c - (i + 1))
              case measure => omega
              case rel => exact ⟨i + 1, by go_num, by omega, Nat.le_refl _, HO6, HB6⟩
            · have hltz : ¬ (i : Int) < (c : Int) := by omega
              have hie : i = c := by omega
              subst hie
              obtain ⟨p, hp⟩ : ∃ p, 2 * v.slot + v.place n pc = p := ⟨_, rfl⟩
              have HSp : Hid (Calls Tryz.prog 62 #[.pointer (some ⟨a, 0, none⟩), .int .i64 pc] wr fun e w' => e = .returned (.int .i64 p) ∧ Below wr.heap.size wr w') := Lib.hid (by
                have := sector_later (HL0.out.later HBw.out) pc (by omega)
                rw [show d.seen.length = n from HN.out, hp] at this
                exact this)
              rw [hp] at HBs
              have HCells : Hid (putCells (bodyR v n l) = putCells (bodyT v n l i) ++ [.int .i64 p, .string ⟨#[]⟩]) := Lib.hid (by rw [← HBody.out, HBs.out, putCells_snoc]; rfl)
              have HBi2 : Hid (∀ w', Below wr.heap.size wr w' → Below w3.heap.size w3 w') := Lib.hid (fun w' hb => HBi.out.trans (hb.mono hwi))
              clear hp
              go_wp2_with fail
              refine (HPo.out _).mono ?_
              rintro e w' ⟨rfl, rfl⟩
              go_wp2_with fail
              refine HSp.out.mono ?_
              rintro e w4 ⟨rfl, hb4⟩
              have HB4 : Hid (Below w3.heap.size w3 w4) := Lib.hid (HBi2.out _ hb4)
              have HO4 : Hid (w4.ownsRow w3.heap.size 131 2 (.slice A5 i c5) i (putCells (bodyT v n l i))) := Lib.hid (own_kept HO.out hb4)
              have hw4 : w3.heap.size ≤ w4.heap.size := HB4.out.size
              have HPl : Hid (i + 1 = pc) := Lib.hid hcpc
              clear hb4 HSp HBi2 hcpc
              go_wp2_with (at_builtin; refine wpList_append_own _ rfl (.tmp 54) (.tmp 61) 128 rfl w3.heap.size 131 i0 (.agg #[.int .i64 0, .string ByteArray.empty]) 2 24 Tryz.underlying128 hi0' hz0 hz1 hz2 rfl (by decide) (.slice A5 i c5) i (putCells (bodyT v n l i)) rfl (HO4.out.alloc _) ⟨w4.heap.size, 0, none⟩ 1 1 [.int .i64 p, .string ⟨#[]⟩] rfl rfl ?c3 (by intro u hu; simp at hu; rcases hu with rfl | rfl <;> rfl) ?c4 ?c5 ?c6 ?_)
              case c3 =>
                intro j u hj
                rw [WideShapes.add_plain, Nat.zero_add, Lib.cell_of_heap (heap_alloc_new _ _)]
                simpa using hj
              case c4 => unfold maxLen; omega
              case c5 => omega
              case c6 => simp; omega
              intro v6 w6 hown hg _
              have HO6 : Hid (w6.ownsRow w3.heap.size 131 2 v6 pc (putCells (bodyR v n l))) := Lib.hid (by rw [HCells.out, ← HPl.out]; exact hown)
              have HB6 : Hid (Below w.heap.size w w6) := Lib.hid (HB3.out.trans (((HB4.out.alloc hw4 _).grown hg (by simp; omega) (fun q hq => (HO4.out.lt q hq).1)).mono hw3))
              obtain ⟨A6, c6', h6, _, hl6⟩ := own_lies HO6.out
              subst h6
              have HL6 := Lib.hid hl6
              have HAF : Hid (∀ b off, A6 = some ⟨b, off, none⟩ → ¬ F b) := Lib.hid (fun b off e hf => by
                subst e
                have h1 := (HO6.out.lt b rfl).1
                have h2 := HLow.out b hf
                omega)
              obtain ⟨x3, x0⟩ := HD3.out w6 HB6.out
              clear hown hg hl6 HO4 HB4 HO HBi HBw hwi hw4
              go_wp2_with fail
              have HBV : Hid (Below w.heap.size w (w6.alloc (.cells #[.int .i64 v.num, .int .i64 N] 111))) := Lib.hid (HB6.out.alloc HB6.out.size _)
              have HHd : Hid ((w6.alloc (.cells #[.int .i64 v.num, .int .i64 N] 111)).heap[w6.heap.size]? = some (.cells #[.int .i64 v.num, .int .i64 N] 111 (0, 0))) := Lib.hid (heap_alloc_new _ _)
              have HLV : Hid (Lies (w6.alloc (.cells #[.int .i64 v.num, .int .i64 N] 111)) (w6.alloc (.cells #[.int .i64 v.num, .int .i64 N] 111)).heap.size A6 (putCells (bodyR v n l))) := Lib.hid (HL6.out.next ((Below.refl _ _).alloc (Nat.le_refl _) _))
              have hHV : w6.heap.size < (w6.alloc (.cells #[.int .i64 v.num, .int .i64 N] 111)).heap.size := by simp
              have hwH : w.heap.size ≤ w6.heap.size := HB6.out.size
              clear x3 x0 HL6 HO6
              generalize (w6.alloc (.cells #[.int .i64 v.num, .int .i64 N] 111)) = V at *
              generalize w6.heap.size = H at *
              have HHF : Hid (¬ F H) := Lib.hid (fun hf => by have := HLow.out H hf; omega)
              have haV : a < V.heap.size := by omega
              have HK : Hid (∀ w', Below V.heap.size V w' → w'.cell? ⟨a, 0, none⟩ = some (.pointer (some ⟨v.disk, 0, none⟩)) ∧ w'.cell? ⟨H, 0, none⟩ = some (.int .i64 v.num) ∧ w'.cell? ⟨H, 1, none⟩ = some (.int .i64 N)) := Lib.hid (fun w' hb => by
                refine ⟨(HD3.out w' (below_next HBV.out hb)).2, ?_, ?_⟩
                · rw [hb.cell (p := ⟨H, 0, none⟩) hHV, Lib.cell_of_heap HHd.out]; rfl
                · rw [hb.cell (p := ⟨H, 1, none⟩) hHV, Lib.cell_of_heap HHd.out]; rfl)
              obtain ⟨p0, hp0⟩ : ∃ p0, 2 * v.slot + v.place n 0 = p0 := ⟨_, rfl⟩
              have HS0 : Hid (∀ w', Below V.heap.size V w' → Calls Tryz.prog 62 #[.pointer (some ⟨a, 0, none⟩), .int .i64 0] w' fun e w'' => e = .returned (.int .i64 p0) ∧ Below V.heap.size V w'') := Lib.hid (fun w' hb => by
                have := sector_later (HL0.out.later (below_next HBV.out hb)) 0 (by omega)
                rw [show d.seen.length = n from HN.out, hp0] at this
                exact this.mono (fun _ _ h => ⟨h.1, below_next hb h.2⟩))
              obtain ⟨Hs, hHs⟩ : ∃ Hs, str (recHead v.num N) = Hs := ⟨_, rfl⟩
              have HEn : Hid (∀ w', Below V.heap.size V w' → Calls Tryz.prog 79 #[.agg #[.int .i64 v.num, .int .i64 N]] w' fun e w'' => e = .returned (.string Hs) ∧ Below V.heap.size V w'') := Lib.hid (fun w' hb => by
                have := recEncode_any v.num N w' (by omega) (by omega)
                rw [hHs] at this
                exact this.mono (fun _ _ h => ⟨h.1, below_next hb h.2⟩))
              have HSt : Hid (∀ w', Below V.heap.size V w' → Calls Tryz.prog 74 #[.pointer (some ⟨v.disk, 0, none⟩), .slice A6 pc c6', .agg #[.int .i64 p0, .string Hs]] w' fun e w'' => e = .returned (.bool (d.storeE (bodyR v n l) (headR v n l))) ∧ ∃ F', IsDisk w'' F' v.disk (d.storeD (bodyR v n l) (headR v n l)) ∧ Moves F V w'' ∧ ∀ k, F' k → F k ∨ V.heap.size ≤ k) := Lib.hid (fun w' hb => by
                have hbw := below_next HBV.out hb
                have := store_any (cap := c6') (HDk.out.below hbw) (bodyR v n l) A6 pc (by rw [← HBody.out, HBl.out]) (HLV.out.next hb) HAF.out (fun q hq => by
                  unfold bodyR at hq
                  obtain ⟨j, _, rfl⟩ := List.mem_map.1 hq
                  have := getD_cuts_short l j
                  simp only; omega) (by omega) p0 (recHead v.num N) (by
                    obtain ⟨num, hnum'⟩ := Int.eq_ofNat_of_zero_le (show 0 ≤ v.num by omega)
                    rw [hnum']
                    have := recHead_len (num := num) (len := N) (by omega) (by omega)
                    have e : recHead ((num : Nat) : Int) (N : Int) = recHead (num : Int) (N : Int) := rfl
                    rw [this]; omega)
                rw [hHs] at this
                have eh : headR v n l = (p0, recHead v.num N) := by unfold headR; rw [hp0, HNl.out]
                rw [eh]
                refine this.mono ?_
                rintro e w'' ⟨he, hm, F', hd', hF'⟩
                refine ⟨he, F', hd', (Moves.of_below (F := F) hb).trans hm (fun k hk => Or.inl hk), fun k hk => ?_⟩
                rcases hF' k hk with h | h
                · exact Or.inl h
                · exact Or.inr (Nat.le_trans hb.size h))
              have HKs : Hid (∀ w'', (∃ F', IsDisk w'' F' v.disk (d.storeD (bodyR v n l) (headR v n l)) ∧ Moves F V w'' ∧ ∀ k, F' k → F k ∨ V.heap.size ≤ k) → w''.cell? ⟨a, 0, none⟩ = some (.pointer (some ⟨v.disk, 0, none⟩)) ∧ w''.cell? ⟨H, 0, none⟩ = some (.int .i64 v.num) ∧ w''.cell? ⟨H, 1, none⟩ = some (.int .i64 N)) := Lib.hid (by
                rintro w'' ⟨F', _, hm, _⟩
                obtain ⟨q0, q1, q2⟩ := HK.out V (Below.refl _ _)
                exact ⟨(World.cell?_of_block (a := ⟨a, 0, none⟩) (hm.block a haV HF.out)).trans q0, (World.cell?_of_block (a := ⟨H, 0, none⟩) (hm.block H hHV HHF.out)).trans q1, (World.cell?_of_block (a := ⟨H, 1, none⟩) (hm.block H hHV HHF.out)).trans q2⟩)
              have HEnd : Hid (∀ w'', (∃ F', IsDisk w'' F' v.disk (d.storeD (bodyR v n l) (headR v n l)) ∧ Moves F V w'' ∧ ∀ k, F' k → F k ∨ V.heap.size ≤ k) → ∃ F', LogAt w'' F' a v (d.storeD (bodyR v n l) (headR v n l)) ∧ ¬ F' a ∧ Moves (fun q => F q ∨ q = a) w w'' ∧ ∀ k, F' k → F k ∨ w.heap.size ≤ k) := Lib.hid (by
                rintro w'' ⟨F', hd', hm, hF'⟩
                have hwV : w.heap.size ≤ V.heap.size := HBV.out.size
                refine ⟨F', ⟨?_, hd', by rw [HDl.out, ← HN.out]; exact HOk.out⟩, ?_, ?_, fun k hk => ?_⟩
                · exact (hm.block a haV HF.out).trans ((HBV.out.block a halt).trans HL0.out.wal)
                · intro hf
                  rcases hF' a hf with h | h
                  · exact HF.out h
                  · omega
                · exact (Moves.of_below (F := fun q => F q ∨ q = a) HBV.out).trans hm (fun k hk => Or.inl (Or.inl hk))
                · rcases hF' k hk with h | h
                  · exact Or.inl h
                  · exact Or.inr (Nat.le_trans hwV h))
              have HB0 : Hid (Below V.heap.size V V.drew) := Lib.hid (Below.refl _ _).drew
              have HDn : Hid ((d.storeD (bodyR v n l) (headR v n l)).seen.length = n) := Lib.hid (HDl.out _ _)
              clear hp0 hHs HHd HLV HAF HBs HCells HCn HCut HSec HPlt HHF HD3 HFr HBV HBody HBl HDk
              generalize d.storeD (bodyR v n l) (headR v n l) = D' at *
              cases hE : d.storeE (bodyR v n l) (headR v n l) with
              | false =>
                rw [hE] at HSt
                have HX := Lib.hid (HG.out.2.2 hE)
                have HX1 := Lib.hid HG.out.1
                clear hE HG
                go_region_held3 (fun w' => w'.cell? ⟨a, 0, none⟩ = some (.pointer (some ⟨v.disk, 0, none⟩)) ∧ w'.cell? ⟨H, 0, none⟩ = some (.int .i64 v.num) ∧ w'.cell? ⟨H, 1, none⟩ = some (.int .i64 N))
                  (first | exact HK.out _ HB0.out | exact HK.out _ HB1.out | exact HK.out _ HB2.out | exact HKs.out _ HS3.out)
                  (first
                    | (((with_reducible refine (HS0.out _ HB0.out).mono ?_); rintro e w1 ⟨rfl, hb1⟩; have HB1 := Lib.hid hb1; clear hb1))
                    | (((with_reducible refine (HEn.out _ HB1.out).mono ?_); rintro e w2 ⟨rfl, hb2⟩; have HB2 := Lib.hid hb2; clear hb2))
                    | (((with_reducible refine (HSt.out _ HB2.out).mono ?_); rintro e w3 ⟨rfl, hs3⟩; have HS3 := Lib.hid hs3; clear hs3)))
                go_wp2_with fail
                go_ret
                rw [HX.out.1, HX.out.2, HX1.out]
                exact ⟨rfl, HEnd.out _ HS3.out⟩
              | true =>
                rw [hE] at HSt
                have HX := Lib.hid (HG.out.2.1 hE)
                have HX1 := Lib.hid HG.out.1
                clear hE HG
                go_region_held3 (fun w' => w'.cell? ⟨a, 0, none⟩ = some (.pointer (some ⟨v.disk, 0, none⟩)) ∧ w'.cell? ⟨H, 0, none⟩ = some (.int .i64 v.num) ∧ w'.cell? ⟨H, 1, none⟩ = some (.int .i64 N))
                  (first | exact HK.out _ HB0.out | exact HK.out _ HB1.out | exact HK.out _ HB2.out | exact HKs.out _ HS3.out)
                  (first
                    | (((with_reducible refine (HS0.out _ HB0.out).mono ?_); rintro e w1 ⟨rfl, hb1⟩; have HB1 := Lib.hid hb1; clear hb1))
                    | (((with_reducible refine (HEn.out _ HB1.out).mono ?_); rintro e w2 ⟨rfl, hb2⟩; have HB2 := Lib.hid hb2; clear hb2))
                    | (((with_reducible refine (HSt.out _ HB2.out).mono ?_); rintro e w3 ⟨rfl, hs3⟩; have HS3 := Lib.hid hs3; clear hs3)))
                obtain ⟨F', hL9, hnF, hM9, hF9⟩ := HEnd.out _ HS3.out
                have HL9 := Lib.hid hL9
                have HnF := Lib.hid hnF
                have HM9 := Lib.hid hM9
                have HF9 := Lib.hid hF9
                clear hL9 hnF hM9 hF9 HK HKs HSt HEn HS0 HEnd HS3 HB1 HB2 HB0
                go_wp2_with fail
                refine (pass_any HL9.out N (by omega)).mono ?_
                rintro e w9 ⟨rfl, hW9, hm9⟩
                have HFin : Hid (∃ F', LogAt w9 F' a (v.pass n N) D' ∧ ¬ F' a ∧ Moves (fun q => F q ∨ q = a) w w9 ∧ ∀ k, F' k → F k ∨ w.heap.size ≤ k) := Lib.hid (by
                  rw [HDn.out] at hW9
                  refine ⟨F', HL9.out.moves HnF.out hm9 hW9 rfl ?_, HnF.out, HM9.out.trans hm9 (fun k hk => Or.inl (Or.inr hk)), HF9.out⟩
                  rw [HDn.out]
                  have hok := HOk.out
                  rw [HN.out] at hok
                  have hc9 := HC.out
                  have hp9 := HPc.out
                  exact (pass_ok hok (by omega) (by omega)).1)
                clear hW9 hm9
                go_wp2_with fail
                go_ret
                rw [HX.out.1, HX.out.2, HX1.out, HNl.out]
                exact ⟨rfl, HFin.out⟩
end Go.Proofs.YtlelfakememckaaGreatDoor
