/- The records that stand on a disk, plain; the contract of loadRecords. -/
import Derived.Test.YtlelfakememckaaGreatDoorWalM
import Derived.Test.YtlelfakememckaaGreatDoorWalS
namespace Go.Proofs.YtlelfakememckaaGreatDoor
open Go.RowKit

/-- The length of the record at the next place, if one stands there. -/
def recAt (xs : List (List UInt8)) (v : WalV) : Option Nat := match decR (xs.getD (2 * v.slot + v.place xs.length 0) []) with
  | some (num, len) => if num = v.num ∧ 1 + secs len.toNat < xs.length - 2 * v.slot - v.used then some len.toNat else none
  | none => none
def recSecs (xs : List (List UInt8)) (v : WalV) (k : Nat) : List (List UInt8) := (List.range k).map (fun i => xs.getD (2 * v.slot + v.place xs.length (1 + i)) [])
def recB (xs : List (List UInt8)) (v : WalV) (len : Nat) : List UInt8 := (recSecs xs v (secs len)).flatten.take len
def scanR (xs : List (List UInt8)) : Nat → WalV → WalV × List (List UInt8)
  | 0, v => (v, [])
  | f + 1, v => match recAt xs v with
    | some len => ((scanR xs f (v.pass xs.length len)).1, recB xs v len :: (scanR xs f (v.pass xs.length len)).2)
    | none => (v, [])
theorem scanR_stop {xs : List (List UInt8)} {v : WalV} (h : recAt xs v = none) (f : Nat) : scanR xs f v = (v, []) := by
  cases f with
  | zero => rfl
  | succ f => rw [scanR, h]
theorem scanR_go {xs : List (List UInt8)} {v : WalV} {len : Nat} (h : recAt xs v = some len) (f : Nat) : scanR xs (f + 1) v = ((scanR xs f (v.pass xs.length len)).1, recB xs v len :: (scanR xs f (v.pass xs.length len)).2) := by
  rw [scanR, h]
theorem numN_lt (r : List UInt8) (k : Nat) : numN r k < 256 ^ k := by
  unfold numN
  split
  · have h1 := dec_lt (r.take (k : Int).toNat)
    have h2 : (r.take (k : Int).toNat).length ≤ k := by rw [List.length_take]; omega
    have h3 : dec (r.take (k : Int).toNat) < 256 ^ k := Nat.lt_of_lt_of_le h1 (Nat.pow_le_pow_right (by omega) h2)
    have : ((dec (r.take (k : Int).toNat) : Nat) : Int) < ((256 ^ k : Nat) : Int) := by omega
    simpa using this
  · have : (0 : Int) < ((256 ^ k : Nat) : Int) := by have := Nat.pow_pos (n := k) (show 0 < 256 by omega); omega
    simpa using this
theorem decR_pos {l : List UInt8} {h : Int × Int} (hd : decR l = some h) : 0 ≤ h.1 ∧ 0 ≤ h.2 ∧ h.2 ≤ 4294967296 := by
  unfold decR at hd
  split at hd
  · rename_i a b he
    simp only [Option.some.injEq] at hd
    subst hd
    unfold headOf at he
    split at he
    · have hp := numsOf_pos _ _ he
      refine ⟨hp a (by simp), hp b (by simp), ?_⟩
      unfold numsOf at he
      split at he
      · unfold numsOf at he
        split at he
        · unfold numsOf at he
          split at he
          · simp only [Option.map_some, Option.some.injEq, List.cons.injEq, and_true] at he
            have := numN_lt (numR (cutR l 82) 8) 4
            rw [← he.2]
            have e : (256 : Int) ^ 4 = 4294967296 := by decide
            have e2 : numN (numR (cutR l 82) 8) ((4 : Nat) : Int) = numN (numR (cutR l 82) 8) 4 := rfl
            omega
          · simp at he
        · simp at he
      · simp at he
    · cases he
  · cases hd
theorem recAt_some {xs : List (List UInt8)} {v : WalV} {len : Nat} (h : recAt xs v = some len) : 1 + secs len < xs.length - 2 * v.slot - v.used := by
  unfold recAt at h
  split at h
  · split at h
    · rename_i num l he hc
      simp only [Option.some.injEq] at h
      subst h
      exact hc.2
    · cases h
  · cases h
theorem pass_ok {v : WalV} {n k : Nat} (h : v.Ok n) (hk : 1 + secs k < n - 2 * v.slot - v.used) (hn : v.num ≤ 1099511627776 + v.used) : (v.pass n k).Ok n ∧ (v.pass n k).num ≤ 1099511627776 + (v.pass n k).used := by
  have := h.n1
  refine ⟨⟨h.n1, h.s1, h.fit, WalV.place_lt h _, ?_, h.g1, h.g2, ?_, ?_⟩, ?_⟩
  · show v.used + (1 + secs k) < n - 2 * v.slot; omega
  · show 1 ≤ v.num + 1; have := h.k1; omega
  · show v.num + 1 ≤ _; have := h.used; omega
  · show v.num + 1 ≤ 1099511627776 + ((v.used + (1 + secs k) : Nat) : Int); omega
/-- A log in a later world. -/
theorem LogAt.later {w w' : World} {F : Nat → Prop} {a : Nat} {v : WalV} {d : DSt} (h : LogAt w F a v d) (hb : Below w.heap.size w w') : LogAt w' F a v d :=
  ⟨(hb.block _ (heap_lt h.wal)).trans h.wal, h.disk.below hb, h.ok⟩
theorem LogAt.moves {w w' : World} {F : Nat → Prop} {a : Nat} {v v' : WalV} {d : DSt} (h : LogAt w F a v d) (hF : ¬ F a) (hm : Moves (fun q => q = a) w w') (hw : WalAt w' a v') (hd : v'.disk = v.disk) (hok : v'.Ok d.seen.length) : LogAt w' F a v' d :=
  ⟨hw, by rw [hd]; exact h.disk.kept hm (fun k hk hf => hF (by rw [← hk]; exact hf)), hok⟩
theorem moves_next {w a' b : World} {a : Nat} (h : Moves (fun q => q = a) w a') (hb : Below a'.heap.size a' b) : Moves (fun q => q = a) w b := h.trans (G := fun _ => False) (Moves.of_below hb) (fun _ h => h.elim)
theorem free_later {w : World} {F : Nat → Prop} {a : Nat} {v : WalV} {d : DSt} (h : LogAt w F a v d) : Calls Tryz.prog 52 #[.pointer (some ⟨a, 0, none⟩)] w fun e w' => e = .returned (.int .i64 ((d.seen.length : Int) - 2 * (v.slot : Int) - (v.used : Int))) ∧ Below w.heap.size w w' :=
  (free_any h).mono (fun _ _ ⟨he, m, hm⟩ => ⟨he, by rw [hm]; exact below_drawsW w m⟩)
theorem sector_later {w : World} {F : Nat → Prop} {a : Nat} {v : WalV} {d : DSt} (h : LogAt w F a v d) (k : Nat) (hk : k ≤ 1099511627776) : Calls Tryz.prog 62 #[.pointer (some ⟨a, 0, none⟩), .int .i64 k] w fun e w' => e = .returned (.int .i64 (2 * v.slot + v.place d.seen.length k : Nat)) ∧ Below w.heap.size w w' :=
  (sector_any h k hk).mono (fun _ _ ⟨he, m, hm⟩ => ⟨he, by rw [hm]; exact below_drawsW w m⟩)

/-- What loadRecords leaves: the records, the log behind them. -/
def RecsEnd (w : World) (F : Nat → Prop) (a : Nat) (v : WalV) (d : DSt) (f : Nat) (e : Ending) (w' : World) : Prop :=
  ∃ A c, e = .returned (.slice A (scanR d.seen f v).2.length c) ∧ Lies w' w'.heap.size A ((scanR d.seen f v).2.map secV) ∧ ((A = none → c = 0) ∧ ∀ p, A = some p → w.heap.size ≤ p.block) ∧ LogAt w' F a (scanR d.seen f v).1 d ∧ Moves (fun q => q = a) w w'

theorem own_nilcap {w : World} {base : Nat} {e : TypeId} {size n c : Nat} {A : Option Addr} {cs : List Value} (h : w.ownsRow base e size (.slice A n c) n cs) (hA : A = none) : c = 0 := by
  subst hA
  rcases h.2 with ⟨e, _⟩ | ⟨g, cap, cur, e, _⟩
  · simp only [Value.slice.injEq] at e; exact e.2.2
  · simp only [Value.slice.injEq] at e; exact absurd e.1 (by simp)
theorem own_fresh {w : World} {base : Nat} {e : TypeId} {size n c : Nat} {A : Option Addr} {cs : List Value} (h : w.ownsRow base e size (.slice A n c) n cs) : ∀ p, A = some p → base ≤ p.block := by
  intro p hp
  subst hp
  rcases h.2 with ⟨e, _⟩ | ⟨g, cap, cur, e, _⟩
  · simp only [Value.slice.injEq] at e; exact absurd e.1 (by simp)
  · simp only [Value.slice.injEq, Option.some.injEq] at e
    obtain ⟨rfl, _⟩ := e
    exact (h.lt g rfl).1
theorem own_capW {w : World} {base : Nat} {e : TypeId} {size n c : Nat} {A : Option Addr} {cs : List Value} (h : w.ownsRow base e size (.slice A n c) n cs) : n ≤ c := by
  rcases h.2 with ⟨_, h0⟩ | ⟨g, cap, cur, e, _, _, hn, _⟩
  · omega
  · simp only [Value.slice.injEq] at e; omega
theorem own_movesW {w w' : World} {base a : Nat} {e : TypeId} {size n : Nat} {v : Value} {xs : List Value} (h : w.ownsRow base e size v n xs) (hm : Moves (fun q => q = a) w w') (ha : a < base) : w'.ownsRow base e size v n xs :=
  h.kept (row := some a) ⟨hm.os, hm.tape, hm.output, hm.size, fun i hi hne => hm.block i hi (fun e => hne (by rw [e]))⟩ (by
    cases hv : v.ownBlock with
    | none => exact Or.inl rfl
    | some b => refine Or.inr (fun e => ?_); cases e; have := (h.lt a hv).1; omega)
theorem LogAt.belowB {w w' : World} {F : Nat → Prop} {a B : Nat} {v : WalV} {d : DSt} (h : LogAt w F a v d) (hF : ∀ k, F k → k < B) (ha : a < B) (hb : Below B w w') : LogAt w' F a v d :=
  ⟨(hb.block _ ha).trans h.wal, h.disk.kept (G := fun q => B ≤ q) ⟨hb.os, hb.tape, hb.output, hb.size, fun i _ hn => hb.block i (by omega)⟩ (fun k hk hf => by have := hF k hf; omega), h.ok⟩
theorem recSecs_succ (xs : List (List UInt8)) (v : WalV) (k : Nat) : recSecs xs v (k + 1) = recSecs xs v k ++ [xs.getD (2 * v.slot + v.place xs.length (1 + k)) []] := by
  unfold recSecs; rw [List.range_succ, List.map_append]; rfl
theorem recSecs_length (xs : List (List UInt8)) (v : WalV) (k : Nat) : (recSecs xs v k).length = k := by unfold recSecs; simp

theorem recSecs_flat {xs : List (List UInt8)} {v : WalV} (hx : ∀ x ∈ xs, x.length = 32) (hok : v.Ok xs.length) (k : Nat) : (recSecs xs v k).flatten.length = 32 * k := by
  rw [flatten_32, recSecs_length]
  intro x hx2
  obtain ⟨i, _, rfl⟩ := List.mem_map.1 hx2
  have := WalV.place_lt hok (1 + i)
  rw [List.getD_eq_getElem?_getD, List.getElem?_eq_getElem (by omega)]
  exact hx _ (List.getElem_mem _)

set_option maxHeartbeats 16000000 in
set_option maxRecDepth 100000 in
theorem loadRecords_any {w : World} {F : Nat → Prop} {a g cap n : Nat} {v : WalV} {d : DSt} (h : LogAt w F a v d) (hF : ¬ F a) (hnum : v.num ≤ 1099511627776 + v.used) (hn : d.seen.length = n) (hA : Lies w w.heap.size (some ⟨g, 0, none⟩) (d.seen.map secV)) (hga : g ≠ a) (hx : ∀ x ∈ d.seen, x.length = 32) :
    Calls Tryz.prog 34 #[.pointer (some ⟨a, 0, none⟩), .slice (some ⟨g, 0, none⟩) n cap] w (RecsEnd w F a v d n) := by
  have HL0 := Lib.hid h
  have HA := Lib.hid hA
  have HX := Lib.hid hx
  have HN := Lib.hid hn
  have hn4 : n ≤ 4096 := by have := h.ok.n1; omega
  have halt0 : a < w.heap.size := heap_lt h.wal
  have HNum0 := Lib.hid hnum
  have HF0 : Hid (∀ k, F k → k < w.heap.size) := Lib.hid h.disk.low
  obtain ⟨i0, hi0, hz0, hz1, hz2⟩ := info_parts Tryz.infoStr5
  clear h hA hx hn hnum
  go_enter Tryz.func34, Tryz.ntmps34
  go_wp2_with fail
  go_loopg [5] (n + 1) (fun kx s5 wr => ∃ (m f : Nat) (v' : WalV) (rs : List (List UInt8)), rs.length = m ∧ m ≤ v'.used ∧ f + 1 ≤ kx ∧ Hid (n - 2 * v'.slot - v'.used ≤ f) ∧ Hid (v'.num ≤ 1099511627776 + v'.used) ∧ Hid (LogAt wr F a v' d) ∧ Hid (wr.ownsRow w.heap.size 9 1 s5 m (rs.map secV)) ∧ Hid (Moves (fun q => q = a) w wr) ∧ Hid ((scanR d.seen n v).1 = (scanR d.seen f v').1 ∧ (scanR d.seen n v).2 = rs ++ (scanR d.seen f v').2))
  case atStart => exact ⟨0, n, v, [], rfl, Nat.zero_le _, Nat.le_refl _, Lib.hid (by omega), HNum0, HL0, Lib.hid (World.ownsRow_nil _ _ _ _), Lib.hid (Moves.refl _ _), Lib.hid ⟨rfl, rfl⟩⟩
  case round =>
    clear HL0 HNum0
    obtain ⟨m, f, v', rs, hm, hmu, hkx, HFu, HNum, HL, HO, HM, HSc⟩ := hrel
    obtain ⟨A5, c5, h5, hxx, hlies5⟩ := own_lies HO.out
    have HA5 := Lib.hid hlies5
    clear hxx hlies5
    subst h5
    have hok := HL.out.ok
    have hs1 := hok.s1
    have hfit := hok.fit
    rw [HN.out] at hfit
    have hus := hok.used
    rw [HN.out] at hus
    have hwz : w.heap.size ≤ wr.heap.size := HM.out.size
    have halt : a < wr.heap.size := heap_lt HL.out.wal
    have HAr : Hid (Lies wr wr.heap.size (some ⟨g, 0, none⟩) (d.seen.map secV)) := Lib.hid (HA.out.moves6 HM.out (fun b off e => by simp only [Option.some.injEq, Addr.mk.injEq, and_true] at e; rw [← e.1]; exact hga))
    have HCell : Hid (∀ q, q < n → ∀ w', Below wr.heap.size wr w' → w'.cell? ⟨g, q, none⟩ = some (.string (str (d.seen.getD q [])))) := Lib.hid (fun q hq w' hb => by
      obtain ⟨e1, e2⟩ := lies_at HAr.out (i := q) (by rw [HN.out]; exact hq)
      exact (hb.cell (p := ⟨g, q, none⟩) e2).trans e1)
    have HSec := Lib.hid (fun k (hk : k ≤ 1099511627776) w' (hb : Below wr.heap.size wr w') => sector_later (HL.out.later hb) k hk)
    obtain ⟨p0, hp0⟩ : ∃ p0, 2 * v'.slot + v'.place d.seen.length 0 = p0 := ⟨_, rfl⟩
    have hp0n : p0 < n := by have := WalV.place_lt hok 0; rw [HN.out] at this; rw [← hp0, HN.out]; omega
    have HS0 : Hid (Calls Tryz.prog 62 #[.pointer (some ⟨a, 0, none⟩), .int .i64 0] wr fun e w' => e = .returned (.int .i64 p0) ∧ Below wr.heap.size wr w') := Lib.hid (by
      have := HSec.out 0 (by omega) wr (Below.refl _ _)
      rw [hp0] at this
      exact this)
    have HDec := Lib.hid (fun w' => decodeRecord_any (d.seen.getD p0 []) w' (by
      rw [List.getD_eq_getElem?_getD, List.getElem?_eq_getElem (by rw [HN.out]; exact hp0n)]
      have := HX.out _ (List.getElem_mem (by rw [HN.out]; exact hp0n : p0 < d.seen.length))
      simp only [Option.getD_some]; omega))
    have HRec : Hid (recAt d.seen v' = match decR (d.seen.getD p0 []) with
      | some (num, len) => if num = v'.num ∧ 1 + secs len.toNat < n - 2 * v'.slot - v'.used then some len.toNat else none
      | none => none) := Lib.hid (by unfold recAt; rw [hp0, HN.out])
    obtain ⟨o, ho⟩ : ∃ o, decR (d.seen.getD p0 []) = o := ⟨_, rfl⟩
    have HOd := Lib.hid ho
    rw [ho] at HDec HRec
    clear ho hp0
    have HRet : Hid (∀ w', Below wr.heap.size wr w' → recAt d.seen v' = none → RecsEnd w F a v d n (.returned (.slice A5 m c5)) w') := Lib.hid (fun w' hb hno => by
      have e := scanR_stop hno f
      have e1 : (scanR d.seen n v).1 = v' := by rw [HSc.out.1, e]
      have e2 : (scanR d.seen n v).2 = rs := by rw [HSc.out.2, e, List.append_nil]
      refine ⟨A5, c5, by rw [e2, hm], by rw [e2]; exact HA5.out.next hb, ⟨own_nilcap HO.out, own_fresh HO.out⟩, by rw [e1]; exact HL.out.later hb, moves_next HM.out hb⟩)
    have hz1' : (0 : Int) ≤ (p0 : Int) := Int.natCast_nonneg _
    have hz2' : (p0 : Int) < (n : Int) := by omega
    cases o with
    | none =>
      have HNo : Hid (recAt d.seen v' = none) := Lib.hid HRec.out
      go_wp2_with fail
      refine HS0.out.mono ?_
      rintro e w1 ⟨rfl, hb1⟩
      have cc := HCell.out p0 hp0n w1 hb1
      have HB1 := Lib.hid hb1
      clear hb1
      go_wp2_with fail
      refine (HDec.out _).mono ?_
      rintro e w2 ⟨rfl, hb2⟩
      have HB2 : Hid (Below wr.heap.size wr (w2.alloc (.cells #[.int .i64 0, .int .i64 0] 111))) := Lib.hid (by
        have h1 : Below wr.heap.size wr w2 := HB1.out.trans (hb2.mono HB1.out.size)
        exact h1.alloc h1.size _)
      clear hb2 cc
      go_wp2_with fail
      generalize w2.alloc (.cells #[.int .i64 0, .int .i64 0] 111) = V at *
      refine wp_region_later (by kernel_rfl) (by kernel_rfl) ?_
      repeat (quiet_step (fail))
      refine wpQuiet_nil ?_
      intro w9 hw9
      obtain ⟨p9, hw9'⟩ := hw9
      subst hw9'
      have HEnd : Hid (RecsEnd w F a v d n (.returned (.slice A5 m c5)) p9.wd) := Lib.hid (HRet.out p9.wd (HB2.out.trans (p9.bel.mono HB2.out.size)) HNo.out)
      go_wp2_with fail
      go_ret
      exact HEnd.out
    | some hd =>
      obtain ⟨num, len⟩ := hd
      have hdp := decR_pos HOd.out
      simp only at hdp
      obtain ⟨ln, rfl⟩ := Int.eq_ofNat_of_zero_le hdp.2.1
      have hlnb : ln ≤ 4294967296 := by omega
      simp only [Int.toNat_natCast] at HRec
      have HPo : Hid (∀ w', Calls Tryz.prog 63 #[.int .i64 ln] w' fun e w'' => e = .returned (.int .i64 (1 + secs ln : Nat)) ∧ w' = w'') := Lib.hid (fun w' => positionsOf_any ln w' (by omega))
      obtain ⟨ps, hps⟩ : ∃ ps, 1 + secs ln = ps := ⟨_, rfl⟩
      have HPs := Lib.hid hps
      rw [hps] at HPo HRec
      clear hps hdp HOd
      by_cases hnum : num = v'.num
      · have hnz : (num != v'.num) = false := by rw [bne_eq_false_iff_eq]; exact hnum
        by_cases hfr : ps < n - 2 * v'.slot - v'.used
        · have hfz : ¬ (n : Int) - 2 * (v'.slot : Int) - (v'.used : Int) ≤ (ps : Int) := by omega
          have hfz' : decide ((n : Int) - 2 * (v'.slot : Int) - (v'.used : Int) ≤ (ps : Int)) = false := decide_eq_false hfz
          have HYes : Hid (recAt d.seen v' = some ln) := Lib.hid (by rw [HRec.out, if_pos ⟨hnum, hfr⟩])
          clear HRec hnum
          go_wp2_with fail
          refine HS0.out.mono ?_
          rintro e w1 ⟨rfl, hb1⟩
          have cc := HCell.out p0 hp0n w1 hb1
          have HB1 := Lib.hid hb1
          clear hb1
          go_wp2_with fail
          refine (HDec.out _).mono ?_
          rintro e w2 ⟨rfl, hb2⟩
          have hB2 : Below wr.heap.size wr w2 := HB1.out.trans (hb2.mono HB1.out.size)
          have HB2 : Hid (Below wr.heap.size wr (w2.alloc (.cells #[.int .i64 num, .int .i64 ln] 111))) := Lib.hid (hB2.alloc hB2.size _)
          have HHd : Hid ((w2.alloc (.cells #[.int .i64 num, .int .i64 ln] 111)).heap[w2.heap.size]? = some (.cells #[.int .i64 num, .int .i64 ln] 111 (0, 0))) := Lib.hid (heap_alloc_new _ _)
          have hHw : wr.heap.size ≤ w2.heap.size := hB2.size
          clear hb2 cc hB2 HB1 HS0 HDec
          go_wp2_with fail
          have hHV : w2.heap.size < (w2.alloc (.cells #[.int .i64 num, .int .i64 ln] 111)).heap.size := by simp
          generalize (w2.alloc (.cells #[.int .i64 num, .int .i64 ln] 111)) = V at *
          generalize w2.heap.size = H at *
          have c0 : ∀ p : LatW V, p.wd.cell? ⟨H, 0, none⟩ = some (.int .i64 num) := fun p => p.cell (by rw [Lib.cell_of_heap HHd.out]; rfl) hHV
          have c1 : ∀ p : LatW V, p.wd.cell? ⟨H, 1, none⟩ = some (.int .i64 ln) := fun p => p.cell (by rw [Lib.cell_of_heap HHd.out]; rfl) hHV
          have HLV : Hid (LogAt V F a v' d) := Lib.hid (HL.out.later HB2.out)
          have D3 : ∀ p : LatW V, p.wd.cell? ⟨a, 3, none⟩ = some (.int .i64 v'.num) := fun p => ((HLV.out.later p.bel).wal.cells).2.2.2.1
          have HFr : Hid (∀ p : LatW V, Calls Tryz.prog 52 #[.pointer (some ⟨a, 0, none⟩)] p.wd fun e w' => e = .returned (.int .i64 ((n : Int) - 2 * (v'.slot : Int) - (v'.used : Int))) ∧ Below p.wd.heap.size p.wd w') := Lib.hid (fun p => by
            have := free_later (HLV.out.later p.bel)
            rw [HN.out] at this
            exact this)
          clear HHd HRet
          refine wp_region_later (by kernel_rfl) (by kernel_rfl) ?_
          repeat (quiet_step (first
            | (go_at_call 63; exact Calls.later_same (HPo.out _))
            | (go_at_call 52; exact Calls.later_of (HFr.out _))))
          refine wpQuiet_nil ?_
          intro w9 hw9
          obtain ⟨p9, hw9'⟩ := hw9
          subst hw9'
          have HB9 : Hid (Below wr.heap.size wr p9.wd) := Lib.hid (HB2.out.trans (p9.bel.mono HB2.out.size))
          have y1 := c1 p9
          have hH9 : H < p9.wd.heap.size := Nat.lt_of_lt_of_le hHV p9.bel.size
          clear c0 c1 D3 HFr HLV HB2 hHV HPo hfz hfz' hnz
          generalize p9.wd = W9 at HB9 y1 hH9 ⊢
          obtain ⟨sc, hsc⟩ : ∃ sc, secs ln = sc := ⟨_, rfl⟩
          have hpsc : ps = 1 + sc := by have := HPs.out; omega
          have hsc4 : sc ≤ 4096 := by omega
          have hln3 : ln ≤ 32 * sc := by rw [← hsc]; unfold secs; omega
          have HSo : Hid (∀ w', Calls Tryz.prog 60 #[.int .i64 ln] w' fun e w'' => e = .returned (.int .i64 sc) ∧ w' = w'') := Lib.hid (fun w' => by
            have := sectorsOf_any ln w' (by omega)
            rw [hsc] at this
            exact this)
          have HRB : Hid (recB d.seen v' ln = (recSecs d.seen v' sc).flatten.take ln) := Lib.hid (by unfold recB; rw [hsc])
          have HFl : Hid ((recSecs d.seen v' sc).flatten.length = 32 * sc) := Lib.hid (recSecs_flat HX.out HL.out.ok sc)
          have HPass : Hid (v'.pass d.seen.length ln |>.Ok d.seen.length) := Lib.hid (pass_ok HL.out.ok (by rw [hsc, HN.out]; omega) HNum.out).1
          have HNum2 : Hid ((v'.pass d.seen.length ln).num ≤ 1099511627776 + (v'.pass d.seen.length ln).used) := Lib.hid (pass_ok HL.out.ok (by rw [hsc, HN.out]; omega) HNum.out).2
          have hw9 : wr.heap.size ≤ W9.heap.size := HB9.out.size
          clear hsc HPs hpsc
          go_wp2_with (go_at_call 60; refine (HSo.out _).mono ?_; rintro e w' ⟨rfl, rfl⟩)
          obtain ⟨w0, hw0⟩ : ∃ w0, w0 = wr := ⟨_, rfl⟩
          subst hw0
          go_loopg [8, 42] sc (fun kx s8 s42 wi => ∃ i : Nat, s42 = .int .i64 i ∧ i ≤ sc ∧ sc - i ≤ kx ∧ Hid (wi.ownsRow W9.heap.size 9 1 s8 i ((recSecs d.seen v' i).map secV)) ∧ Hid (Below W9.heap.size W9 wi))
          case atStart => exact ⟨0, rfl, Nat.zero_le _, by omega, Lib.hid (World.ownsRow_nil _ _ _ _), Lib.hid (Below.refl _ _)⟩
          case round =>
            obtain ⟨i, rfl, hi, hki, HOb, HBi⟩ := hrel
            obtain ⟨A8, c8, h8, hxx8, hl8⟩ := own_lies HOb.out
            have HA8 := Lib.hid hl8
            clear hxx8 hl8
            subst h8
            have hBi : Below w0.heap.size w0 wr := HB9.out.trans (HBi.out.mono hw9)
            have HBi0 := Lib.hid hBi
            by_cases hlt : i < sc
            · have hltz : (i : Int) < (sc : Int) := by omega
              obtain ⟨pi, hpi⟩ : ∃ pi, 2 * v'.slot + v'.place d.seen.length (1 + i) = pi := ⟨_, rfl⟩
              have hpin : pi < n := by have := WalV.place_lt HL.out.ok (1 + i); rw [HN.out] at this; rw [← hpi, HN.out]; omega
              have HSi : Hid (Calls Tryz.prog 62 #[.pointer (some ⟨a, 0, none⟩), .int .i64 (1 + (i : Int))] wr fun e w' => e = .returned (.int .i64 pi) ∧ Below wr.heap.size wr w') := Lib.hid (by
                have := HSec.out (1 + i) (by omega) wr HBi0.out
                rw [hpi, show ((1 + i : Nat) : Int) = 1 + (i : Int) from by omega] at this
                exact this)
              have HSuc : Hid (recSecs d.seen v' (i + 1) = recSecs d.seen v' i ++ [d.seen.getD pi []]) := Lib.hid (by rw [recSecs_succ, hpi])
              have q0 : (0 : Int) ≤ (pi : Int) := Int.natCast_nonneg _
              have q1 : (pi : Int) < (n : Int) := by omega
              clear hpi hBi
              go_wp2_with fail
              refine HSi.out.mono ?_
              rintro e w3 ⟨rfl, hb3⟩
              have cc := HCell.out pi hpin w3 (HBi0.out.trans (hb3.mono HBi0.out.size))
              have HB3 : Hid (Below W9.heap.size W9 w3) := Lib.hid (HBi.out.trans (hb3.mono HBi.out.size))
              have HO3 : Hid (w3.ownsRow W9.heap.size 9 1 (.slice A8 i c8) i ((recSecs d.seen v' i).map secV)) := Lib.hid (own_kept HOb.out hb3)
              have hw3 : W9.heap.size ≤ w3.heap.size := HB3.out.size
              obtain ⟨S, hS⟩ : ∃ S, d.seen.getD pi [] = S := ⟨_, rfl⟩
              rw [hS] at cc HSuc
              clear hS hb3
              go_wp2_with (at_builtin; refine wpList_append_own _ rfl (.tmp 45) (.tmp 53) 27 rfl W9.heap.size 9 i0 (.string ByteArray.empty) 1 16 Tryz.underlying27 hi0 hz0 hz1 hz2 rfl (by decide) (.slice A8 i c8) i ((recSecs d.seen v' i).map secV) rfl (HO3.out.alloc _) ⟨w3.heap.size, 0, none⟩ 1 1 [.string (str S)] rfl rfl ?c3 (by simp [Value.oneCell']) ?c4 ?c5 ?c6 ?_)
              case c3 =>
                intro j u hj
                rw [WideShapes.add_plain, Nat.zero_add, Lib.cell_of_heap (heap_alloc_new _ _)]
                simpa using hj
              case c4 => unfold maxLen; omega
              case c5 => omega
              case c6 => simp; omega
              intro v6 w6 hown hg _
              have HO6 : Hid (w6.ownsRow W9.heap.size 9 1 v6 (i + 1) ((recSecs d.seen v' (i + 1)).map secV)) := Lib.hid (by rw [HSuc.out, ← secV_snoc]; exact hown)
              have HB6 : Hid (Below W9.heap.size W9 w6) := Lib.hid ((HB3.out.alloc hw3 _).grown hg (by simp; omega) (fun q hq => (HO3.out.lt q hq).1))
              clear hown hg cc
              go_wp2_with fail
              go_roundg (sc - (i + 1))
              case measure => omega
              case rel => exact ⟨i + 1, by go_num, by omega, Nat.le_refl _, HO6, HB6⟩
            · have hltz : ¬ (i : Int) < (sc : Int) := by omega
              have hie : i = sc := by omega
              subst hie
              have hc8 := own_capW HOb.out
              have y2 : wr.cell? ⟨H, 1, none⟩ = some (.int .i64 ln) := (HBi.out.cell (p := ⟨H, 1, none⟩) hH9).trans y1
              have HJ : Hid (Calls Tryz.prog 59 #[.slice A8 i c8, .int .i64 ln] wr fun e w' => e = .returned (.string (str (recB d.seen v' ln))) ∧ Below wr.heap.size wr w') := Lib.hid (by
                have := joined_any (recSecs d.seen v' i) A8 i c8 ln wr (recSecs_length _ _ _) hc8 HA8.out hsc4 (by rw [HFl.out]; omega) (by rw [HFl.out]; exact hln3)
                rw [HRB.out]
                exact this)
              obtain ⟨R, hR⟩ : ∃ R, recB d.seen v' ln = R := ⟨_, rfl⟩
              rw [hR] at HJ
              have HRe := Lib.hid hR
              clear hR hBi
              go_wp2_with fail
              refine HJ.out.mono ?_
              rintro e w4 ⟨rfl, hb4⟩
              have HB4 : Hid (Below w0.heap.size w0 w4) := Lib.hid (HBi0.out.trans (hb4.mono HBi0.out.size))
              have y3 : w4.cell? ⟨H, 1, none⟩ = some (.int .i64 ln) := (hb4.cell (p := ⟨H, 1, none⟩) (by have := HBi.out.size; show H < _; omega)).trans y2
              have HO4 : Hid (w4.ownsRow w.heap.size 9 1 (.slice A5 m c5) m (rs.map secV)) := Lib.hid (own_kept HO.out HB4.out)
              have hw4 : w0.heap.size ≤ w4.heap.size := HB4.out.size
              have hH4 : H < w4.heap.size := by have h1 := hb4.size; have h2 := HBi.out.size; omega
              clear hb4 y2
              go_wp2_with (at_builtin; refine wpList_append_own _ rfl (.tmp 56) (.tmp 61) 27 rfl w.heap.size 9 i0 (.string ByteArray.empty) 1 16 Tryz.underlying27 hi0 hz0 hz1 hz2 rfl (by decide) (.slice A5 m c5) m (rs.map secV) rfl (HO4.out.alloc _) ⟨w4.heap.size, 0, none⟩ 1 1 [.string (str R)] rfl rfl ?c3 (by simp [Value.oneCell']) ?c4 ?c5 ?c6 ?_)
              case c3 =>
                intro j u hj
                rw [WideShapes.add_plain, Nat.zero_add, Lib.cell_of_heap (heap_alloc_new _ _)]
                simpa using hj
              case c4 => unfold maxLen; omega
              case c5 => omega
              case c6 => simp; omega
              intro v6 w6 hown hg _
              have HO6 : Hid (w6.ownsRow w.heap.size 9 1 v6 (m + 1) ((rs ++ [R]).map secV)) := Lib.hid (by rw [← secV_snoc]; exact hown)
              have hB6 : Below w.heap.size w0 w6 := ((HB4.out.mono hwz).alloc (by omega) _).grown hg (by simp; omega) (fun q hq => (HO4.out.lt q hq).1)
              have hFl : ∀ k, F k → k < w.heap.size := HF0.out
              have HL6 : Hid (LogAt w6 F a v' d) := Lib.hid (HL.out.belowB hFl halt0 hB6)
              have HM6 : Hid (Moves (fun q => q = a) w w6) := Lib.hid (HM.out.trans (G := fun q => w.heap.size ≤ q) ⟨hB6.os, hB6.tape, hB6.output, hB6.size, fun j _ hn => hB6.block j (by omega)⟩ (fun j hj => Or.inr hj))
              have y4 : w6.cell? ⟨H, 1, none⟩ = some (.int .i64 ln) := by
                rw [World.cell?_of_block (a := ⟨H, 1, none⟩) (hg.block H (by simp; omega) (fun e => by have := (HO.out.lt H e.symm).2; omega)), World.cell?_of_block (a := ⟨H, 1, none⟩) (Below.heap_alloc _ _ _ hH4)]
                exact y3
              have HPs6 := Lib.hid (pass_any HL6.out ln (by omega))
              clear hown hg y3 hB6 hFl
              go_wp2_with fail
              refine HPs6.out.mono ?_
              rintro e w7 ⟨rfl, hW7, hM7⟩
              have HL7 : Hid (LogAt w7 F a (v'.pass d.seen.length ln) d) := Lib.hid (HL6.out.moves hF hM7 hW7 rfl HPass.out)
              have HO7 : Hid (w7.ownsRow w.heap.size 9 1 v6 (m + 1) ((rs ++ [R]).map secV)) := Lib.hid (own_movesW HO6.out hM7 halt0)
              have HM7 : Hid (Moves (fun q => q = a) w w7) := Lib.hid (HM6.out.trans hM7 (fun _ h => Or.inl h))
              clear hW7 hM7
              obtain ⟨f', hf'⟩ : ∃ f', f = f' + 1 := ⟨f - 1, by have := HFu.out; omega⟩
              have HSc2 : Hid ((scanR d.seen n v).1 = (scanR d.seen f' (v'.pass d.seen.length ln)).1 ∧ (scanR d.seen n v).2 = (rs ++ [R]) ++ (scanR d.seen f' (v'.pass d.seen.length ln)).2) := Lib.hid (by
                have h1 := HSc.out
                rw [hf', scanR_go HYes.out, HRe.out] at h1
                exact ⟨h1.1, by rw [h1.2, List.append_assoc]; rfl⟩)
              have HFu2 : Hid (n - 2 * (v'.pass d.seen.length ln).slot - (v'.pass d.seen.length ln).used ≤ f') := Lib.hid (by
                have := HFu.out
                show n - 2 * v'.slot - (v'.used + (1 + secs ln)) ≤ f'
                omega)
              go_wp2_with fail
              go_roundg (f' + 1)
              case measure => omega
              case rel => exact ⟨m + 1, f', v'.pass d.seen.length ln, rs ++ [R], by rw [List.length_append, hm]; rfl, by show m + 1 ≤ v'.used + (1 + secs ln); omega, Nat.le_refl _, HFu2, HNum2, HL7, HO7, HM7, HSc2⟩
        · have hfz : (n : Int) - 2 * (v'.slot : Int) - (v'.used : Int) ≤ (ps : Int) := by omega
          have hfz' : decide ((n : Int) - 2 * (v'.slot : Int) - (v'.used : Int) ≤ (ps : Int)) = true := decide_eq_true hfz
          have HNo : Hid (recAt d.seen v' = none) := Lib.hid (by rw [HRec.out, if_neg (fun h => hfr h.2)])
          clear HRec hnum hfr
          go_wp2_with fail
          refine HS0.out.mono ?_
          rintro e w1 ⟨rfl, hb1⟩
          have cc := HCell.out p0 hp0n w1 hb1
          have HB1 := Lib.hid hb1
          clear hb1
          go_wp2_with fail
          refine (HDec.out _).mono ?_
          rintro e w2 ⟨rfl, hb2⟩
          have hB2 : Below wr.heap.size wr w2 := HB1.out.trans (hb2.mono HB1.out.size)
          have HB2 : Hid (Below wr.heap.size wr (w2.alloc (.cells #[.int .i64 num, .int .i64 ln] 111))) := Lib.hid (hB2.alloc hB2.size _)
          have HHd : Hid ((w2.alloc (.cells #[.int .i64 num, .int .i64 ln] 111)).heap[w2.heap.size]? = some (.cells #[.int .i64 num, .int .i64 ln] 111 (0, 0))) := Lib.hid (heap_alloc_new _ _)
          have hHw : wr.heap.size ≤ w2.heap.size := hB2.size
          clear hb2 cc hB2 HB1 HS0 HDec
          go_wp2_with fail
          have hHV : w2.heap.size < (w2.alloc (.cells #[.int .i64 num, .int .i64 ln] 111)).heap.size := by simp
          generalize (w2.alloc (.cells #[.int .i64 num, .int .i64 ln] 111)) = V at *
          generalize w2.heap.size = H at *
          have c0 : ∀ p : LatW V, p.wd.cell? ⟨H, 0, none⟩ = some (.int .i64 num) := fun p => p.cell (by rw [Lib.cell_of_heap HHd.out]; rfl) hHV
          have c1 : ∀ p : LatW V, p.wd.cell? ⟨H, 1, none⟩ = some (.int .i64 ln) := fun p => p.cell (by rw [Lib.cell_of_heap HHd.out]; rfl) hHV
          have HLV : Hid (LogAt V F a v' d) := Lib.hid (HL.out.later HB2.out)
          have D3 : ∀ p : LatW V, p.wd.cell? ⟨a, 3, none⟩ = some (.int .i64 v'.num) := fun p => ((HLV.out.later p.bel).wal.cells).2.2.2.1
          have HFr : Hid (∀ p : LatW V, Calls Tryz.prog 52 #[.pointer (some ⟨a, 0, none⟩)] p.wd fun e w' => e = .returned (.int .i64 ((n : Int) - 2 * (v'.slot : Int) - (v'.used : Int))) ∧ Below p.wd.heap.size p.wd w') := Lib.hid (fun p => by
            have := free_later (HLV.out.later p.bel)
            rw [HN.out] at this
            exact this)
          refine wp_region_later (by kernel_rfl) (by kernel_rfl) ?_
          repeat (quiet_step (first
            | (go_at_call 63; exact Calls.later_same (HPo.out _))
            | (go_at_call 52; exact Calls.later_of (HFr.out _))))
          refine wpQuiet_nil ?_
          intro w9 hw9
          obtain ⟨p9, hw9'⟩ := hw9
          subst hw9'
          have HEnd : Hid (RecsEnd w F a v d n (.returned (.slice A5 m c5)) p9.wd) := Lib.hid (HRet.out p9.wd (HB2.out.trans (p9.bel.mono HB2.out.size)) HNo.out)
          go_wp2_with fail
          go_ret
          exact HEnd.out
      · have hnz : (num != v'.num) = true := by rw [bne_iff_ne]; exact hnum
        have HNo : Hid (recAt d.seen v' = none) := Lib.hid (by rw [HRec.out, if_neg (fun h => hnum h.1)])
        clear HRec hnum
        go_wp2_with fail
        refine HS0.out.mono ?_
        rintro e w1 ⟨rfl, hb1⟩
        have cc := HCell.out p0 hp0n w1 hb1
        have HB1 := Lib.hid hb1
        clear hb1
        go_wp2_with fail
        refine (HDec.out _).mono ?_
        rintro e w2 ⟨rfl, hb2⟩
        have hB2 : Below wr.heap.size wr w2 := HB1.out.trans (hb2.mono HB1.out.size)
        have HB2 : Hid (Below wr.heap.size wr (w2.alloc (.cells #[.int .i64 num, .int .i64 ln] 111))) := Lib.hid (hB2.alloc hB2.size _)
        have HHd : Hid ((w2.alloc (.cells #[.int .i64 num, .int .i64 ln] 111)).heap[w2.heap.size]? = some (.cells #[.int .i64 num, .int .i64 ln] 111 (0, 0))) := Lib.hid (heap_alloc_new _ _)
        have hHw : wr.heap.size ≤ w2.heap.size := hB2.size
        clear hb2 cc hB2 HB1 HS0 HDec
        go_wp2_with fail
        have hHV : w2.heap.size < (w2.alloc (.cells #[.int .i64 num, .int .i64 ln] 111)).heap.size := by simp
        generalize (w2.alloc (.cells #[.int .i64 num, .int .i64 ln] 111)) = V at *
        generalize w2.heap.size = H at *
        have c0 : ∀ p : LatW V, p.wd.cell? ⟨H, 0, none⟩ = some (.int .i64 num) := fun p => p.cell (by rw [Lib.cell_of_heap HHd.out]; rfl) hHV
        have c1 : ∀ p : LatW V, p.wd.cell? ⟨H, 1, none⟩ = some (.int .i64 ln) := fun p => p.cell (by rw [Lib.cell_of_heap HHd.out]; rfl) hHV
        have HLV : Hid (LogAt V F a v' d) := Lib.hid (HL.out.later HB2.out)
        have D3 : ∀ p : LatW V, p.wd.cell? ⟨a, 3, none⟩ = some (.int .i64 v'.num) := fun p => ((HLV.out.later p.bel).wal.cells).2.2.2.1
        have HFr : Hid (∀ p : LatW V, Calls Tryz.prog 52 #[.pointer (some ⟨a, 0, none⟩)] p.wd fun e w' => e = .returned (.int .i64 ((n : Int) - 2 * (v'.slot : Int) - (v'.used : Int))) ∧ Below p.wd.heap.size p.wd w') := Lib.hid (fun p => by
          have := free_later (HLV.out.later p.bel)
          rw [HN.out] at this
          exact this)
        refine wp_region_later (by kernel_rfl) (by kernel_rfl) ?_
        repeat (quiet_step (first
          | (go_at_call 63; exact Calls.later_same (HPo.out _))
          | (go_at_call 52; exact Calls.later_of (HFr.out _))))
        refine wpQuiet_nil ?_
        intro w9 hw9
        obtain ⟨p9, hw9'⟩ := hw9
        subst hw9'
        have HEnd : Hid (RecsEnd w F a v d n (.returned (.slice A5 m c5)) p9.wd) := Lib.hid (HRet.out p9.wd (HB2.out.trans (p9.bel.mono HB2.out.size)) HNo.out)
        go_wp2_with fail
        go_ret
        exact HEnd.out
end Go.Proofs.YtlelfakememckaaGreatDoor
