/- Contract of the document's TakeWrites. -/
import Derived.Test.YtkpoeigoocbgeaaMsgE
namespace Go.Proofs.Ytkpoeigoocbgeaa
open Go.RowKit

/-- What is left to be read, behind the writes L. -/
def Going17 (whole : Option (List Wr × List UInt8)) (n : Nat) (L : List Wr) (r : List UInt8) : Prop := whole = (wrsGo n r).map (fun p => (L ++ p.1, p.2))
theorem going17_start (n : Nat) (r : List UInt8) : Going17 (wrsGo n r) n [] r := by
  unfold Going17
  cases wrsGo n r with
  | none => rfl
  | some p => rfl
theorem going17_step {whole : Option (List Wr × List UInt8)} {n : Nat} {L : List Wr} {r : List UInt8} (h : Going17 whole (n + 1) L r) (hc : 4 ≤ r.length ∧ 4 + wrZ r ≤ r.length) : Going17 whole n (L ++ [wrOf r]) (r.drop (4 + wrZ r)) := by
  unfold Going17 at h ⊢
  rw [h]
  show Option.map _ (if _ then _ else _) = _
  rw [if_pos hc]
  cases wrsGo n (r.drop (4 + wrZ r)) with
  | none => rfl
  | some p => simp
theorem going17_lack {whole : Option (List Wr × List UInt8)} {n : Nat} {L : List Wr} {r : List UInt8} (h : Going17 whole (n + 1) L r) (hc : ¬ (4 ≤ r.length ∧ 4 + wrZ r ≤ r.length)) : whole = none := by
  unfold Going17 at h
  rw [h]
  show Option.map _ (if _ then _ else _) = _
  rw [if_neg hc]; rfl
theorem going17_end {whole : Option (List Wr × List UInt8)} {L : List Wr} {r : List UInt8} (h : Going17 whole 0 L r) : whole = some (L, r) := by
  unfold Going17 at h
  rw [h]
  show some (L ++ [], r) = _
  rw [List.append_nil]
/-- What TakeWrites answers. -/
def WsEnd17 (r : List UInt8) (k : Nat) (w : World) (e : Ending) (w' : World) : Prop :=
  (∃ ws rest A c, wsAt r = some (ws, rest) ∧ writable ws = true ∧ e = .returned (.tuple #[.slice A ws.length c, .int .i64 ((k + (r.length - rest.length) : Nat) : Int), .bool true]) ∧ WrsAt w' w'.heap.size A ws ∧ Below w.heap.size w w') ∨
  ((∀ ws rest, wsAt r = some (ws, rest) → writable ws = false) ∧ ∃ v i, e = .returned (.tuple #[v, .int .i64 i, .bool false]) ∧ Below w.heap.size w w')
theorem Try.infoWr17 : (Try.prog.info? 65).map (fun i => (i.zero, i.size, i.bytes)) = some (some (.agg #[.int .i64 0, .int .i64 0, .string ⟨#[]⟩]), 3, 32) := by kernel_rfl
theorem ws_none {s : List UInt8} {k : Nat} (h : atOk s k 2 = false) : wsAt (s.drop k) = none := by
  unfold wsAt
  rw [if_pos]
  rw [List.length_drop]
  have : ¬ (k + 2 ≤ s.length) := fun e => by
    have : atOk s k 2 = true := (atOk_iff _ _ _).2 ⟨e, Nat.lt_trans (dec_take_lt256 _ 2) (by omega)⟩
    rw [h] at this; cases this
  omega
theorem ws_some {s : List UInt8} {k : Nat} (h : atOk s k 2 = true) : wsAt (s.drop k) = wrsGo (atN s k 2) (s.drop (k + 2)) ∧ atN s k 2 < 65536 := by
  have h1 := ((atOk_iff _ _ _).1 h).1
  unfold wsAt
  rw [if_neg (by rw [List.length_drop]; omega), atN_ok h, List.drop_drop]
  exact ⟨rfl, dec_take_lt256 _ 2⟩
theorem size_at {s : List UInt8} {q : Nat} (h : atOk s (q + 2) 2 = true) : atN s (q + 2) 2 = wrZ (s.drop q) := by
  rw [atN_ok h]; unfold wrZ; rw [List.drop_drop]
theorem dec_byte {s : List UInt8} {q : Nat} (h : q < s.length) : dec ((s.drop q).take 1) = s[q].toNat := by
  rw [show (s.drop q).take 1 = [s[q]] from by rw [List.drop_eq_getElem_cons h]; rfl]
  simp [dec]
theorem wr_at {s : List UInt8} {q : Nat} (h1 : q < s.length) (h2 : q + 1 < s.length) : wrOf (s.drop q) = ⟨(s[q].toNat : Int), (s[q + 1].toNat : Int), str ((s.drop (q + 4)).take (wrZ (s.drop q)))⟩ := by
  unfold wrOf
  rw [dec_byte h1, List.drop_drop, dec_byte h2, List.drop_drop]
theorem wrap64_byte (c : UInt8) : wrap64 ((c.toNat : Nat) : Int) = ((c.toNat : Nat) : Int) := by
  have := c.toNat_lt
  unfold wrap64; omega
theorem cell_three17 (w : World) (x y z : Value) (t : TypeId) : ∀ j u, [x, y, z][j]? = some u → (w.alloc (.cells #[x, y, z] t)).cell? ((⟨w.heap.size, 0, none⟩ : Addr).add j) = some u := by
  intro j u hj
  exact World.news_of_block (cs := #[x, y, z]) (t := t) (fr := (0, 0)) (heap_new w _) j u (by simpa using hj)

set_option maxHeartbeats 4000000 in
set_option maxRecDepth 100000 in
theorem takeWrites17_any (s : List UInt8) (k : Nat) (w : World) (hk : k ≤ 1125899906842624) (hs : s.length ≤ 1125899906842624) :
    Calls Try.prog 20 #[.string (str s), .int .i64 (k : Int)] w (WsEnd17 (s.drop k) k w) := by
  have HA0 := Lib.hid (at17_any s k 2 w (by omega) (by omega) (by omega) (by omega))
  rw [show ((2 : Nat) : Int) = 2 from rfl] at HA0
  by_cases h0 : atOk s k 2 = true
  case neg =>
    have h0' : atOk s k 2 = false := by rw [Bool.eq_false_iff]; exact h0
    have HE : Hid (∀ v i w', Below w.heap.size w w' → WsEnd17 (s.drop k) k w (.returned (.tuple #[v, .int .i64 i, .bool false])) w') := Lib.hid (fun v i w' hb => .inr ⟨fun ws rest e => (by rw [ws_none h0'] at e; cases e), v, i, rfl, hb⟩)
    rw [h0'] at HA0
    clear h0 h0'
    go_enter Try.func20, Try.ntmps20
    go_wp2_with (go_at_call 38; (with_reducible refine HA0.out.mono ?_); rintro e w1 ⟨rfl, rfl⟩)
    go_ret3
    exact HE.out _ _ _ (Below.refl _ _)
  have hlen0 := ((atOk_iff _ _ _).1 h0).1
  obtain ⟨hws, hn6⟩ := ws_some h0
  obtain ⟨n, hn⟩ : ∃ n, atN s k 2 = n := ⟨_, rfl⟩
  rw [hn] at hws hn6 HA0
  rw [h0] at HA0
  have HNo : Hid (wsAt (s.drop k) = none → ∀ v i w', Below w.heap.size w w' → WsEnd17 (s.drop k) k w (.returned (.tuple #[v, .int .i64 i, .bool false])) w') := Lib.hid (fun hz v i w' hb => .inr ⟨fun ws rest e => (by rw [hz] at e; cases e), v, i, rfl, hb⟩)
  have HNo2 : Hid (∀ L r, wsAt (s.drop k) = some (L, r) → writable L = false → ∀ v i w', Below w.heap.size w w' → WsEnd17 (s.drop k) k w (.returned (.tuple #[v, .int .i64 i, .bool false])) w') := Lib.hid (fun L r hz hf v i w' hb => .inr ⟨fun ws rest e => (by
    rw [hz] at e
    simp only [Option.some.injEq, Prod.mk.injEq] at e
    rw [← e.1]; exact hf), v, i, rfl, hb⟩)
  have HYe : Hid (∀ L q, wsAt (s.drop k) = some (L, s.drop q) → k ≤ q → q ≤ s.length → writable L = true → ∀ A c w', WrsAt w' w'.heap.size A L → Below w.heap.size w w' → WsEnd17 (s.drop k) k w (.returned (.tuple #[.slice A L.length c, .int .i64 (q : Int), .bool true])) w') := Lib.hid (fun L q hz h1 h2 hf A c w' hA hb => .inl ⟨L, s.drop q, A, c, hz, hf, by rw [show k + ((s.drop k).length - (s.drop q).length) = q from by rw [List.length_drop, List.length_drop]; omega], hA, hb⟩)
  have HWs := Lib.hid hws
  have HAt := Lib.hid (fun (q : Nat) (w : World) (hq : q ≤ 1125899906842624) => at17_any s (q + 2) 2 w (by omega) (by omega) (by omega) (by omega))
  rw [show ((2 : Nat) : Int) = 2 from rfl] at HAt
  have HAt : Hid (∀ (q : Nat) (w : World), q ≤ 1125899906842624 → Calls Try.prog 38 #[.string (str s), .int .i64 ((q : Int) + 2), .int .i64 2] w fun e w' => e = .returned (.tuple #[.int .i64 (atN s (q + 2) 2 : Int), .bool (atOk s (q + 2) 2)]) ∧ w = w') := Lib.hid (fun q w hq => by
    have := HAt.out q w hq
    rw [show ((q + 2 : Nat) : Int) = (q : Int) + 2 from by omega] at this
    exact this)
  have HSz := Lib.hid (fun q (h : atOk s (q + 2) 2 = true) => And.intro (size_at h) ((atOk_iff _ _ _).1 h).1)
  obtain ⟨T, hT⟩ : ∃ T, str s = T := ⟨_, rfl⟩
  have HSZ : Hid (T.size = s.length) := Lib.hid (by rw [← hT, str_size])
  have HT := Lib.hid hT
  rw [hT] at HA0 HAt ⊢
  obtain ⟨i0, hi0, hz0, hz1, hz2⟩ := info_parts Try.infoWr17
  clear h0 hws hn hT
  go_enter Try.func20, Try.ntmps20
  have w0 : IntKind.i64.wrap ((k : Int) + 2) = ((k + 2 : Nat) : Int) := by rw [IntKind.wrap_i64]; omega
  go_wp2_with (go_at_call 38; (with_reducible refine HA0.out.mono ?_); rintro e w1 ⟨rfl, rfl⟩)
  go_loopw [1, 9, 10] (fun f v i wr => ∃ (j q : Nat) (L : List Wr) (A' : Option Addr) (c' : Nat), j ≤ n ∧ k + 2 ≤ q ∧ q ≤ s.length ∧ i = .int .i64 j ∧ f = .int .i64 (q : Int) ∧ v = .slice A' j c' ∧ Hid (Going17 (wsAt (s.drop k)) (n - j) L (s.drop q)) ∧ Hid (wr.ownsRow w.heap.size 65 3 (.slice A' j c') j (wrCells L) ∧ L.length = j) ∧ Hid (Below w.heap.size w wr)) (fun _ _ i _ => n - (intOf i).toNat)
  case atStart => exact ⟨0, k + 2, [], none, 0, by omega, by omega, by omega, rfl, by simp, rfl, Lib.hid (by rw [HWs.out]; exact going17_start _ _), Lib.hid ⟨World.ownsRow_nil _ _ _ _, rfl⟩, Lib.hid (Below.refl _ _)⟩
  case round =>
    obtain ⟨j, q, L, A', c', hj, hq1, hq2, rfl, rfl, rfl, HG, HO, HB⟩ := hrel
    have hwz : w.heap.size ≤ wr.heap.size := HB.out.size
    by_cases hjn : j < n
    · have hjn2 : (j : Int) < (n : Int) := by omega
      have HG2 : Hid (Going17 (wsAt (s.drop k)) ((n - (j + 1)) + 1) L (s.drop q)) := Lib.hid (by have := HG.out; rwa [show n - j = n - (j + 1) + 1 from by omega] at this)
      have w1 : IntKind.i64.wrap ((q : Int) + 2) = (q : Int) + 2 := by rw [IntKind.wrap_i64]; omega
      have w4 : IntKind.i64.wrap ((q : Int) + 4) = (q : Int) + 4 := by rw [IntKind.wrap_i64]; omega
      have HA1 := Lib.hid (HAt.out q wr (by omega))
      by_cases o1 : atOk s (q + 2) 2 = true
      case neg =>
        have o1' : atOk s (q + 2) 2 = false := by rw [Bool.eq_false_iff]; exact o1
        have hlack : ¬ (4 ≤ (s.drop q).length ∧ 4 + wrZ (s.drop q) ≤ (s.drop q).length) := fun e => o1 ((atOk_iff _ _ _).2 ⟨by have := e.1; rw [List.length_drop] at this; omega, Nat.lt_trans (dec_take_lt256 _ 2) (by omega)⟩)
        have HE := Lib.hid (HNo.out (going17_lack HG2.out hlack))
        rw [o1'] at HA1
        clear o1 o1' hlack
        go_wp2_with (go_at_call 38; (with_reducible refine HA1.out.mono ?_); rintro e w9 ⟨rfl, rfl⟩)
        go_ret3
        exact HE.out _ _ _ HB.out
      obtain ⟨hz, hl4⟩ := HSz.out q o1
      rw [o1, hz] at HA1
      have hz6 : wrZ (s.drop q) < 65536 := by rw [← hz]; exact (show atN s (q + 2) 2 < 65536 from by rw [atN_ok o1]; exact dec_take_lt256 _ 2)
      have hrl : (s.drop q).length = s.length - q := List.length_drop
      have HStep := Lib.hid (fun hc => going17_step HG2.out hc)
      have HLack := Lib.hid (fun hc => going17_lack HG2.out hc)
      have hwr := @wr_at s q (by omega) (by omega)
      obtain ⟨z, hzz⟩ : ∃ z, wrZ (s.drop q) = z := ⟨_, rfl⟩
      rw [hzz] at HA1 hz6 HStep HLack hwr
      rw [hrl] at HStep HLack
      have w5 : IntKind.i64.wrap ((q : Int) + 4 + (z : Int)) = (q : Int) + 4 + (z : Int) := by rw [IntKind.wrap_i64]; omega
      clear o1 hz hzz hrl
      by_cases hfit : q + 4 + z ≤ s.length
      case neg =>
        have hfit2 : (T.size : Int) < (q : Int) + 4 + (z : Int) := by have := HSZ.out; omega
        have HE := Lib.hid (HNo.out (HLack.out (fun e => by omega)))
        clear hwr
        go_wp2_with (go_at_call 38; (with_reducible refine HA1.out.mono ?_); rintro e w9 ⟨rfl, rfl⟩)
        go_ret3
        exact HE.out _ _ _ HB.out
      have hfit2 : ¬ (T.size : Int) < (q : Int) + 4 + (z : Int) := by have := HSZ.out; omega
      have HSt := Lib.hid (HStep.out (by omega))
      have hq0 : (0 : Int) ≤ (q : Int) := by omega
      have hqT : (q : Int) < (T.size : Int) := by have := HSZ.out; omega
      have hqT1 : (q : Int) + 1 < (T.size : Int) := by have := HSZ.out; omega
      have hq10 : (0 : Int) ≤ (q : Int) + 1 := by omega
      have hq11 : q + 1 < T.size := by omega
      have hq12 : q < T.size := by omega
      have w6 : IntKind.i64.wrap ((q : Int) + 1) = (q : Int) + 1 := by rw [IntKind.wrap_i64]; omega
      have hs1 : (q : Int) + 4 ≤ (q : Int) + 4 + (z : Int) := by omega
      have hs2 : (q : Int) + 4 + (z : Int) ≤ (T.size : Int) := by have := HSZ.out; omega
      go_upto_region 12 with (go_at_call 38; (with_reducible refine HA1.out.mono ?_); rintro e w9 ⟨rfl, rfl⟩)
      have t0 : (0 : Int) ≤ (q : Int) + 4 + (z : Int) := by omega
      have t1 : (0 : Int) ≤ (q : Int) + 4 := by omega
      have t2 : ((q : Int) + 4).toNat = q + 4 := by omega
      have t3 : ((q : Int) + 4 + (z : Int)).toNat = q + 4 + z := by omega
      have hqs : q < s.length := by have := HSZ.out; omega
      have g0 : T[q] = s[q] := by have := HT.out; subst this; rfl
      have g1 : T[q + 1] = s[q + 1] := by have := HT.out; subst this; rfl
      have g2 : T.extract (q + 4) (q + 4 + z) = str ((s.drop (q + 4)).take z) := by rw [← str_of (T.extract (q + 4) (q + 4 + z)), extract_mid17, show T.data.toList = s from by rw [← HT.out]; rfl]
      rw [← g0, ← g1, ← g2] at hwr
      obtain ⟨b0, hb0⟩ : ∃ b, T[q].toNat = b := ⟨_, rfl⟩
      obtain ⟨b1, hb1⟩ : ∃ b, T[q + 1].toNat = b := ⟨_, rfl⟩
      obtain ⟨X, hX⟩ : ∃ X, T.extract (q + 4) (q + 4 + z) = X := ⟨_, rfl⟩
      have hl0 : b0 < 256 := by rw [← hb0]; exact T[q].toNat_lt
      have hl1 : b1 < 256 := by rw [← hb1]; exact T[q + 1].toNat_lt
      rw [hb0, hb1, hX] at hwr
      have w7 : IntKind.i64.wrap (b0 : Int) = (b0 : Int) := by rw [IntKind.wrap_i64]; omega
      have w8 : IntKind.i64.wrap (b1 : Int) = (b1 : Int) := by rw [IntKind.wrap_i64]; omega
      have HWr : Hid (wrCells (L ++ [wrOf (s.drop q)]) = wrCells L ++ [.int .i64 (b0 : Int), .int .i64 (b1 : Int), .string X]) := Lib.hid (by rw [wrCells_append, hwr]; rfl)
      clear g0 g1 g2 hwr
      have hfit3 : j + 1 ≤ maxLen := by unfold maxLen; omega
      have hfit4 : (j + 1) * 32 ≤ 140737488355328 := by omega
      have HOd : Hid (wr.drew.ownsRow w.heap.size 65 3 (.slice A' j c') j (wrCells L)) := Lib.hid HO.out.1
      have HLl := Lib.hid HO.out.2
      go_region_law (refine step_append_lies _ (by rfl) (.tmp 46) (.tmp 65) 35 (by rfl) w.heap.size 65 i0 (.agg #[.int .i64 0, .int .i64 0, .string ⟨#[]⟩]) 3 32 Try.underlying35 hi0 hz0 hz1 hz2 rfl (by decide) (.slice A' j c') j (wrCells L) (by rfl) (HOd.out.alloc _) ⟨wr.heap.size, 0, none⟩ 1 1 [.int .i64 (b0 : Int), .int .i64 (b1 : Int), .string X] (by rfl) (by rfl) (cell_three17 _ _ _ _ _) (by simp [Value.oneCell']) (by omega) hfit3 hfit4 (by simp; omega) (wr.heap.size + 1) (by simp) ?_; intro g cap w6 hown hg hat hltg; have HOw6 := Lib.hid hown; have HG6 := Lib.hid hg; clear hown hg hat hltg)
      all_goals
        have HB6 := Lib.hid ((HB.out.drew.alloc hwz (.cells #[.int .i64 (b0 : Int), .int .i64 (b1 : Int), .string X] 65)).grown HG6.out (by simp; omega) (fun r hr => (HOd.out.lt r hr).1))
        have HO6 : Hid (w6.ownsRow w.heap.size 65 3 (.slice (some ⟨g, 0, none⟩) (j + 1) cap) (j + 1) (wrCells (L ++ [wrOf (s.drop q)])) ∧ (L ++ [wrOf (s.drop q)]).length = j + 1) := Lib.hid ⟨by rw [HWr.out]; exact HOw6.out, by rw [List.length_append, HLl.out]; rfl⟩
        have HG9 : Hid (Going17 (wsAt (s.drop k)) (n - (j + 1)) (L ++ [wrOf (s.drop q)]) (s.drop (q + 4 + z))) := Lib.hid (by have := HSt.out; rwa [List.drop_drop, show q + (4 + z) = q + 4 + z from by omega] at this)
        clear hb0 hb1 hX hl0 hl1
        go_wp2_with fail
        go_roundw
        case rel => exact ⟨j + 1, q + 4 + z, L ++ [wrOf (s.drop q)], some ⟨g, 0, none⟩, cap, by omega, by omega, by omega, by go_num, by simp, rfl, HG9, HO6, HB6⟩
        case measure => simp [intOf]; omega
    · obtain rfl : j = n := by omega
      have hjn2 : ¬ (j : Int) < (j : Int) := by omega
      have hend := going17_end (by have := HG.out; rwa [Nat.sub_self] at this)
      obtain ⟨A9, c9, he9, _, hl9⟩ := own_lies HO.out.1
      simp only [Value.slice.injEq] at he9
      obtain ⟨rfl, _, rfl⟩ := he9
      have HBa := Lib.hid (WrsAt.of_lies hl9)
      have hwn := writable17_any (c := c') HBa.out (by have := HO.out.2; omega)
      have HYq := Lib.hid (fun hf => HYe.out L q hend (by omega) hq2 hf)
      have HNq := Lib.hid (fun hf => HNo2.out L _ hend hf)
      rw [HO.out.2] at hwn HYq
      have HWn := Lib.hid hwn
      clear hend hl9 hwn
      cases hok : writable L with
      | true =>
        have HOk := Lib.hid hok
        rw [hok] at HWn
        clear hok
        go_wp2_with (go_at_call 17; (with_reducible refine HWn.out.mono ?_); rintro e w9 ⟨rfl, hb9⟩; have HB9 := Lib.hid hb9; clear hb9)
        go_ret3
        exact HYq.out HOk.out A' c' _ (HBa.out.next HB9.out) (below_next HB.out HB9.out)
      | false =>
        have HOk := Lib.hid hok
        rw [hok] at HWn
        clear hok
        go_wp2_with (go_at_call 17; (with_reducible refine HWn.out.mono ?_); rintro e w9 ⟨rfl, hb9⟩; have HB9 := Lib.hid hb9; clear hb9)
        go_ret3
        exact HNq.out HOk.out _ _ _ (below_next HB.out HB9.out)
end Go.Proofs.Ytkpoeigoocbgeaa
