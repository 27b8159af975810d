/- The contract of (*ends).act: an end puts a piece, or ticks. The contract of (*ends).act: a packet comes. The contract of (*ends).act: a packet is lost, doubled, turned. The contract of (*ends).act. -/
import Derived.Test.YtdhmkcomngbmaaaLinkCp
import Derived.Test.YtdhmkcomngbmaaaLinkCq
import Derived.Test.YtdhmkcomngbmaaaLinkSd
namespace Go.Proofs.Ytdhmkcomngbmaaa
open Go.RowKit

theorem sends_len (who : Nat) : ∀ (ps : List (List UInt8)) (l : Line), (l.sends who ps).net.length ≤ l.net.length + ps.length
  | [], l => by show l.net.length ≤ _; omega
  | s :: ps, l => by
    have h := sends_len who ps (l.send ⟨1 - who, s, false⟩)
    have h2 : (l.send ⟨1 - who, s, false⟩).net.length ≤ l.net.length + 1 := by
      unfold Line.send
      split
      · show (l.net ++ [_]).length ≤ _; rw [List.length_append]; simp
      · omega
    show ((l.send ⟨1 - who, s, false⟩).sends who ps).net.length ≤ _
    simp only [List.length_cons]
    omega
theorem wrap_u64_at (k : Int) : IntKind.u64.wrap k = ((k % 18446744073709551616).toNat : Int) := by
  rw [IntKind.wrap_u64]; omega
/-- What a line may hold. -/
structure LnIn (l : Line) : Prop where
  net : l.net.length ≤ 200
  each : ∀ q ∈ l.net, q.s.length ≤ 10000
  put : ∀ i, i < 2 → (l.st i).put.length ≤ 1000
  came : ∀ i, i < 2 → (l.st i).came.length ≤ 1000
  ok : ∀ i, i < 2 → (l.st i).x.Ok
  to2 : ∀ q ∈ l.net, q.to_ < 2
  ne : ∀ q ∈ l.net, q.s ≠ []

set_option maxHeartbeats 4000000 in
set_option maxRecDepth 100000 in
theorem act_0 {B H : Nat} {w : World} {l : Line} {m : LnM} (h : LnAt B H w l m) (hi : LnIn l) (hB : B ≤ w.heap.size) (kd nd : Int) (p : List UInt8) (hk : (kd % 18446744073709551616).toNat % 12 = 0) :
    Calls Try.prog 25 #[.pointer (some ⟨H, 0, none⟩), .agg #[.int .i64 kd, .int .i64 nd, .string (str p)]] w (LnEnd B H (actL l 0 (nd % 18446744073709551616).toNat p) w) := by
  have HL := Lib.hid h
  have HI := Lib.hid hi
  have hHlt := h.lt
  obtain ⟨U, hU⟩ : ∃ U, (kd % 18446744073709551616).toNat = U := ⟨_, rfl⟩
  obtain ⟨N, hN⟩ : ∃ N, (nd % 18446744073709551616).toNat = N := ⟨_, rfl⟩
  have hw1 : IntKind.u64.wrap kd = (U : Int) := by rw [wrap_u64_at, hU]
  have hw2 : IntKind.u64.wrap nd = (N : Int) := by rw [wrap_u64_at, hN]
  rw [hU] at hk
  have hm1 : (U : Int).tmod 12 = 0 := by rw [Int.tmod_eq_emod_of_nonneg (by omega)]; omega
  rw [hN]
  obtain ⟨V, hV⟩ : ∃ V, V = w.alloc (.cells #[.int .i64 kd, .int .i64 nd, .string (str p)] 55) := ⟨_, rfl⟩
  have hbV := below_one w (.cells #[.int .i64 kd, .int .i64 nd, .string (str p)] 55)
  have hPb := heap_new w (.cells #[.int .i64 kd, .int .i64 nd, .string (str p)] 55 (0, 0))
  rw [← hV] at hbV hPb
  have HBV := Lib.hid hbV
  have HPb := Lib.hid hPb
  have hBV : B ≤ V.heap.size := by have := hbV.size; omega
  have HLV := Lib.hid (HL.out.later hbV)
  have a0 : V.cell? ⟨w.heap.size, 0, none⟩ = some (.int .i64 kd) := Lib.cell_of_heap hPb 0
  have a1 : V.cell? ⟨w.heap.size, 1, none⟩ = some (.int .i64 nd) := Lib.cell_of_heap hPb 1
  have a2 : V.cell? ⟨w.heap.size, 2, none⟩ = some (.string (str p)) := Lib.cell_of_heap hPb 2
  have HV := Lib.hid hV
  clear h hi hU hN hV hbV hPb hk
  have HPs := Lib.hid (puts_any0 HLV.out (by have := HI.out.net; omega) (HI.out.put 0 (by omega)) (HI.out.ok 0 (by omega)) hBV p)
  go_enter Try.func25, Try.ntmps25
  go_upto_region 1 with fail
  rw [← HV.out]
  have HE : Hid (actL l 0 N p = l.puts 0 p) := Lib.hid rfl
  go_wp2_with (go_at_call 43; (with_reducible refine HPs.out.mono ?_); rintro e W7 ⟨rfl, hL7, hB7⟩)
  go_end0
  exact ⟨rfl, by rw [HE.out]; exact hL7, (HBV.out.mono (Nat.le_of_lt hHlt)).trans hB7⟩

set_option maxHeartbeats 4000000 in
set_option maxRecDepth 100000 in
theorem act_1 {B H : Nat} {w : World} {l : Line} {m : LnM} (h : LnAt B H w l m) (hi : LnIn l) (hB : B ≤ w.heap.size) (kd nd : Int) (p : List UInt8) (hk : (kd % 18446744073709551616).toNat % 12 = 1) :
    Calls Try.prog 25 #[.pointer (some ⟨H, 0, none⟩), .agg #[.int .i64 kd, .int .i64 nd, .string (str p)]] w (LnEnd B H (actL l 1 (nd % 18446744073709551616).toNat p) w) := by
  have HL := Lib.hid h
  have HI := Lib.hid hi
  have hHlt := h.lt
  obtain ⟨U, hU⟩ : ∃ U, (kd % 18446744073709551616).toNat = U := ⟨_, rfl⟩
  obtain ⟨N, hN⟩ : ∃ N, (nd % 18446744073709551616).toNat = N := ⟨_, rfl⟩
  have hw1 : IntKind.u64.wrap kd = (U : Int) := by rw [wrap_u64_at, hU]
  have hw2 : IntKind.u64.wrap nd = (N : Int) := by rw [wrap_u64_at, hN]
  rw [hU] at hk
  have hm1 : (U : Int).tmod 12 = 1 := by rw [Int.tmod_eq_emod_of_nonneg (by omega)]; omega
  rw [hN]
  obtain ⟨V, hV⟩ : ∃ V, V = w.alloc (.cells #[.int .i64 kd, .int .i64 nd, .string (str p)] 55) := ⟨_, rfl⟩
  have hbV := below_one w (.cells #[.int .i64 kd, .int .i64 nd, .string (str p)] 55)
  have hPb := heap_new w (.cells #[.int .i64 kd, .int .i64 nd, .string (str p)] 55 (0, 0))
  rw [← hV] at hbV hPb
  have HBV := Lib.hid hbV
  have HPb := Lib.hid hPb
  have hBV : B ≤ V.heap.size := by have := hbV.size; omega
  have HLV := Lib.hid (HL.out.later hbV)
  have a0 : V.cell? ⟨w.heap.size, 0, none⟩ = some (.int .i64 kd) := Lib.cell_of_heap hPb 0
  have a1 : V.cell? ⟨w.heap.size, 1, none⟩ = some (.int .i64 nd) := Lib.cell_of_heap hPb 1
  have a2 : V.cell? ⟨w.heap.size, 2, none⟩ = some (.string (str p)) := Lib.cell_of_heap hPb 2
  have HV := Lib.hid hV
  clear h hi hU hN hV hbV hPb hk
  have HPs := Lib.hid (puts_any0 HLV.out (by have := HI.out.net; omega) (HI.out.put 0 (by omega)) (HI.out.ok 0 (by omega)) hBV p)
  go_enter Try.func25, Try.ntmps25
  go_upto_region 1 with fail
  rw [← HV.out]
  have HE : Hid (actL l 1 N p = l.puts 0 p) := Lib.hid rfl
  go_wp2_with (go_at_call 43; (with_reducible refine HPs.out.mono ?_); rintro e W7 ⟨rfl, hL7, hB7⟩)
  go_end0
  exact ⟨rfl, by rw [HE.out]; exact hL7, (HBV.out.mono (Nat.le_of_lt hHlt)).trans hB7⟩

set_option maxHeartbeats 4000000 in
set_option maxRecDepth 100000 in
theorem act_2 {B H : Nat} {w : World} {l : Line} {m : LnM} (h : LnAt B H w l m) (hi : LnIn l) (hB : B ≤ w.heap.size) (kd nd : Int) (p : List UInt8) (hk : (kd % 18446744073709551616).toNat % 12 = 2) :
    Calls Try.prog 25 #[.pointer (some ⟨H, 0, none⟩), .agg #[.int .i64 kd, .int .i64 nd, .string (str p)]] w (LnEnd B H (actL l 2 (nd % 18446744073709551616).toNat p) w) := by
  have HL := Lib.hid h
  have HI := Lib.hid hi
  have hHlt := h.lt
  obtain ⟨U, hU⟩ : ∃ U, (kd % 18446744073709551616).toNat = U := ⟨_, rfl⟩
  obtain ⟨N, hN⟩ : ∃ N, (nd % 18446744073709551616).toNat = N := ⟨_, rfl⟩
  have hw1 : IntKind.u64.wrap kd = (U : Int) := by rw [wrap_u64_at, hU]
  have hw2 : IntKind.u64.wrap nd = (N : Int) := by rw [wrap_u64_at, hN]
  rw [hU] at hk
  have hm1 : (U : Int).tmod 12 = 2 := by rw [Int.tmod_eq_emod_of_nonneg (by omega)]; omega
  rw [hN]
  obtain ⟨V, hV⟩ : ∃ V, V = w.alloc (.cells #[.int .i64 kd, .int .i64 nd, .string (str p)] 55) := ⟨_, rfl⟩
  have hbV := below_one w (.cells #[.int .i64 kd, .int .i64 nd, .string (str p)] 55)
  have hPb := heap_new w (.cells #[.int .i64 kd, .int .i64 nd, .string (str p)] 55 (0, 0))
  rw [← hV] at hbV hPb
  have HBV := Lib.hid hbV
  have HPb := Lib.hid hPb
  have hBV : B ≤ V.heap.size := by have := hbV.size; omega
  have HLV := Lib.hid (HL.out.later hbV)
  have a0 : V.cell? ⟨w.heap.size, 0, none⟩ = some (.int .i64 kd) := Lib.cell_of_heap hPb 0
  have a1 : V.cell? ⟨w.heap.size, 1, none⟩ = some (.int .i64 nd) := Lib.cell_of_heap hPb 1
  have a2 : V.cell? ⟨w.heap.size, 2, none⟩ = some (.string (str p)) := Lib.cell_of_heap hPb 2
  have HV := Lib.hid hV
  clear h hi hU hN hV hbV hPb hk
  have HPs := Lib.hid (puts_any1 HLV.out (by have := HI.out.net; omega) (HI.out.put 1 (by omega)) (HI.out.ok 1 (by omega)) hBV p)
  go_enter Try.func25, Try.ntmps25
  go_upto_region 1 with fail
  rw [← HV.out]
  have HE : Hid (actL l 2 N p = l.puts 1 p) := Lib.hid rfl
  go_wp2_with (go_at_call 43; (with_reducible refine HPs.out.mono ?_); rintro e W7 ⟨rfl, hL7, hB7⟩)
  go_end0
  exact ⟨rfl, by rw [HE.out]; exact hL7, (HBV.out.mono (Nat.le_of_lt hHlt)).trans hB7⟩

set_option maxHeartbeats 4000000 in
set_option maxRecDepth 100000 in
theorem act_3_0 {B H : Nat} {w : World} {l : Line} {m : LnM} (h : LnAt B H w l m) (hi : LnIn l) (hB : B ≤ w.heap.size) (kd nd : Int) (p : List UInt8) (hk : (kd % 18446744073709551616).toNat % 12 = 3) (hn : (nd % 18446744073709551616).toNat % 2 = 0) :
    Calls Try.prog 25 #[.pointer (some ⟨H, 0, none⟩), .agg #[.int .i64 kd, .int .i64 nd, .string (str p)]] w (LnEnd B H (actL l 3 (nd % 18446744073709551616).toNat p) w) := by
  have HL := Lib.hid h
  have HI := Lib.hid hi
  have hHlt := h.lt
  obtain ⟨U, hU⟩ : ∃ U, (kd % 18446744073709551616).toNat = U := ⟨_, rfl⟩
  obtain ⟨N, hN⟩ : ∃ N, (nd % 18446744073709551616).toNat = N := ⟨_, rfl⟩
  have hw1 : IntKind.u64.wrap kd = (U : Int) := by rw [wrap_u64_at, hU]
  have hw2 : IntKind.u64.wrap nd = (N : Int) := by rw [wrap_u64_at, hN]
  rw [hU] at hk
  have hm1 : (U : Int).tmod 12 = 3 := by rw [Int.tmod_eq_emod_of_nonneg (by omega)]; omega
  rw [hN] at hn ⊢
  obtain ⟨V, hV⟩ : ∃ V, V = w.alloc (.cells #[.int .i64 kd, .int .i64 nd, .string (str p)] 55) := ⟨_, rfl⟩
  have hbV := below_one w (.cells #[.int .i64 kd, .int .i64 nd, .string (str p)] 55)
  have hPb := heap_new w (.cells #[.int .i64 kd, .int .i64 nd, .string (str p)] 55 (0, 0))
  rw [← hV] at hbV hPb
  have HBV := Lib.hid hbV
  have HPb := Lib.hid hPb
  have hBV : B ≤ V.heap.size := by have := hbV.size; omega
  have HLV := Lib.hid (HL.out.later hbV)
  have a0 : V.cell? ⟨w.heap.size, 0, none⟩ = some (.int .i64 kd) := Lib.cell_of_heap hPb 0
  have a1 : V.cell? ⟨w.heap.size, 1, none⟩ = some (.int .i64 nd) := Lib.cell_of_heap hPb 1
  have a2 : V.cell? ⟨w.heap.size, 2, none⟩ = some (.string (str p)) := Lib.cell_of_heap hPb 2
  have HV := Lib.hid hV
  clear h hi hU hN hV hbV hPb hk
  have hm2 : (N : Int).tmod 2 = 0 := by rw [Int.tmod_eq_emod_of_nonneg (by omega)]; omega
  have HE : Hid (actL l 3 N p = l.sends 0 (tickL (l.st 0).x)) := Lib.hid (by unfold actL; rw [if_neg (by omega), if_neg (by omega), if_pos (by omega), hn]; rfl)
  obtain ⟨x, hxx⟩ : ∃ x, (l.st 0).x = x := ⟨_, rfl⟩
  have HXO := Lib.hid (HI.out.ok 0 (by omega))
  obtain ⟨o1, o2, o3⟩ := HLV.out.out 0 (by omega)
  have x0 := HLV.out.cell 0
  have x1 := HLV.out.cell 1
  have x2 := HLV.out.cell 2
  have x3 := HLV.out.cell 3
  have x4 := HLV.out.cell 4
  rw [show (lnCells l m)[0]? = some (.int .i64 (l.st 0).x.ep) from rfl] at x0
  rw [show (lnCells l m)[1]? = some (.int .i64 (l.st 0).x.ot) from rfl] at x1
  rw [show (lnCells l m)[2]? = some (.int .i64 (l.st 0).x.fi) from rfl] at x2
  rw [show (lnCells l m)[3]? = some (.slice (m.A 0) (l.st 0).x.out.length (m.c 0)) from rfl] at x3
  rw [show (lnCells l m)[4]? = some (.int .i64 (l.st 0).x.wa) from rfl] at x4
  rw [hxx] at HE HXO o1 o3 x0 x1 x2 x3 x4
  have HLd := Lib.hid ((Below.refl V.heap.size V).drew)
  have HTk := Lib.hid (LTick_okS x (m.A 0) (m.c 0) V.drew (o1.next HLd.out) HXO.out)
  unfold LEnd.val at HTk
  have hlen : (tickL x).length ≤ 4 := by rw [tickL_len15]; exact Nat.min_le_left _ _
  obtain ⟨ts, hts⟩ : ∃ ts, tickL x = ts := ⟨_, rfl⟩
  rw [hts] at HE HTk hlen
  clear hxx hts o1 o2 o3 hn
  go_enter Try.func25, Try.ntmps25
  go_upto_region 1 with fail
  rw [← HV.out]
  go_wp2_with fail
  go_region_with (go_at_call 13; (with_reducible refine HTk.out.mono ?_); rintro e w9 ⟨A9, c9, rfl, hs9, hn9, hc9, hb9, hf9⟩; have HS9 := Lib.hid hs9; have HB9 := Lib.hid hb9; have HN9 := Lib.hid hn9; have HC9 := Lib.hid hc9; have HF9 := Lib.hid hf9; clear hs9 hn9 hc9 hb9 hf9)
  have HB0 := Lib.hid (HBV.out.trans ((HLd.out.trans (HB9.out.mono HLd.out.size)).mono HBV.out.size))
  have HL9 := Lib.hid (HL.out.later HB0.out)
  have HP9 := Lib.hid (((HLd.out.trans (HB9.out.mono HLd.out.size)).block w.heap.size (heap_lt HPb.out)).trans HPb.out)
  have HM9 := Lib.hid (LnMv.of (H := H) m (Below.refl w9.heap.size w9))
  clear x0 x1 x2 x3 x4 a0 a1 a2
  go_simp
  go_wp2
  go_loopw [42] (fun i wr => ∃ k : Nat, k ≤ ts.length ∧ i = .int .i64 k ∧ Hid (∃ m', LnAt B H wr (l.sends 0 (ts.take k)) m' ∧ LnMv H w9 wr m m') ∧ Hid (Below H w wr)) (fun i _ => ts.length - (intOf i).toNat)
  case atStart => exact ⟨0, by omega, rfl, Lib.hid ⟨m, HL9.out, HM9.out⟩, Lib.hid (HB0.out.mono (Nat.le_of_lt hHlt))⟩
  case round =>
    obtain ⟨k, hk, rfl, HLr, HBr⟩ := hrel
    by_cases hlt : k < ts.length
    · obtain ⟨m', hLr, hMr⟩ := HLr.out
      obtain ⟨b, off, rfl, hb9l, hc0⟩ := HS9.out.at_ hlt
      have hfb : V.heap.size ≤ b := HF9.out _ rfl
      have hVw : w.heap.size < V.heap.size := heap_lt HPb.out
      have hVd : V.drew.heap.size = V.heap.size := rfl
      have hrow : ∀ j, j < 5 → ∀ q, (m.v j).ownBlock = some q → q < w.heap.size := fun j hj q e => (HL.out.row_lt hj e).2
      have hkb := hMr.keep b hb9l (by omega) (fun j hj e => by have := hrow j hj b e; omega)
      have hkp := (hMr.keep w.heap.size (heap_lt HP9.out) (by omega) (fun j hj e => by have := hrow j hj _ e; omega)).trans HP9.out
      have t0 : wr.cell? ⟨b, off + k, none⟩ = some (txt ts[k]) := by rw [World.cell?_of_block (w := w9) (a := ⟨b, off + k, none⟩) hkb]; exact hc0
      have a1 : wr.cell? ⟨w.heap.size, 1, none⟩ = some (.int .i64 nd) := Lib.cell_of_heap hkp 1
      have hnl : (l.sends 0 (ts.take k)).net.length ≤ 1000 := by
        have h1 := sends_len 0 (ts.take k) l
        have h2 := HI.out.net
        rw [List.length_take] at h1
        omega
      have hBr : B ≤ wr.heap.size := by have := HBr.out.size; omega
      have hsd := send_anyS hLr hnl hBr ⟨1 - 0, ts[k], false⟩
      dsimp only at hsd
      rw [show (((1 - 0 : Nat)) : Int) = 1 from by decide] at hsd
      have HSd := Lib.hid hsd
      have HMr := Lib.hid hMr
      have HEk : Hid ((l.sends 0 (ts.take k)).send ⟨1 - 0, ts[k], false⟩ = l.sends 0 (ts.take (k + 1))) := Lib.hid (by
        unfold Line.sends
        rw [List.take_succ_eq_append_getElem hlt, List.foldl_append]
        rfl)
      unfold txt at t0
      obtain ⟨T, hT⟩ : ∃ T, str ts[k] = T := ⟨_, rfl⟩
      rw [hT] at t0 HSd
      clear hsd hLr hMr hkb hkp hc0 hT hrow
      go_wp2_with (go_at_call 27; (with_reducible refine HSd.out.mono ?_); rintro e W7 ⟨rfl, m7, hL7, hM7, hB7⟩)
      rw [HEk.out] at hL7
      have HL7 : Hid (∃ m', LnAt B H W7 (l.sends 0 (ts.take (k + 1))) m' ∧ LnMv H w9 W7 m m') := Lib.hid ⟨m7, hL7, HMr.out.trans hM7⟩
      have HB7 := Lib.hid (HBr.out.trans hB7)
      clear hL7 hM7 hB7
      go_wp2_with fail
      go_roundw
      case rel => exact ⟨k + 1, by omega, by go_num, HL7, HB7⟩
      case measure => simp [intOf]; omega
    · obtain rfl : k = ts.length := by omega
      obtain ⟨m', hLr, _⟩ := HLr.out
      rw [List.take_length] at hLr
      have HLf := Lib.hid hLr
      clear hLr
      go_wp2_with fail
      go_end0
      exact ⟨rfl, ⟨m', by rw [HE.out]; exact HLf.out⟩, HBr.out⟩

set_option maxHeartbeats 4000000 in
set_option maxRecDepth 100000 in
theorem act_3_1 {B H : Nat} {w : World} {l : Line} {m : LnM} (h : LnAt B H w l m) (hi : LnIn l) (hB : B ≤ w.heap.size) (kd nd : Int) (p : List UInt8) (hk : (kd % 18446744073709551616).toNat % 12 = 3) (hn : (nd % 18446744073709551616).toNat % 2 = 1) :
    Calls Try.prog 25 #[.pointer (some ⟨H, 0, none⟩), .agg #[.int .i64 kd, .int .i64 nd, .string (str p)]] w (LnEnd B H (actL l 3 (nd % 18446744073709551616).toNat p) w) := by
  have HL := Lib.hid h
  have HI := Lib.hid hi
  have hHlt := h.lt
  obtain ⟨U, hU⟩ : ∃ U, (kd % 18446744073709551616).toNat = U := ⟨_, rfl⟩
  obtain ⟨N, hN⟩ : ∃ N, (nd % 18446744073709551616).toNat = N := ⟨_, rfl⟩
  have hw1 : IntKind.u64.wrap kd = (U : Int) := by rw [wrap_u64_at, hU]
  have hw2 : IntKind.u64.wrap nd = (N : Int) := by rw [wrap_u64_at, hN]
  rw [hU] at hk
  have hm1 : (U : Int).tmod 12 = 3 := by rw [Int.tmod_eq_emod_of_nonneg (by omega)]; omega
  rw [hN] at hn ⊢
  obtain ⟨V, hV⟩ : ∃ V, V = w.alloc (.cells #[.int .i64 kd, .int .i64 nd, .string (str p)] 55) := ⟨_, rfl⟩
  have hbV := below_one w (.cells #[.int .i64 kd, .int .i64 nd, .string (str p)] 55)
  have hPb := heap_new w (.cells #[.int .i64 kd, .int .i64 nd, .string (str p)] 55 (0, 0))
  rw [← hV] at hbV hPb
  have HBV := Lib.hid hbV
  have HPb := Lib.hid hPb
  have hBV : B ≤ V.heap.size := by have := hbV.size; omega
  have HLV := Lib.hid (HL.out.later hbV)
  have a0 : V.cell? ⟨w.heap.size, 0, none⟩ = some (.int .i64 kd) := Lib.cell_of_heap hPb 0
  have a1 : V.cell? ⟨w.heap.size, 1, none⟩ = some (.int .i64 nd) := Lib.cell_of_heap hPb 1
  have a2 : V.cell? ⟨w.heap.size, 2, none⟩ = some (.string (str p)) := Lib.cell_of_heap hPb 2
  have HV := Lib.hid hV
  clear h hi hU hN hV hbV hPb hk
  have hm2 : (N : Int).tmod 2 = 1 := by rw [Int.tmod_eq_emod_of_nonneg (by omega)]; omega
  have HE : Hid (actL l 3 N p = l.sends 1 (tickL (l.st 1).x)) := Lib.hid (by unfold actL; rw [if_neg (by omega), if_neg (by omega), if_pos (by omega), hn]; rfl)
  obtain ⟨x, hxx⟩ : ∃ x, (l.st 1).x = x := ⟨_, rfl⟩
  have HXO := Lib.hid (HI.out.ok 1 (by omega))
  obtain ⟨o1, o2, o3⟩ := HLV.out.out 1 (by omega)
  have x0 := HLV.out.cell 5
  have x1 := HLV.out.cell 6
  have x2 := HLV.out.cell 7
  have x3 := HLV.out.cell 8
  have x4 := HLV.out.cell 9
  rw [show (lnCells l m)[5]? = some (.int .i64 (l.st 1).x.ep) from rfl] at x0
  rw [show (lnCells l m)[6]? = some (.int .i64 (l.st 1).x.ot) from rfl] at x1
  rw [show (lnCells l m)[7]? = some (.int .i64 (l.st 1).x.fi) from rfl] at x2
  rw [show (lnCells l m)[8]? = some (.slice (m.A 1) (l.st 1).x.out.length (m.c 1)) from rfl] at x3
  rw [show (lnCells l m)[9]? = some (.int .i64 (l.st 1).x.wa) from rfl] at x4
  rw [hxx] at HE HXO o1 o3 x0 x1 x2 x3 x4
  have HLd := Lib.hid ((Below.refl V.heap.size V).drew)
  have HTk := Lib.hid (LTick_okS x (m.A 1) (m.c 1) V.drew (o1.next HLd.out) HXO.out)
  unfold LEnd.val at HTk
  have hlen : (tickL x).length ≤ 4 := by rw [tickL_len15]; exact Nat.min_le_left _ _
  obtain ⟨ts, hts⟩ : ∃ ts, tickL x = ts := ⟨_, rfl⟩
  rw [hts] at HE HTk hlen
  clear hxx hts o1 o2 o3 hn
  go_enter Try.func25, Try.ntmps25
  go_upto_region 1 with fail
  rw [← HV.out]
  go_wp2_with fail
  go_region_with (go_at_call 13; (with_reducible refine HTk.out.mono ?_); rintro e w9 ⟨A9, c9, rfl, hs9, hn9, hc9, hb9, hf9⟩; have HS9 := Lib.hid hs9; have HB9 := Lib.hid hb9; have HN9 := Lib.hid hn9; have HC9 := Lib.hid hc9; have HF9 := Lib.hid hf9; clear hs9 hn9 hc9 hb9 hf9)
  have HB0 := Lib.hid (HBV.out.trans ((HLd.out.trans (HB9.out.mono HLd.out.size)).mono HBV.out.size))
  have HL9 := Lib.hid (HL.out.later HB0.out)
  have HP9 := Lib.hid (((HLd.out.trans (HB9.out.mono HLd.out.size)).block w.heap.size (heap_lt HPb.out)).trans HPb.out)
  have HM9 := Lib.hid (LnMv.of (H := H) m (Below.refl w9.heap.size w9))
  clear x0 x1 x2 x3 x4 a0 a1 a2
  go_simp
  go_wp2
  go_loopw [42] (fun i wr => ∃ k : Nat, k ≤ ts.length ∧ i = .int .i64 k ∧ Hid (∃ m', LnAt B H wr (l.sends 1 (ts.take k)) m' ∧ LnMv H w9 wr m m') ∧ Hid (Below H w wr)) (fun i _ => ts.length - (intOf i).toNat)
  case atStart => exact ⟨0, by omega, rfl, Lib.hid ⟨m, HL9.out, HM9.out⟩, Lib.hid (HB0.out.mono (Nat.le_of_lt hHlt))⟩
  case round =>
    obtain ⟨k, hk, rfl, HLr, HBr⟩ := hrel
    by_cases hlt : k < ts.length
    · obtain ⟨m', hLr, hMr⟩ := HLr.out
      obtain ⟨b, off, rfl, hb9l, hc0⟩ := HS9.out.at_ hlt
      have hfb : V.heap.size ≤ b := HF9.out _ rfl
      have hVw : w.heap.size < V.heap.size := heap_lt HPb.out
      have hVd : V.drew.heap.size = V.heap.size := rfl
      have hrow : ∀ j, j < 5 → ∀ q, (m.v j).ownBlock = some q → q < w.heap.size := fun j hj q e => (HL.out.row_lt hj e).2
      have hkb := hMr.keep b hb9l (by omega) (fun j hj e => by have := hrow j hj b e; omega)
      have hkp := (hMr.keep w.heap.size (heap_lt HP9.out) (by omega) (fun j hj e => by have := hrow j hj _ e; omega)).trans HP9.out
      have t0 : wr.cell? ⟨b, off + k, none⟩ = some (txt ts[k]) := by rw [World.cell?_of_block (w := w9) (a := ⟨b, off + k, none⟩) hkb]; exact hc0
      have a1 : wr.cell? ⟨w.heap.size, 1, none⟩ = some (.int .i64 nd) := Lib.cell_of_heap hkp 1
      have hnl : (l.sends 1 (ts.take k)).net.length ≤ 1000 := by
        have h1 := sends_len 1 (ts.take k) l
        have h2 := HI.out.net
        rw [List.length_take] at h1
        omega
      have hBr : B ≤ wr.heap.size := by have := HBr.out.size; omega
      have hsd := send_anyS hLr hnl hBr ⟨1 - 1, ts[k], false⟩
      dsimp only at hsd
      rw [show (((1 - 1 : Nat)) : Int) = 0 from by decide] at hsd
      have HSd := Lib.hid hsd
      have HMr := Lib.hid hMr
      have HEk : Hid ((l.sends 1 (ts.take k)).send ⟨1 - 1, ts[k], false⟩ = l.sends 1 (ts.take (k + 1))) := Lib.hid (by
        unfold Line.sends
        rw [List.take_succ_eq_append_getElem hlt, List.foldl_append]
        rfl)
      unfold txt at t0
      obtain ⟨T, hT⟩ : ∃ T, str ts[k] = T := ⟨_, rfl⟩
      rw [hT] at t0 HSd
      clear hsd hLr hMr hkb hkp hc0 hT hrow
      go_wp2_with (go_at_call 27; (with_reducible refine HSd.out.mono ?_); rintro e W7 ⟨rfl, m7, hL7, hM7, hB7⟩)
      rw [HEk.out] at hL7
      have HL7 : Hid (∃ m', LnAt B H W7 (l.sends 1 (ts.take (k + 1))) m' ∧ LnMv H w9 W7 m m') := Lib.hid ⟨m7, hL7, HMr.out.trans hM7⟩
      have HB7 := Lib.hid (HBr.out.trans hB7)
      clear hL7 hM7 hB7
      go_wp2_with fail
      go_roundw
      case rel => exact ⟨k + 1, by omega, by go_num, HL7, HB7⟩
      case measure => simp [intOf]; omega
    · obtain rfl : k = ts.length := by omega
      obtain ⟨m', hLr, _⟩ := HLr.out
      rw [List.take_length] at hLr
      have HLf := Lib.hid hLr
      clear hLr
      go_wp2_with fail
      go_end0
      exact ⟨rfl, ⟨m', by rw [HE.out]; exact HLf.out⟩, HBr.out⟩

set_option maxHeartbeats 4000000 in
set_option maxRecDepth 100000 in
theorem act_4_0 {B H : Nat} {w : World} {l : Line} {m : LnM} (h : LnAt B H w l m) (hi : LnIn l) (hB : B ≤ w.heap.size) (kd nd : Int) (p : List UInt8) (hk : (kd % 18446744073709551616).toNat % 12 = 4) (hn : (nd % 18446744073709551616).toNat % 2 = 0) :
    Calls Try.prog 25 #[.pointer (some ⟨H, 0, none⟩), .agg #[.int .i64 kd, .int .i64 nd, .string (str p)]] w (LnEnd B H (actL l 4 (nd % 18446744073709551616).toNat p) w) := by
  have HL := Lib.hid h
  have HI := Lib.hid hi
  have hHlt := h.lt
  obtain ⟨U, hU⟩ : ∃ U, (kd % 18446744073709551616).toNat = U := ⟨_, rfl⟩
  obtain ⟨N, hN⟩ : ∃ N, (nd % 18446744073709551616).toNat = N := ⟨_, rfl⟩
  have hw1 : IntKind.u64.wrap kd = (U : Int) := by rw [wrap_u64_at, hU]
  have hw2 : IntKind.u64.wrap nd = (N : Int) := by rw [wrap_u64_at, hN]
  rw [hU] at hk
  have hm1 : (U : Int).tmod 12 = 4 := by rw [Int.tmod_eq_emod_of_nonneg (by omega)]; omega
  rw [hN] at hn ⊢
  obtain ⟨V, hV⟩ : ∃ V, V = w.alloc (.cells #[.int .i64 kd, .int .i64 nd, .string (str p)] 55) := ⟨_, rfl⟩
  have hbV := below_one w (.cells #[.int .i64 kd, .int .i64 nd, .string (str p)] 55)
  have hPb := heap_new w (.cells #[.int .i64 kd, .int .i64 nd, .string (str p)] 55 (0, 0))
  rw [← hV] at hbV hPb
  have HBV := Lib.hid hbV
  have HPb := Lib.hid hPb
  have hBV : B ≤ V.heap.size := by have := hbV.size; omega
  have HLV := Lib.hid (HL.out.later hbV)
  have a0 : V.cell? ⟨w.heap.size, 0, none⟩ = some (.int .i64 kd) := Lib.cell_of_heap hPb 0
  have a1 : V.cell? ⟨w.heap.size, 1, none⟩ = some (.int .i64 nd) := Lib.cell_of_heap hPb 1
  have a2 : V.cell? ⟨w.heap.size, 2, none⟩ = some (.string (str p)) := Lib.cell_of_heap hPb 2
  have HV := Lib.hid hV
  clear h hi hU hN hV hbV hPb hk
  have hm2 : (N : Int).tmod 2 = 0 := by rw [Int.tmod_eq_emod_of_nonneg (by omega)]; omega
  have HE : Hid (actL l 4 N p = l.sends 0 (tickL (l.st 0).x)) := Lib.hid (by unfold actL; rw [if_neg (by omega), if_neg (by omega), if_pos (by omega), hn]; rfl)
  obtain ⟨x, hxx⟩ : ∃ x, (l.st 0).x = x := ⟨_, rfl⟩
  have HXO := Lib.hid (HI.out.ok 0 (by omega))
  obtain ⟨o1, o2, o3⟩ := HLV.out.out 0 (by omega)
  have x0 := HLV.out.cell 0
  have x1 := HLV.out.cell 1
  have x2 := HLV.out.cell 2
  have x3 := HLV.out.cell 3
  have x4 := HLV.out.cell 4
  rw [show (lnCells l m)[0]? = some (.int .i64 (l.st 0).x.ep) from rfl] at x0
  rw [show (lnCells l m)[1]? = some (.int .i64 (l.st 0).x.ot) from rfl] at x1
  rw [show (lnCells l m)[2]? = some (.int .i64 (l.st 0).x.fi) from rfl] at x2
  rw [show (lnCells l m)[3]? = some (.slice (m.A 0) (l.st 0).x.out.length (m.c 0)) from rfl] at x3
  rw [show (lnCells l m)[4]? = some (.int .i64 (l.st 0).x.wa) from rfl] at x4
  rw [hxx] at HE HXO o1 o3 x0 x1 x2 x3 x4
  have HLd := Lib.hid ((Below.refl V.heap.size V).drew)
  have HTk := Lib.hid (LTick_okS x (m.A 0) (m.c 0) V.drew (o1.next HLd.out) HXO.out)
  unfold LEnd.val at HTk
  have hlen : (tickL x).length ≤ 4 := by rw [tickL_len15]; exact Nat.min_le_left _ _
  obtain ⟨ts, hts⟩ : ∃ ts, tickL x = ts := ⟨_, rfl⟩
  rw [hts] at HE HTk hlen
  clear hxx hts o1 o2 o3 hn
  go_enter Try.func25, Try.ntmps25
  go_upto_region 1 with fail
  rw [← HV.out]
  go_wp2_with fail
  go_region_with (go_at_call 13; (with_reducible refine HTk.out.mono ?_); rintro e w9 ⟨A9, c9, rfl, hs9, hn9, hc9, hb9, hf9⟩; have HS9 := Lib.hid hs9; have HB9 := Lib.hid hb9; have HN9 := Lib.hid hn9; have HC9 := Lib.hid hc9; have HF9 := Lib.hid hf9; clear hs9 hn9 hc9 hb9 hf9)
  have HB0 := Lib.hid (HBV.out.trans ((HLd.out.trans (HB9.out.mono HLd.out.size)).mono HBV.out.size))
  have HL9 := Lib.hid (HL.out.later HB0.out)
  have HP9 := Lib.hid (((HLd.out.trans (HB9.out.mono HLd.out.size)).block w.heap.size (heap_lt HPb.out)).trans HPb.out)
  have HM9 := Lib.hid (LnMv.of (H := H) m (Below.refl w9.heap.size w9))
  clear x0 x1 x2 x3 x4 a0 a1 a2
  go_simp
  go_wp2
  go_loopw [42] (fun i wr => ∃ k : Nat, k ≤ ts.length ∧ i = .int .i64 k ∧ Hid (∃ m', LnAt B H wr (l.sends 0 (ts.take k)) m' ∧ LnMv H w9 wr m m') ∧ Hid (Below H w wr)) (fun i _ => ts.length - (intOf i).toNat)
  case atStart => exact ⟨0, by omega, rfl, Lib.hid ⟨m, HL9.out, HM9.out⟩, Lib.hid (HB0.out.mono (Nat.le_of_lt hHlt))⟩
  case round =>
    obtain ⟨k, hk, rfl, HLr, HBr⟩ := hrel
    by_cases hlt : k < ts.length
    · obtain ⟨m', hLr, hMr⟩ := HLr.out
      obtain ⟨b, off, rfl, hb9l, hc0⟩ := HS9.out.at_ hlt
      have hfb : V.heap.size ≤ b := HF9.out _ rfl
      have hVw : w.heap.size < V.heap.size := heap_lt HPb.out
      have hVd : V.drew.heap.size = V.heap.size := rfl
      have hrow : ∀ j, j < 5 → ∀ q, (m.v j).ownBlock = some q → q < w.heap.size := fun j hj q e => (HL.out.row_lt hj e).2
      have hkb := hMr.keep b hb9l (by omega) (fun j hj e => by have := hrow j hj b e; omega)
      have hkp := (hMr.keep w.heap.size (heap_lt HP9.out) (by omega) (fun j hj e => by have := hrow j hj _ e; omega)).trans HP9.out
      have t0 : wr.cell? ⟨b, off + k, none⟩ = some (txt ts[k]) := by rw [World.cell?_of_block (w := w9) (a := ⟨b, off + k, none⟩) hkb]; exact hc0
      have a1 : wr.cell? ⟨w.heap.size, 1, none⟩ = some (.int .i64 nd) := Lib.cell_of_heap hkp 1
      have hnl : (l.sends 0 (ts.take k)).net.length ≤ 1000 := by
        have h1 := sends_len 0 (ts.take k) l
        have h2 := HI.out.net
        rw [List.length_take] at h1
        omega
      have hBr : B ≤ wr.heap.size := by have := HBr.out.size; omega
      have hsd := send_anyS hLr hnl hBr ⟨1 - 0, ts[k], false⟩
      dsimp only at hsd
      rw [show (((1 - 0 : Nat)) : Int) = 1 from by decide] at hsd
      have HSd := Lib.hid hsd
      have HMr := Lib.hid hMr
      have HEk : Hid ((l.sends 0 (ts.take k)).send ⟨1 - 0, ts[k], false⟩ = l.sends 0 (ts.take (k + 1))) := Lib.hid (by
        unfold Line.sends
        rw [List.take_succ_eq_append_getElem hlt, List.foldl_append]
        rfl)
      unfold txt at t0
      obtain ⟨T, hT⟩ : ∃ T, str ts[k] = T := ⟨_, rfl⟩
      rw [hT] at t0 HSd
      clear hsd hLr hMr hkb hkp hc0 hT hrow
      go_wp2_with (go_at_call 27; (with_reducible refine HSd.out.mono ?_); rintro e W7 ⟨rfl, m7, hL7, hM7, hB7⟩)
      rw [HEk.out] at hL7
      have HL7 : Hid (∃ m', LnAt B H W7 (l.sends 0 (ts.take (k + 1))) m' ∧ LnMv H w9 W7 m m') := Lib.hid ⟨m7, hL7, HMr.out.trans hM7⟩
      have HB7 := Lib.hid (HBr.out.trans hB7)
      clear hL7 hM7 hB7
      go_wp2_with fail
      go_roundw
      case rel => exact ⟨k + 1, by omega, by go_num, HL7, HB7⟩
      case measure => simp [intOf]; omega
    · obtain rfl : k = ts.length := by omega
      obtain ⟨m', hLr, _⟩ := HLr.out
      rw [List.take_length] at hLr
      have HLf := Lib.hid hLr
      clear hLr
      go_wp2_with fail
      go_end0
      exact ⟨rfl, ⟨m', by rw [HE.out]; exact HLf.out⟩, HBr.out⟩

set_option maxHeartbeats 4000000 in
set_option maxRecDepth 100000 in
theorem act_4_1 {B H : Nat} {w : World} {l : Line} {m : LnM} (h : LnAt B H w l m) (hi : LnIn l) (hB : B ≤ w.heap.size) (kd nd : Int) (p : List UInt8) (hk : (kd % 18446744073709551616).toNat % 12 = 4) (hn : (nd % 18446744073709551616).toNat % 2 = 1) :
    Calls Try.prog 25 #[.pointer (some ⟨H, 0, none⟩), .agg #[.int .i64 kd, .int .i64 nd, .string (str p)]] w (LnEnd B H (actL l 4 (nd % 18446744073709551616).toNat p) w) := by
  have HL := Lib.hid h
  have HI := Lib.hid hi
  have hHlt := h.lt
  obtain ⟨U, hU⟩ : ∃ U, (kd % 18446744073709551616).toNat = U := ⟨_, rfl⟩
  obtain ⟨N, hN⟩ : ∃ N, (nd % 18446744073709551616).toNat = N := ⟨_, rfl⟩
  have hw1 : IntKind.u64.wrap kd = (U : Int) := by rw [wrap_u64_at, hU]
  have hw2 : IntKind.u64.wrap nd = (N : Int) := by rw [wrap_u64_at, hN]
  rw [hU] at hk
  have hm1 : (U : Int).tmod 12 = 4 := by rw [Int.tmod_eq_emod_of_nonneg (by omega)]; omega
  rw [hN] at hn ⊢
  obtain ⟨V, hV⟩ : ∃ V, V = w.alloc (.cells #[.int .i64 kd, .int .i64 nd, .string (str p)] 55) := ⟨_, rfl⟩
  have hbV := below_one w (.cells #[.int .i64 kd, .int .i64 nd, .string (str p)] 55)
  have hPb := heap_new w (.cells #[.int .i64 kd, .int .i64 nd, .string (str p)] 55 (0, 0))
  rw [← hV] at hbV hPb
  have HBV := Lib.hid hbV
  have HPb := Lib.hid hPb
  have hBV : B ≤ V.heap.size := by have := hbV.size; omega
  have HLV := Lib.hid (HL.out.later hbV)
  have a0 : V.cell? ⟨w.heap.size, 0, none⟩ = some (.int .i64 kd) := Lib.cell_of_heap hPb 0
  have a1 : V.cell? ⟨w.heap.size, 1, none⟩ = some (.int .i64 nd) := Lib.cell_of_heap hPb 1
  have a2 : V.cell? ⟨w.heap.size, 2, none⟩ = some (.string (str p)) := Lib.cell_of_heap hPb 2
  have HV := Lib.hid hV
  clear h hi hU hN hV hbV hPb hk
  have hm2 : (N : Int).tmod 2 = 1 := by rw [Int.tmod_eq_emod_of_nonneg (by omega)]; omega
  have HE : Hid (actL l 4 N p = l.sends 1 (tickL (l.st 1).x)) := Lib.hid (by unfold actL; rw [if_neg (by omega), if_neg (by omega), if_pos (by omega), hn]; rfl)
  obtain ⟨x, hxx⟩ : ∃ x, (l.st 1).x = x := ⟨_, rfl⟩
  have HXO := Lib.hid (HI.out.ok 1 (by omega))
  obtain ⟨o1, o2, o3⟩ := HLV.out.out 1 (by omega)
  have x0 := HLV.out.cell 5
  have x1 := HLV.out.cell 6
  have x2 := HLV.out.cell 7
  have x3 := HLV.out.cell 8
  have x4 := HLV.out.cell 9
  rw [show (lnCells l m)[5]? = some (.int .i64 (l.st 1).x.ep) from rfl] at x0
  rw [show (lnCells l m)[6]? = some (.int .i64 (l.st 1).x.ot) from rfl] at x1
  rw [show (lnCells l m)[7]? = some (.int .i64 (l.st 1).x.fi) from rfl] at x2
  rw [show (lnCells l m)[8]? = some (.slice (m.A 1) (l.st 1).x.out.length (m.c 1)) from rfl] at x3
  rw [show (lnCells l m)[9]? = some (.int .i64 (l.st 1).x.wa) from rfl] at x4
  rw [hxx] at HE HXO o1 o3 x0 x1 x2 x3 x4
  have HLd := Lib.hid ((Below.refl V.heap.size V).drew)
  have HTk := Lib.hid (LTick_okS x (m.A 1) (m.c 1) V.drew (o1.next HLd.out) HXO.out)
  unfold LEnd.val at HTk
  have hlen : (tickL x).length ≤ 4 := by rw [tickL_len15]; exact Nat.min_le_left _ _
  obtain ⟨ts, hts⟩ : ∃ ts, tickL x = ts := ⟨_, rfl⟩
  rw [hts] at HE HTk hlen
  clear hxx hts o1 o2 o3 hn
  go_enter Try.func25, Try.ntmps25
  go_upto_region 1 with fail
  rw [← HV.out]
  go_wp2_with fail
  go_region_with (go_at_call 13; (with_reducible refine HTk.out.mono ?_); rintro e w9 ⟨A9, c9, rfl, hs9, hn9, hc9, hb9, hf9⟩; have HS9 := Lib.hid hs9; have HB9 := Lib.hid hb9; have HN9 := Lib.hid hn9; have HC9 := Lib.hid hc9; have HF9 := Lib.hid hf9; clear hs9 hn9 hc9 hb9 hf9)
  have HB0 := Lib.hid (HBV.out.trans ((HLd.out.trans (HB9.out.mono HLd.out.size)).mono HBV.out.size))
  have HL9 := Lib.hid (HL.out.later HB0.out)
  have HP9 := Lib.hid (((HLd.out.trans (HB9.out.mono HLd.out.size)).block w.heap.size (heap_lt HPb.out)).trans HPb.out)
  have HM9 := Lib.hid (LnMv.of (H := H) m (Below.refl w9.heap.size w9))
  clear x0 x1 x2 x3 x4 a0 a1 a2
  go_simp
  go_wp2
  go_loopw [42] (fun i wr => ∃ k : Nat, k ≤ ts.length ∧ i = .int .i64 k ∧ Hid (∃ m', LnAt B H wr (l.sends 1 (ts.take k)) m' ∧ LnMv H w9 wr m m') ∧ Hid (Below H w wr)) (fun i _ => ts.length - (intOf i).toNat)
  case atStart => exact ⟨0, by omega, rfl, Lib.hid ⟨m, HL9.out, HM9.out⟩, Lib.hid (HB0.out.mono (Nat.le_of_lt hHlt))⟩
  case round =>
    obtain ⟨k, hk, rfl, HLr, HBr⟩ := hrel
    by_cases hlt : k < ts.length
    · obtain ⟨m', hLr, hMr⟩ := HLr.out
      obtain ⟨b, off, rfl, hb9l, hc0⟩ := HS9.out.at_ hlt
      have hfb : V.heap.size ≤ b := HF9.out _ rfl
      have hVw : w.heap.size < V.heap.size := heap_lt HPb.out
      have hVd : V.drew.heap.size = V.heap.size := rfl
      have hrow : ∀ j, j < 5 → ∀ q, (m.v j).ownBlock = some q → q < w.heap.size := fun j hj q e => (HL.out.row_lt hj e).2
      have hkb := hMr.keep b hb9l (by omega) (fun j hj e => by have := hrow j hj b e; omega)
      have hkp := (hMr.keep w.heap.size (heap_lt HP9.out) (by omega) (fun j hj e => by have := hrow j hj _ e; omega)).trans HP9.out
      have t0 : wr.cell? ⟨b, off + k, none⟩ = some (txt ts[k]) := by rw [World.cell?_of_block (w := w9) (a := ⟨b, off + k, none⟩) hkb]; exact hc0
      have a1 : wr.cell? ⟨w.heap.size, 1, none⟩ = some (.int .i64 nd) := Lib.cell_of_heap hkp 1
      have hnl : (l.sends 1 (ts.take k)).net.length ≤ 1000 := by
        have h1 := sends_len 1 (ts.take k) l
        have h2 := HI.out.net
        rw [List.length_take] at h1
        omega
      have hBr : B ≤ wr.heap.size := by have := HBr.out.size; omega
      have hsd := send_anyS hLr hnl hBr ⟨1 - 1, ts[k], false⟩
      dsimp only at hsd
      rw [show (((1 - 1 : Nat)) : Int) = 0 from by decide] at hsd
      have HSd := Lib.hid hsd
      have HMr := Lib.hid hMr
      have HEk : Hid ((l.sends 1 (ts.take k)).send ⟨1 - 1, ts[k], false⟩ = l.sends 1 (ts.take (k + 1))) := Lib.hid (by
        unfold Line.sends
        rw [List.take_succ_eq_append_getElem hlt, List.foldl_append]
        rfl)
      unfold txt at t0
      obtain ⟨T, hT⟩ : ∃ T, str ts[k] = T := ⟨_, rfl⟩
      rw [hT] at t0 HSd
      clear hsd hLr hMr hkb hkp hc0 hT hrow
      go_wp2_with (go_at_call 27; (with_reducible refine HSd.out.mono ?_); rintro e W7 ⟨rfl, m7, hL7, hM7, hB7⟩)
      rw [HEk.out] at hL7
      have HL7 : Hid (∃ m', LnAt B H W7 (l.sends 1 (ts.take (k + 1))) m' ∧ LnMv H w9 W7 m m') := Lib.hid ⟨m7, hL7, HMr.out.trans hM7⟩
      have HB7 := Lib.hid (HBr.out.trans hB7)
      clear hL7 hM7 hB7
      go_wp2_with fail
      go_roundw
      case rel => exact ⟨k + 1, by omega, by go_num, HL7, HB7⟩
      case measure => simp [intOf]; omega
    · obtain rfl : k = ts.length := by omega
      obtain ⟨m', hLr, _⟩ := HLr.out
      rw [List.take_length] at hLr
      have HLf := Lib.hid hLr
      clear hLr
      go_wp2_with fail
      go_end0
      exact ⟨rfl, ⟨m', by rw [HE.out]; exact HLf.out⟩, HBr.out⟩
end Go.Proofs.Ytdhmkcomngbmaaa

namespace Go.Proofs.Ytdhmkcomngbmaaa
open Go.RowKit

set_option maxHeartbeats 4000000 in
set_option maxRecDepth 100000 in
theorem act_5 {B H : Nat} {w : World} {l : Line} {m : LnM} (h : LnAt B H w l m) (hi : LnIn l) (hB : B ≤ w.heap.size) (kd nd : Int) (p : List UInt8) (hk : (kd % 18446744073709551616).toNat % 12 = 5) :
    Calls Try.prog 25 #[.pointer (some ⟨H, 0, none⟩), .agg #[.int .i64 kd, .int .i64 nd, .string (str p)]] w (LnEnd B H (actL l 5 (nd % 18446744073709551616).toNat p) w) := by
  have HL := Lib.hid h
  have HI := Lib.hid hi
  have hHlt := h.lt
  obtain ⟨U, hU⟩ : ∃ U, (kd % 18446744073709551616).toNat = U := ⟨_, rfl⟩
  obtain ⟨N, hN⟩ : ∃ N, (nd % 18446744073709551616).toNat = N := ⟨_, rfl⟩
  have hw1 : IntKind.u64.wrap kd = (U : Int) := by rw [wrap_u64_at, hU]
  have hw2 : IntKind.u64.wrap nd = (N : Int) := by rw [wrap_u64_at, hN]
  rw [hU] at hk
  have hm1 : (U : Int).tmod 12 = 5 := by rw [Int.tmod_eq_emod_of_nonneg (by omega)]; omega
  rw [hN]
  obtain ⟨V, hV⟩ : ∃ V, V = w.alloc (.cells #[.int .i64 kd, .int .i64 nd, .string (str p)] 55) := ⟨_, rfl⟩
  have hbV := below_one w (.cells #[.int .i64 kd, .int .i64 nd, .string (str p)] 55)
  have hPb := heap_new w (.cells #[.int .i64 kd, .int .i64 nd, .string (str p)] 55 (0, 0))
  rw [← hV] at hbV hPb
  have HBV := Lib.hid hbV
  have HPb := Lib.hid hPb
  have hBV : B ≤ V.heap.size := by have := hbV.size; omega
  have HLV := Lib.hid (HL.out.later hbV)
  have a0 : V.cell? ⟨w.heap.size, 0, none⟩ = some (.int .i64 kd) := Lib.cell_of_heap hPb 0
  have a1 : V.cell? ⟨w.heap.size, 1, none⟩ = some (.int .i64 nd) := Lib.cell_of_heap hPb 1
  have a2 : V.cell? ⟨w.heap.size, 2, none⟩ = some (.string (str p)) := Lib.cell_of_heap hPb 2
  have HV := Lib.hid hV
  clear h hi hU hN hV hbV hPb hk
  obtain ⟨n, hn⟩ : ∃ n, l.net.length = n := ⟨_, rfl⟩
  have hn200 : n ≤ 200 := by rw [← hn]; exact HI.out.net
  obtain ⟨A0, c0, hv⟩ := own_form15Q HLV.out.net
  rw [hn] at hv
  have hcell := HLV.out.cell 10
  have hfr := HLV.out.fr 10
  rw [show (lnCells l m)[10]? = some (m.v 0) from rfl, hv] at hcell
  have HMv := Lib.hid hv
  clear hv
  have hnw : IntKind.u64.wrap (n : Int) = (n : Int) := by rw [wrap_u64_at]; omega
  by_cases hn0 : n = 0
  · have HE : Hid (actL l 5 N p = l) := Lib.hid (by
      have : l.net = [] := List.eq_nil_of_length_eq_zero (by omega)
      unfold actL
      rw [if_neg (by omega), if_neg (by omega), if_neg (by omega), this]
      rfl)
    have HB0 := Lib.hid (HBV.out.mono (Nat.le_of_lt hHlt))
    clear hn
    subst hn0
    go_enter Try.func25, Try.ntmps25
    go_upto_region 1 with fail
    rw [← HV.out]
    go_wp2
    go_end0
    exact ⟨rfl, ⟨m, by rw [HE.out]; exact HLV.out⟩, HB0.out⟩
  have hnz : ¬ (n : Int) = 0 := by omega
  have hnq : ((n : Int) == 0) = false := beq_eq_false_iff_ne.2 hnz
  obtain ⟨k, hk⟩ : ∃ k, N % n = k := ⟨_, rfl⟩
  have hkn : k < n := by rw [← hk]; exact Nat.mod_lt _ (by omega)
  have hmk : (N : Int).tmod (n : Int) = (k : Int) := by rw [Int.tmod_eq_emod_of_nonneg (by omega), ← hk]; exact (Int.natCast_emod N n).symm
  have hkw : IntKind.i64.wrap (k : Int) = (k : Int) := by rw [IntKind.wrap_i64]; omega
  have hkl : k < l.net.length := by omega
  have HA : Hid (actL l 5 N p = (l.gone k).comes l.net[k]) := Lib.hid (by
    unfold actL
    rw [if_neg (by omega), if_neg (by omega), if_neg (by omega), hn, hk, List.getElem?_eq_getElem hkl]
    rfl)
  have HBk := Lib.hid hk
  clear hk
  have HLD := Lib.hid (HLV.out.later (Below.refl V.heap.size V).drew)
  have hg := gone_any HLD.out (by omega) k hkl
  have hq2 := HI.out.to2 _ (List.getElem_mem hkl)
  have hq3 := HI.out.each _ (List.getElem_mem hkl)
  obtain ⟨q, hq⟩ : ∃ q, l.net[k] = q := ⟨_, rfl⟩
  have HA2 : Hid (actL l 5 N p = (l.gone k).comes q) := Lib.hid (by rw [HA.out, hq])
  rw [hq] at hg hq2 hq3
  have HG := Lib.hid hg
  have hgl : (l.gone k).net.length ≤ 1000 := by
    show (l.net.take k ++ l.net.drop (k + 1)).length ≤ 1000
    rw [List.length_append, List.length_take, List.length_drop]; omega
  clear hg hq HA hkl hn
  obtain ⟨to_, s, bad⟩ := q
  dsimp only at hq2 hq3
  have HQ3 := Lib.hid hq3
  unfold pkVal at HG
  dsimp only at HG
  rcases (show to_ = 0 ∨ to_ = 1 by omega) with rfl | rfl
  · have hcm := fun (W7 : World) (m7 : LnM) (h7 : LnAt B H W7 (l.gone k) m7) (h8 : B ≤ W7.heap.size) => comes_any0 h7 hgl (HI.out.came 0 (by omega)) (HI.out.ok 0 (by omega)) h8 s HQ3.out bad
    have HCm := Lib.hid hcm
    clear hcm hgl
    rw [show ((0 : Nat) : Int) = 0 from rfl] at HG
    go_enter Try.func25, Try.ntmps25
    go_upto_region 1 with fail
    rw [← HV.out]
    go_wp2_with fail
    go_region
    go_wp2_with (first | (go_at_call 29; (with_reducible refine HG.out.mono ?_); rintro e W7 ⟨rfl, ⟨m7, hL7⟩, hB7⟩; have HSz : Hid (B ≤ W7.heap.size) := Lib.hid (Nat.le_trans hBV hB7.size); have HB7 := Lib.hid hB7; have HC7 := Lib.hid (HCm.out W7 m7 hL7 HSz.out); clear hL7 hB7) | (go_at_call 28; (with_reducible refine HC7.out.mono ?_); rintro e W8 ⟨rfl, hL8, hB8⟩; have HL8 := Lib.hid hL8; have HB8 := Lib.hid hB8; clear hL8 hB8))
    go_end0
    exact ⟨rfl, by rw [HA2.out]; exact HL8.out, ((HBV.out.mono (Nat.le_of_lt hHlt)).drew.trans HB7.out).trans HB8.out⟩
  · have hcm := fun (W7 : World) (m7 : LnM) (h7 : LnAt B H W7 (l.gone k) m7) (h8 : B ≤ W7.heap.size) => comes_any1 h7 hgl (HI.out.came 1 (by omega)) (HI.out.ok 1 (by omega)) h8 s HQ3.out bad
    have HCm := Lib.hid hcm
    clear hcm hgl
    rw [show ((1 : Nat) : Int) = 1 from rfl] at HG
    go_enter Try.func25, Try.ntmps25
    go_upto_region 1 with fail
    rw [← HV.out]
    go_wp2_with fail
    go_region
    go_wp2_with (first | (go_at_call 29; (with_reducible refine HG.out.mono ?_); rintro e W7 ⟨rfl, ⟨m7, hL7⟩, hB7⟩; have HSz : Hid (B ≤ W7.heap.size) := Lib.hid (Nat.le_trans hBV hB7.size); have HB7 := Lib.hid hB7; have HC7 := Lib.hid (HCm.out W7 m7 hL7 HSz.out); clear hL7 hB7) | (go_at_call 28; (with_reducible refine HC7.out.mono ?_); rintro e W8 ⟨rfl, hL8, hB8⟩; have HL8 := Lib.hid hL8; have HB8 := Lib.hid hB8; clear hL8 hB8))
    go_end0
    exact ⟨rfl, by rw [HA2.out]; exact HL8.out, ((HBV.out.mono (Nat.le_of_lt hHlt)).drew.trans HB7.out).trans HB8.out⟩

set_option maxHeartbeats 4000000 in
set_option maxRecDepth 100000 in
theorem act_6 {B H : Nat} {w : World} {l : Line} {m : LnM} (h : LnAt B H w l m) (hi : LnIn l) (hB : B ≤ w.heap.size) (kd nd : Int) (p : List UInt8) (hk : (kd % 18446744073709551616).toNat % 12 = 6) :
    Calls Try.prog 25 #[.pointer (some ⟨H, 0, none⟩), .agg #[.int .i64 kd, .int .i64 nd, .string (str p)]] w (LnEnd B H (actL l 6 (nd % 18446744073709551616).toNat p) w) := by
  have HL := Lib.hid h
  have HI := Lib.hid hi
  have hHlt := h.lt
  obtain ⟨U, hU⟩ : ∃ U, (kd % 18446744073709551616).toNat = U := ⟨_, rfl⟩
  obtain ⟨N, hN⟩ : ∃ N, (nd % 18446744073709551616).toNat = N := ⟨_, rfl⟩
  have hw1 : IntKind.u64.wrap kd = (U : Int) := by rw [wrap_u64_at, hU]
  have hw2 : IntKind.u64.wrap nd = (N : Int) := by rw [wrap_u64_at, hN]
  rw [hU] at hk
  have hm1 : (U : Int).tmod 12 = 6 := by rw [Int.tmod_eq_emod_of_nonneg (by omega)]; omega
  rw [hN]
  obtain ⟨V, hV⟩ : ∃ V, V = w.alloc (.cells #[.int .i64 kd, .int .i64 nd, .string (str p)] 55) := ⟨_, rfl⟩
  have hbV := below_one w (.cells #[.int .i64 kd, .int .i64 nd, .string (str p)] 55)
  have hPb := heap_new w (.cells #[.int .i64 kd, .int .i64 nd, .string (str p)] 55 (0, 0))
  rw [← hV] at hbV hPb
  have HBV := Lib.hid hbV
  have HPb := Lib.hid hPb
  have hBV : B ≤ V.heap.size := by have := hbV.size; omega
  have HLV := Lib.hid (HL.out.later hbV)
  have a0 : V.cell? ⟨w.heap.size, 0, none⟩ = some (.int .i64 kd) := Lib.cell_of_heap hPb 0
  have a1 : V.cell? ⟨w.heap.size, 1, none⟩ = some (.int .i64 nd) := Lib.cell_of_heap hPb 1
  have a2 : V.cell? ⟨w.heap.size, 2, none⟩ = some (.string (str p)) := Lib.cell_of_heap hPb 2
  have HV := Lib.hid hV
  clear h hi hU hN hV hbV hPb hk
  obtain ⟨n, hn⟩ : ∃ n, l.net.length = n := ⟨_, rfl⟩
  have hn200 : n ≤ 200 := by rw [← hn]; exact HI.out.net
  obtain ⟨A0, c0, hv⟩ := own_form15Q HLV.out.net
  rw [hn] at hv
  have hcell := HLV.out.cell 10
  have hfr := HLV.out.fr 10
  rw [show (lnCells l m)[10]? = some (m.v 0) from rfl, hv] at hcell
  have HMv := Lib.hid hv
  clear hv
  have hnw : IntKind.u64.wrap (n : Int) = (n : Int) := by rw [wrap_u64_at]; omega
  by_cases hn0 : n = 0
  · have HE : Hid (actL l 6 N p = l) := Lib.hid (by
      have : l.net = [] := List.eq_nil_of_length_eq_zero (by omega)
      unfold actL
      rw [if_neg (by omega), if_neg (by omega), if_neg (by omega), this]
      rfl)
    have HB0 := Lib.hid (HBV.out.mono (Nat.le_of_lt hHlt))
    clear hn
    subst hn0
    go_enter Try.func25, Try.ntmps25
    go_upto_region 1 with fail
    rw [← HV.out]
    go_wp2
    go_end0
    exact ⟨rfl, ⟨m, by rw [HE.out]; exact HLV.out⟩, HB0.out⟩
  have hnz : ¬ (n : Int) = 0 := by omega
  have hnq : ((n : Int) == 0) = false := beq_eq_false_iff_ne.2 hnz
  obtain ⟨k, hk⟩ : ∃ k, N % n = k := ⟨_, rfl⟩
  have hkn : k < n := by rw [← hk]; exact Nat.mod_lt _ (by omega)
  have hmk : (N : Int).tmod (n : Int) = (k : Int) := by rw [Int.tmod_eq_emod_of_nonneg (by omega), ← hk]; exact (Int.natCast_emod N n).symm
  have hkw : IntKind.i64.wrap (k : Int) = (k : Int) := by rw [IntKind.wrap_i64]; omega
  have hkl : k < l.net.length := by omega
  have HA : Hid (actL l 6 N p = (l.gone k).comes l.net[k]) := Lib.hid (by
    unfold actL
    rw [if_neg (by omega), if_neg (by omega), if_neg (by omega), hn, hk, List.getElem?_eq_getElem hkl]
    rfl)
  have HBk := Lib.hid hk
  clear hk
  have HLD := Lib.hid (HLV.out.later (Below.refl V.heap.size V).drew)
  have hg := gone_any HLD.out (by omega) k hkl
  have hq2 := HI.out.to2 _ (List.getElem_mem hkl)
  have hq3 := HI.out.each _ (List.getElem_mem hkl)
  obtain ⟨q, hq⟩ : ∃ q, l.net[k] = q := ⟨_, rfl⟩
  have HA2 : Hid (actL l 6 N p = (l.gone k).comes q) := Lib.hid (by rw [HA.out, hq])
  rw [hq] at hg hq2 hq3
  have HG := Lib.hid hg
  have hgl : (l.gone k).net.length ≤ 1000 := by
    show (l.net.take k ++ l.net.drop (k + 1)).length ≤ 1000
    rw [List.length_append, List.length_take, List.length_drop]; omega
  clear hg hq HA hkl hn
  obtain ⟨to_, s, bad⟩ := q
  dsimp only at hq2 hq3
  have HQ3 := Lib.hid hq3
  unfold pkVal at HG
  dsimp only at HG
  rcases (show to_ = 0 ∨ to_ = 1 by omega) with rfl | rfl
  · have hcm := fun (W7 : World) (m7 : LnM) (h7 : LnAt B H W7 (l.gone k) m7) (h8 : B ≤ W7.heap.size) => comes_any0 h7 hgl (HI.out.came 0 (by omega)) (HI.out.ok 0 (by omega)) h8 s HQ3.out bad
    have HCm := Lib.hid hcm
    clear hcm hgl
    rw [show ((0 : Nat) : Int) = 0 from rfl] at HG
    go_enter Try.func25, Try.ntmps25
    go_upto_region 1 with fail
    rw [← HV.out]
    go_wp2_with fail
    go_region
    go_wp2_with (first | (go_at_call 29; (with_reducible refine HG.out.mono ?_); rintro e W7 ⟨rfl, ⟨m7, hL7⟩, hB7⟩; have HSz : Hid (B ≤ W7.heap.size) := Lib.hid (Nat.le_trans hBV hB7.size); have HB7 := Lib.hid hB7; have HC7 := Lib.hid (HCm.out W7 m7 hL7 HSz.out); clear hL7 hB7) | (go_at_call 28; (with_reducible refine HC7.out.mono ?_); rintro e W8 ⟨rfl, hL8, hB8⟩; have HL8 := Lib.hid hL8; have HB8 := Lib.hid hB8; clear hL8 hB8))
    go_end0
    exact ⟨rfl, by rw [HA2.out]; exact HL8.out, ((HBV.out.mono (Nat.le_of_lt hHlt)).drew.trans HB7.out).trans HB8.out⟩
  · have hcm := fun (W7 : World) (m7 : LnM) (h7 : LnAt B H W7 (l.gone k) m7) (h8 : B ≤ W7.heap.size) => comes_any1 h7 hgl (HI.out.came 1 (by omega)) (HI.out.ok 1 (by omega)) h8 s HQ3.out bad
    have HCm := Lib.hid hcm
    clear hcm hgl
    rw [show ((1 : Nat) : Int) = 1 from rfl] at HG
    go_enter Try.func25, Try.ntmps25
    go_upto_region 1 with fail
    rw [← HV.out]
    go_wp2_with fail
    go_region
    go_wp2_with (first | (go_at_call 29; (with_reducible refine HG.out.mono ?_); rintro e W7 ⟨rfl, ⟨m7, hL7⟩, hB7⟩; have HSz : Hid (B ≤ W7.heap.size) := Lib.hid (Nat.le_trans hBV hB7.size); have HB7 := Lib.hid hB7; have HC7 := Lib.hid (HCm.out W7 m7 hL7 HSz.out); clear hL7 hB7) | (go_at_call 28; (with_reducible refine HC7.out.mono ?_); rintro e W8 ⟨rfl, hL8, hB8⟩; have HL8 := Lib.hid hL8; have HB8 := Lib.hid hB8; clear hL8 hB8))
    go_end0
    exact ⟨rfl, by rw [HA2.out]; exact HL8.out, ((HBV.out.mono (Nat.le_of_lt hHlt)).drew.trans HB7.out).trans HB8.out⟩

set_option maxHeartbeats 4000000 in
set_option maxRecDepth 100000 in
theorem act_7 {B H : Nat} {w : World} {l : Line} {m : LnM} (h : LnAt B H w l m) (hi : LnIn l) (hB : B ≤ w.heap.size) (kd nd : Int) (p : List UInt8) (hk : (kd % 18446744073709551616).toNat % 12 = 7) :
    Calls Try.prog 25 #[.pointer (some ⟨H, 0, none⟩), .agg #[.int .i64 kd, .int .i64 nd, .string (str p)]] w (LnEnd B H (actL l 7 (nd % 18446744073709551616).toNat p) w) := by
  have HL := Lib.hid h
  have HI := Lib.hid hi
  have hHlt := h.lt
  obtain ⟨U, hU⟩ : ∃ U, (kd % 18446744073709551616).toNat = U := ⟨_, rfl⟩
  obtain ⟨N, hN⟩ : ∃ N, (nd % 18446744073709551616).toNat = N := ⟨_, rfl⟩
  have hw1 : IntKind.u64.wrap kd = (U : Int) := by rw [wrap_u64_at, hU]
  have hw2 : IntKind.u64.wrap nd = (N : Int) := by rw [wrap_u64_at, hN]
  rw [hU] at hk
  have hm1 : (U : Int).tmod 12 = 7 := by rw [Int.tmod_eq_emod_of_nonneg (by omega)]; omega
  rw [hN]
  obtain ⟨V, hV⟩ : ∃ V, V = w.alloc (.cells #[.int .i64 kd, .int .i64 nd, .string (str p)] 55) := ⟨_, rfl⟩
  have hbV := below_one w (.cells #[.int .i64 kd, .int .i64 nd, .string (str p)] 55)
  have hPb := heap_new w (.cells #[.int .i64 kd, .int .i64 nd, .string (str p)] 55 (0, 0))
  rw [← hV] at hbV hPb
  have HBV := Lib.hid hbV
  have HPb := Lib.hid hPb
  have hBV : B ≤ V.heap.size := by have := hbV.size; omega
  have HLV := Lib.hid (HL.out.later hbV)
  have a0 : V.cell? ⟨w.heap.size, 0, none⟩ = some (.int .i64 kd) := Lib.cell_of_heap hPb 0
  have a1 : V.cell? ⟨w.heap.size, 1, none⟩ = some (.int .i64 nd) := Lib.cell_of_heap hPb 1
  have a2 : V.cell? ⟨w.heap.size, 2, none⟩ = some (.string (str p)) := Lib.cell_of_heap hPb 2
  have HV := Lib.hid hV
  clear h hi hU hN hV hbV hPb hk
  obtain ⟨n, hn⟩ : ∃ n, l.net.length = n := ⟨_, rfl⟩
  have hn200 : n ≤ 200 := by rw [← hn]; exact HI.out.net
  obtain ⟨A0, c0, hv⟩ := own_form15Q HLV.out.net
  rw [hn] at hv
  have hcell := HLV.out.cell 10
  have hfr := HLV.out.fr 10
  rw [show (lnCells l m)[10]? = some (m.v 0) from rfl, hv] at hcell
  have HMv := Lib.hid hv
  clear hv
  have hnw : IntKind.u64.wrap (n : Int) = (n : Int) := by rw [wrap_u64_at]; omega
  by_cases hn0 : n = 0
  · have HE : Hid (actL l 7 N p = l) := Lib.hid (by
      have : l.net = [] := List.eq_nil_of_length_eq_zero (by omega)
      unfold actL
      rw [if_neg (by omega), if_neg (by omega), if_neg (by omega), this]
      rfl)
    have HB0 := Lib.hid (HBV.out.mono (Nat.le_of_lt hHlt))
    clear hn
    subst hn0
    go_enter Try.func25, Try.ntmps25
    go_upto_region 1 with fail
    rw [← HV.out]
    go_wp2
    go_end0
    exact ⟨rfl, ⟨m, by rw [HE.out]; exact HLV.out⟩, HB0.out⟩
  have hnz : ¬ (n : Int) = 0 := by omega
  have hnq : ((n : Int) == 0) = false := beq_eq_false_iff_ne.2 hnz
  obtain ⟨k, hk⟩ : ∃ k, N % n = k := ⟨_, rfl⟩
  have hkn : k < n := by rw [← hk]; exact Nat.mod_lt _ (by omega)
  have hmk : (N : Int).tmod (n : Int) = (k : Int) := by rw [Int.tmod_eq_emod_of_nonneg (by omega), ← hk]; exact (Int.natCast_emod N n).symm
  have hkw : IntKind.i64.wrap (k : Int) = (k : Int) := by rw [IntKind.wrap_i64]; omega
  have hkl : k < l.net.length := by omega
  have HA : Hid (actL l 7 N p = (l.gone k).comes l.net[k]) := Lib.hid (by
    unfold actL
    rw [if_neg (by omega), if_neg (by omega), if_neg (by omega), hn, hk, List.getElem?_eq_getElem hkl]
    rfl)
  have HBk := Lib.hid hk
  clear hk
  have HLD := Lib.hid (HLV.out.later (Below.refl V.heap.size V).drew)
  have hg := gone_any HLD.out (by omega) k hkl
  have hq2 := HI.out.to2 _ (List.getElem_mem hkl)
  have hq3 := HI.out.each _ (List.getElem_mem hkl)
  obtain ⟨q, hq⟩ : ∃ q, l.net[k] = q := ⟨_, rfl⟩
  have HA2 : Hid (actL l 7 N p = (l.gone k).comes q) := Lib.hid (by rw [HA.out, hq])
  rw [hq] at hg hq2 hq3
  have HG := Lib.hid hg
  have hgl : (l.gone k).net.length ≤ 1000 := by
    show (l.net.take k ++ l.net.drop (k + 1)).length ≤ 1000
    rw [List.length_append, List.length_take, List.length_drop]; omega
  clear hg hq HA hkl hn
  obtain ⟨to_, s, bad⟩ := q
  dsimp only at hq2 hq3
  have HQ3 := Lib.hid hq3
  unfold pkVal at HG
  dsimp only at HG
  rcases (show to_ = 0 ∨ to_ = 1 by omega) with rfl | rfl
  · have hcm := fun (W7 : World) (m7 : LnM) (h7 : LnAt B H W7 (l.gone k) m7) (h8 : B ≤ W7.heap.size) => comes_any0 h7 hgl (HI.out.came 0 (by omega)) (HI.out.ok 0 (by omega)) h8 s HQ3.out bad
    have HCm := Lib.hid hcm
    clear hcm hgl
    rw [show ((0 : Nat) : Int) = 0 from rfl] at HG
    go_enter Try.func25, Try.ntmps25
    go_upto_region 1 with fail
    rw [← HV.out]
    go_wp2_with fail
    go_region
    go_wp2_with (first | (go_at_call 29; (with_reducible refine HG.out.mono ?_); rintro e W7 ⟨rfl, ⟨m7, hL7⟩, hB7⟩; have HSz : Hid (B ≤ W7.heap.size) := Lib.hid (Nat.le_trans hBV hB7.size); have HB7 := Lib.hid hB7; have HC7 := Lib.hid (HCm.out W7 m7 hL7 HSz.out); clear hL7 hB7) | (go_at_call 28; (with_reducible refine HC7.out.mono ?_); rintro e W8 ⟨rfl, hL8, hB8⟩; have HL8 := Lib.hid hL8; have HB8 := Lib.hid hB8; clear hL8 hB8))
    go_end0
    exact ⟨rfl, by rw [HA2.out]; exact HL8.out, ((HBV.out.mono (Nat.le_of_lt hHlt)).drew.trans HB7.out).trans HB8.out⟩
  · have hcm := fun (W7 : World) (m7 : LnM) (h7 : LnAt B H W7 (l.gone k) m7) (h8 : B ≤ W7.heap.size) => comes_any1 h7 hgl (HI.out.came 1 (by omega)) (HI.out.ok 1 (by omega)) h8 s HQ3.out bad
    have HCm := Lib.hid hcm
    clear hcm hgl
    rw [show ((1 : Nat) : Int) = 1 from rfl] at HG
    go_enter Try.func25, Try.ntmps25
    go_upto_region 1 with fail
    rw [← HV.out]
    go_wp2_with fail
    go_region
    go_wp2_with (first | (go_at_call 29; (with_reducible refine HG.out.mono ?_); rintro e W7 ⟨rfl, ⟨m7, hL7⟩, hB7⟩; have HSz : Hid (B ≤ W7.heap.size) := Lib.hid (Nat.le_trans hBV hB7.size); have HB7 := Lib.hid hB7; have HC7 := Lib.hid (HCm.out W7 m7 hL7 HSz.out); clear hL7 hB7) | (go_at_call 28; (with_reducible refine HC7.out.mono ?_); rintro e W8 ⟨rfl, hL8, hB8⟩; have HL8 := Lib.hid hL8; have HB8 := Lib.hid hB8; clear hL8 hB8))
    go_end0
    exact ⟨rfl, by rw [HA2.out]; exact HL8.out, ((HBV.out.mono (Nat.le_of_lt hHlt)).drew.trans HB7.out).trans HB8.out⟩

set_option maxHeartbeats 4000000 in
set_option maxRecDepth 100000 in
theorem act_8 {B H : Nat} {w : World} {l : Line} {m : LnM} (h : LnAt B H w l m) (hi : LnIn l) (hB : B ≤ w.heap.size) (kd nd : Int) (p : List UInt8) (hk : (kd % 18446744073709551616).toNat % 12 = 8) :
    Calls Try.prog 25 #[.pointer (some ⟨H, 0, none⟩), .agg #[.int .i64 kd, .int .i64 nd, .string (str p)]] w (LnEnd B H (actL l 8 (nd % 18446744073709551616).toNat p) w) := by
  have HL := Lib.hid h
  have HI := Lib.hid hi
  have hHlt := h.lt
  obtain ⟨U, hU⟩ : ∃ U, (kd % 18446744073709551616).toNat = U := ⟨_, rfl⟩
  obtain ⟨N, hN⟩ : ∃ N, (nd % 18446744073709551616).toNat = N := ⟨_, rfl⟩
  have hw1 : IntKind.u64.wrap kd = (U : Int) := by rw [wrap_u64_at, hU]
  have hw2 : IntKind.u64.wrap nd = (N : Int) := by rw [wrap_u64_at, hN]
  rw [hU] at hk
  have hm1 : (U : Int).tmod 12 = 8 := by rw [Int.tmod_eq_emod_of_nonneg (by omega)]; omega
  rw [hN]
  obtain ⟨V, hV⟩ : ∃ V, V = w.alloc (.cells #[.int .i64 kd, .int .i64 nd, .string (str p)] 55) := ⟨_, rfl⟩
  have hbV := below_one w (.cells #[.int .i64 kd, .int .i64 nd, .string (str p)] 55)
  have hPb := heap_new w (.cells #[.int .i64 kd, .int .i64 nd, .string (str p)] 55 (0, 0))
  rw [← hV] at hbV hPb
  have HBV := Lib.hid hbV
  have HPb := Lib.hid hPb
  have hBV : B ≤ V.heap.size := by have := hbV.size; omega
  have HLV := Lib.hid (HL.out.later hbV)
  have a0 : V.cell? ⟨w.heap.size, 0, none⟩ = some (.int .i64 kd) := Lib.cell_of_heap hPb 0
  have a1 : V.cell? ⟨w.heap.size, 1, none⟩ = some (.int .i64 nd) := Lib.cell_of_heap hPb 1
  have a2 : V.cell? ⟨w.heap.size, 2, none⟩ = some (.string (str p)) := Lib.cell_of_heap hPb 2
  have HV := Lib.hid hV
  clear h hi hU hN hV hbV hPb hk
  obtain ⟨n, hn⟩ : ∃ n, l.net.length = n := ⟨_, rfl⟩
  have hn200 : n ≤ 200 := by rw [← hn]; exact HI.out.net
  obtain ⟨A0, c0, hv⟩ := own_form15Q HLV.out.net
  rw [hn] at hv
  have hcell := HLV.out.cell 10
  have hfr := HLV.out.fr 10
  rw [show (lnCells l m)[10]? = some (m.v 0) from rfl, hv] at hcell
  have HMv := Lib.hid hv
  clear hv
  have hnw : IntKind.u64.wrap (n : Int) = (n : Int) := by rw [wrap_u64_at]; omega
  by_cases hn0 : n = 0
  · have HE : Hid (actL l 8 N p = l) := Lib.hid (by
      have : l.net = [] := List.eq_nil_of_length_eq_zero (by omega)
      unfold actL
      rw [if_neg (by omega), if_neg (by omega), if_neg (by omega), this]
      rfl)
    have HB0 := Lib.hid (HBV.out.mono (Nat.le_of_lt hHlt))
    clear hn
    subst hn0
    go_enter Try.func25, Try.ntmps25
    go_upto_region 1 with fail
    rw [← HV.out]
    go_wp2
    go_end0
    exact ⟨rfl, ⟨m, by rw [HE.out]; exact HLV.out⟩, HB0.out⟩
  have hnz : ¬ (n : Int) = 0 := by omega
  have hnq : ((n : Int) == 0) = false := beq_eq_false_iff_ne.2 hnz
  obtain ⟨k, hk⟩ : ∃ k, N % n = k := ⟨_, rfl⟩
  have hkn : k < n := by rw [← hk]; exact Nat.mod_lt _ (by omega)
  have hmk : (N : Int).tmod (n : Int) = (k : Int) := by rw [Int.tmod_eq_emod_of_nonneg (by omega), ← hk]; exact (Int.natCast_emod N n).symm
  have hkw : IntKind.i64.wrap (k : Int) = (k : Int) := by rw [IntKind.wrap_i64]; omega
  have hkl : k < l.net.length := by omega
  have HA : Hid (actL l 8 N p = (l.gone k).comes l.net[k]) := Lib.hid (by
    unfold actL
    rw [if_neg (by omega), if_neg (by omega), if_neg (by omega), hn, hk, List.getElem?_eq_getElem hkl]
    rfl)
  have HBk := Lib.hid hk
  clear hk
  have HLD := Lib.hid (HLV.out.later (Below.refl V.heap.size V).drew)
  have hg := gone_any HLD.out (by omega) k hkl
  have hq2 := HI.out.to2 _ (List.getElem_mem hkl)
  have hq3 := HI.out.each _ (List.getElem_mem hkl)
  obtain ⟨q, hq⟩ : ∃ q, l.net[k] = q := ⟨_, rfl⟩
  have HA2 : Hid (actL l 8 N p = (l.gone k).comes q) := Lib.hid (by rw [HA.out, hq])
  rw [hq] at hg hq2 hq3
  have HG := Lib.hid hg
  have hgl : (l.gone k).net.length ≤ 1000 := by
    show (l.net.take k ++ l.net.drop (k + 1)).length ≤ 1000
    rw [List.length_append, List.length_take, List.length_drop]; omega
  clear hg hq HA hkl hn
  obtain ⟨to_, s, bad⟩ := q
  dsimp only at hq2 hq3
  have HQ3 := Lib.hid hq3
  unfold pkVal at HG
  dsimp only at HG
  rcases (show to_ = 0 ∨ to_ = 1 by omega) with rfl | rfl
  · have hcm := fun (W7 : World) (m7 : LnM) (h7 : LnAt B H W7 (l.gone k) m7) (h8 : B ≤ W7.heap.size) => comes_any0 h7 hgl (HI.out.came 0 (by omega)) (HI.out.ok 0 (by omega)) h8 s HQ3.out bad
    have HCm := Lib.hid hcm
    clear hcm hgl
    rw [show ((0 : Nat) : Int) = 0 from rfl] at HG
    go_enter Try.func25, Try.ntmps25
    go_upto_region 1 with fail
    rw [← HV.out]
    go_wp2_with fail
    go_region
    go_wp2_with (first | (go_at_call 29; (with_reducible refine HG.out.mono ?_); rintro e W7 ⟨rfl, ⟨m7, hL7⟩, hB7⟩; have HSz : Hid (B ≤ W7.heap.size) := Lib.hid (Nat.le_trans hBV hB7.size); have HB7 := Lib.hid hB7; have HC7 := Lib.hid (HCm.out W7 m7 hL7 HSz.out); clear hL7 hB7) | (go_at_call 28; (with_reducible refine HC7.out.mono ?_); rintro e W8 ⟨rfl, hL8, hB8⟩; have HL8 := Lib.hid hL8; have HB8 := Lib.hid hB8; clear hL8 hB8))
    go_end0
    exact ⟨rfl, by rw [HA2.out]; exact HL8.out, ((HBV.out.mono (Nat.le_of_lt hHlt)).drew.trans HB7.out).trans HB8.out⟩
  · have hcm := fun (W7 : World) (m7 : LnM) (h7 : LnAt B H W7 (l.gone k) m7) (h8 : B ≤ W7.heap.size) => comes_any1 h7 hgl (HI.out.came 1 (by omega)) (HI.out.ok 1 (by omega)) h8 s HQ3.out bad
    have HCm := Lib.hid hcm
    clear hcm hgl
    rw [show ((1 : Nat) : Int) = 1 from rfl] at HG
    go_enter Try.func25, Try.ntmps25
    go_upto_region 1 with fail
    rw [← HV.out]
    go_wp2_with fail
    go_region
    go_wp2_with (first | (go_at_call 29; (with_reducible refine HG.out.mono ?_); rintro e W7 ⟨rfl, ⟨m7, hL7⟩, hB7⟩; have HSz : Hid (B ≤ W7.heap.size) := Lib.hid (Nat.le_trans hBV hB7.size); have HB7 := Lib.hid hB7; have HC7 := Lib.hid (HCm.out W7 m7 hL7 HSz.out); clear hL7 hB7) | (go_at_call 28; (with_reducible refine HC7.out.mono ?_); rintro e W8 ⟨rfl, hL8, hB8⟩; have HL8 := Lib.hid hL8; have HB8 := Lib.hid hB8; clear hL8 hB8))
    go_end0
    exact ⟨rfl, by rw [HA2.out]; exact HL8.out, ((HBV.out.mono (Nat.le_of_lt hHlt)).drew.trans HB7.out).trans HB8.out⟩
end Go.Proofs.Ytdhmkcomngbmaaa

namespace Go.Proofs.Ytdhmkcomngbmaaa
open Go.RowKit

set_option maxHeartbeats 4000000 in
set_option maxRecDepth 100000 in
theorem act_9 {B H : Nat} {w : World} {l : Line} {m : LnM} (h : LnAt B H w l m) (hi : LnIn l) (hB : B ≤ w.heap.size) (kd nd : Int) (p : List UInt8) (hk : (kd % 18446744073709551616).toNat % 12 = 9) :
    Calls Try.prog 25 #[.pointer (some ⟨H, 0, none⟩), .agg #[.int .i64 kd, .int .i64 nd, .string (str p)]] w (LnEnd B H (actL l 9 (nd % 18446744073709551616).toNat p) w) := by
  have HL := Lib.hid h
  have HI := Lib.hid hi
  have hHlt := h.lt
  obtain ⟨U, hU⟩ : ∃ U, (kd % 18446744073709551616).toNat = U := ⟨_, rfl⟩
  obtain ⟨N, hN⟩ : ∃ N, (nd % 18446744073709551616).toNat = N := ⟨_, rfl⟩
  have hw1 : IntKind.u64.wrap kd = (U : Int) := by rw [wrap_u64_at, hU]
  have hw2 : IntKind.u64.wrap nd = (N : Int) := by rw [wrap_u64_at, hN]
  rw [hU] at hk
  have hm1 : (U : Int).tmod 12 = 9 := by rw [Int.tmod_eq_emod_of_nonneg (by omega)]; omega
  rw [hN]
  obtain ⟨V, hV⟩ : ∃ V, V = w.alloc (.cells #[.int .i64 kd, .int .i64 nd, .string (str p)] 55) := ⟨_, rfl⟩
  have hbV := below_one w (.cells #[.int .i64 kd, .int .i64 nd, .string (str p)] 55)
  have hPb := heap_new w (.cells #[.int .i64 kd, .int .i64 nd, .string (str p)] 55 (0, 0))
  rw [← hV] at hbV hPb
  have HBV := Lib.hid hbV
  have HPb := Lib.hid hPb
  have hBV : B ≤ V.heap.size := by have := hbV.size; omega
  have HLV := Lib.hid (HL.out.later hbV)
  have a0 : V.cell? ⟨w.heap.size, 0, none⟩ = some (.int .i64 kd) := Lib.cell_of_heap hPb 0
  have a1 : V.cell? ⟨w.heap.size, 1, none⟩ = some (.int .i64 nd) := Lib.cell_of_heap hPb 1
  have a2 : V.cell? ⟨w.heap.size, 2, none⟩ = some (.string (str p)) := Lib.cell_of_heap hPb 2
  have HV := Lib.hid hV
  clear h hi hU hN hV hbV hPb hk
  obtain ⟨n, hn⟩ : ∃ n, l.net.length = n := ⟨_, rfl⟩
  have hn200 : n ≤ 200 := by rw [← hn]; exact HI.out.net
  obtain ⟨A0, c0, hv⟩ := own_form15Q HLV.out.net
  rw [hn] at hv
  have hcell := HLV.out.cell 10
  have hfr := HLV.out.fr 10
  rw [show (lnCells l m)[10]? = some (m.v 0) from rfl, hv] at hcell
  have HMv := Lib.hid hv
  clear hv
  have hnw : IntKind.u64.wrap (n : Int) = (n : Int) := by rw [wrap_u64_at]; omega
  by_cases hn0 : n = 0
  · have HE : Hid (actL l 9 N p = l) := Lib.hid (by
      have : l.net = [] := List.eq_nil_of_length_eq_zero (by omega)
      unfold actL
      rw [if_neg (by omega), if_neg (by omega), if_neg (by omega), this]
      rfl)
    have HB0 := Lib.hid (HBV.out.mono (Nat.le_of_lt hHlt))
    clear hn
    subst hn0
    go_enter Try.func25, Try.ntmps25
    go_upto_region 1 with fail
    rw [← HV.out]
    go_wp2
    go_end0
    exact ⟨rfl, ⟨m, by rw [HE.out]; exact HLV.out⟩, HB0.out⟩
  have hnz : ¬ (n : Int) = 0 := by omega
  have hnq : ((n : Int) == 0) = false := beq_eq_false_iff_ne.2 hnz
  obtain ⟨k, hk⟩ : ∃ k, N % n = k := ⟨_, rfl⟩
  have hkn : k < n := by rw [← hk]; exact Nat.mod_lt _ (by omega)
  have hmk : (N : Int).tmod (n : Int) = (k : Int) := by rw [Int.tmod_eq_emod_of_nonneg (by omega), ← hk]; exact (Int.natCast_emod N n).symm
  have hkw : IntKind.i64.wrap (k : Int) = (k : Int) := by rw [IntKind.wrap_i64]; omega
  have hkl : k < l.net.length := by omega
  have HA : Hid (actL l 9 N p = l.gone k) := Lib.hid (by
    unfold actL
    rw [if_neg (by omega), if_neg (by omega), if_neg (by omega), hn, hk, List.getElem?_eq_getElem hkl]
    rfl)
  have HBk := Lib.hid hk
  clear hk
  have HLD := Lib.hid (HLV.out.later (Below.refl V.heap.size V).drew)
  have hg := gone_any HLD.out (by omega) k hkl
  obtain ⟨q, hq⟩ : ∃ q, l.net[k] = q := ⟨_, rfl⟩
  rw [hq] at hg
  have HG := Lib.hid hg
  clear hg hq hkl hn
  go_enter Try.func25, Try.ntmps25
  go_upto_region 1 with fail
  rw [← HV.out]
  go_wp2_with fail
  go_region
  go_wp2_with (go_at_call 29; (with_reducible refine HG.out.mono ?_); rintro e W7 ⟨rfl, hL7, hB7⟩)
  go_end0
  exact ⟨rfl, by rw [HA.out]; exact hL7, (HBV.out.mono (Nat.le_of_lt hHlt)).drew.trans hB7⟩

set_option maxHeartbeats 4000000 in
set_option maxRecDepth 100000 in
theorem act_10 {B H : Nat} {w : World} {l : Line} {m : LnM} (h : LnAt B H w l m) (hi : LnIn l) (hB : B ≤ w.heap.size) (kd nd : Int) (p : List UInt8) (hk : (kd % 18446744073709551616).toNat % 12 = 10) :
    Calls Try.prog 25 #[.pointer (some ⟨H, 0, none⟩), .agg #[.int .i64 kd, .int .i64 nd, .string (str p)]] w (LnEnd B H (actL l 10 (nd % 18446744073709551616).toNat p) w) := by
  have HL := Lib.hid h
  have HI := Lib.hid hi
  have hHlt := h.lt
  obtain ⟨U, hU⟩ : ∃ U, (kd % 18446744073709551616).toNat = U := ⟨_, rfl⟩
  obtain ⟨N, hN⟩ : ∃ N, (nd % 18446744073709551616).toNat = N := ⟨_, rfl⟩
  have hw1 : IntKind.u64.wrap kd = (U : Int) := by rw [wrap_u64_at, hU]
  have hw2 : IntKind.u64.wrap nd = (N : Int) := by rw [wrap_u64_at, hN]
  rw [hU] at hk
  have hm1 : (U : Int).tmod 12 = 10 := by rw [Int.tmod_eq_emod_of_nonneg (by omega)]; omega
  rw [hN]
  obtain ⟨V, hV⟩ : ∃ V, V = w.alloc (.cells #[.int .i64 kd, .int .i64 nd, .string (str p)] 55) := ⟨_, rfl⟩
  have hbV := below_one w (.cells #[.int .i64 kd, .int .i64 nd, .string (str p)] 55)
  have hPb := heap_new w (.cells #[.int .i64 kd, .int .i64 nd, .string (str p)] 55 (0, 0))
  rw [← hV] at hbV hPb
  have HBV := Lib.hid hbV
  have HPb := Lib.hid hPb
  have hBV : B ≤ V.heap.size := by have := hbV.size; omega
  have HLV := Lib.hid (HL.out.later hbV)
  have a0 : V.cell? ⟨w.heap.size, 0, none⟩ = some (.int .i64 kd) := Lib.cell_of_heap hPb 0
  have a1 : V.cell? ⟨w.heap.size, 1, none⟩ = some (.int .i64 nd) := Lib.cell_of_heap hPb 1
  have a2 : V.cell? ⟨w.heap.size, 2, none⟩ = some (.string (str p)) := Lib.cell_of_heap hPb 2
  have HV := Lib.hid hV
  clear h hi hU hN hV hbV hPb hk
  obtain ⟨n, hn⟩ : ∃ n, l.net.length = n := ⟨_, rfl⟩
  have hn200 : n ≤ 200 := by rw [← hn]; exact HI.out.net
  obtain ⟨A0, c0, hv⟩ := own_form15Q HLV.out.net
  rw [hn] at hv
  have hcell := HLV.out.cell 10
  have hfr := HLV.out.fr 10
  rw [show (lnCells l m)[10]? = some (m.v 0) from rfl, hv] at hcell
  have HMv := Lib.hid hv
  clear hv
  have hnw : IntKind.u64.wrap (n : Int) = (n : Int) := by rw [wrap_u64_at]; omega
  by_cases hn0 : n = 0
  · have HE : Hid (actL l 10 N p = l) := Lib.hid (by
      have : l.net = [] := List.eq_nil_of_length_eq_zero (by omega)
      unfold actL
      rw [if_neg (by omega), if_neg (by omega), if_neg (by omega), this]
      rfl)
    have HB0 := Lib.hid (HBV.out.mono (Nat.le_of_lt hHlt))
    clear hn
    subst hn0
    go_enter Try.func25, Try.ntmps25
    go_upto_region 1 with fail
    rw [← HV.out]
    go_wp2
    go_end0
    exact ⟨rfl, ⟨m, by rw [HE.out]; exact HLV.out⟩, HB0.out⟩
  have hnz : ¬ (n : Int) = 0 := by omega
  have hnq : ((n : Int) == 0) = false := beq_eq_false_iff_ne.2 hnz
  obtain ⟨k, hk⟩ : ∃ k, N % n = k := ⟨_, rfl⟩
  have hkn : k < n := by rw [← hk]; exact Nat.mod_lt _ (by omega)
  have hmk : (N : Int).tmod (n : Int) = (k : Int) := by rw [Int.tmod_eq_emod_of_nonneg (by omega), ← hk]; exact (Int.natCast_emod N n).symm
  have hkw : IntKind.i64.wrap (k : Int) = (k : Int) := by rw [IntKind.wrap_i64]; omega
  have hkl : k < l.net.length := by omega
  have HA : Hid (actL l 10 N p = l.send l.net[k]) := Lib.hid (by
    unfold actL
    rw [if_neg (by omega), if_neg (by omega), if_neg (by omega), hn, hk, List.getElem?_eq_getElem hkl]
    rfl)
  have HBk := Lib.hid hk
  clear hk
  have HLD := Lib.hid (HLV.out.later (Below.refl V.heap.size V).drew)
  obtain ⟨g0, cap, hv0, hgB, hgl, hcap, hcs⟩ := net_form HLV.out.net (by omega)
  rw [hn] at hv0 hcap
  have hsl := HMv.out.symm.trans hv0
  injection hsl with hs1 hs2 hs3
  rw [hs1] at hcell
  obtain ⟨q0, q1, q2⟩ := pkCells_at hkl
  have p0 : V.cell? ⟨g0, k * 3, none⟩ = some (.int .i64 (l.net[k].to_ : Int)) := by obtain ⟨a, b⟩ := List.getElem?_eq_some_iff.1 q0; rw [hcs _ a, b]
  have p1 : V.cell? ⟨g0, k * 3 + 1, none⟩ = some (.string (str l.net[k].s)) := by obtain ⟨a, b⟩ := List.getElem?_eq_some_iff.1 q1; rw [hcs _ a, b]
  have p2 : V.cell? ⟨g0, k * 3 + 2, none⟩ = some (.bool l.net[k].bad) := by obtain ⟨a, b⟩ := List.getElem?_eq_some_iff.1 q2; rw [hcs _ a, b]
  have hk0 : (0 : Int) ≤ (k : Int) := by omega
  have hkni : (k : Int) < (n : Int) := by omega
  have hq3 := HI.out.each _ (List.getElem_mem hkl)
  obtain ⟨q, hq⟩ : ∃ q, l.net[k] = q := ⟨_, rfl⟩
  rw [hq] at p0 p1 p2 hq3
  clear hs2 hs3 q0 q1 q2
  have HA2 : Hid (actL l 10 N p = l.send q) := Lib.hid (by rw [HA.out, hq])
  have HSd := Lib.hid (send_any HLD.out (by omega) hBV q)
  clear hq HA hcs hv0
  go_enter Try.func25, Try.ntmps25
  go_upto_region 1 with fail
  rw [← HV.out]
  go_wp2_with fail
  go_region
  go_wp2_with (go_at_call 27; (with_reducible refine HSd.out.mono ?_); rintro e W7 ⟨rfl, hL7, hB7⟩)
  go_end0
  exact ⟨rfl, by rw [HA2.out]; exact hL7, (HBV.out.mono (Nat.le_of_lt hHlt)).drew.trans hB7⟩

set_option maxHeartbeats 4000000 in
set_option maxRecDepth 100000 in
theorem act_11 {B H : Nat} {w : World} {l : Line} {m : LnM} (h : LnAt B H w l m) (hi : LnIn l) (hB : B ≤ w.heap.size) (kd nd : Int) (p : List UInt8) (hk : (kd % 18446744073709551616).toNat % 12 = 11) :
    Calls Try.prog 25 #[.pointer (some ⟨H, 0, none⟩), .agg #[.int .i64 kd, .int .i64 nd, .string (str p)]] w (LnEnd B H (actL l 11 (nd % 18446744073709551616).toNat p) w) := by
  have HL := Lib.hid h
  have HI := Lib.hid hi
  have hHlt := h.lt
  obtain ⟨U, hU⟩ : ∃ U, (kd % 18446744073709551616).toNat = U := ⟨_, rfl⟩
  obtain ⟨N, hN⟩ : ∃ N, (nd % 18446744073709551616).toNat = N := ⟨_, rfl⟩
  have hw1 : IntKind.u64.wrap kd = (U : Int) := by rw [wrap_u64_at, hU]
  have hw2 : IntKind.u64.wrap nd = (N : Int) := by rw [wrap_u64_at, hN]
  rw [hU] at hk
  have hm1 : (U : Int).tmod 12 = 11 := by rw [Int.tmod_eq_emod_of_nonneg (by omega)]; omega
  rw [hN]
  obtain ⟨V, hV⟩ : ∃ V, V = w.alloc (.cells #[.int .i64 kd, .int .i64 nd, .string (str p)] 55) := ⟨_, rfl⟩
  have hbV := below_one w (.cells #[.int .i64 kd, .int .i64 nd, .string (str p)] 55)
  have hPb := heap_new w (.cells #[.int .i64 kd, .int .i64 nd, .string (str p)] 55 (0, 0))
  rw [← hV] at hbV hPb
  have HBV := Lib.hid hbV
  have HPb := Lib.hid hPb
  have hBV : B ≤ V.heap.size := by have := hbV.size; omega
  have HLV := Lib.hid (HL.out.later hbV)
  have a0 : V.cell? ⟨w.heap.size, 0, none⟩ = some (.int .i64 kd) := Lib.cell_of_heap hPb 0
  have a1 : V.cell? ⟨w.heap.size, 1, none⟩ = some (.int .i64 nd) := Lib.cell_of_heap hPb 1
  have a2 : V.cell? ⟨w.heap.size, 2, none⟩ = some (.string (str p)) := Lib.cell_of_heap hPb 2
  have HV := Lib.hid hV
  clear h hi hU hN hV hbV hPb hk
  obtain ⟨n, hn⟩ : ∃ n, l.net.length = n := ⟨_, rfl⟩
  have hn200 : n ≤ 200 := by rw [← hn]; exact HI.out.net
  obtain ⟨A0, c0, hv⟩ := own_form15Q HLV.out.net
  rw [hn] at hv
  have hcell := HLV.out.cell 10
  have hfr := HLV.out.fr 10
  rw [show (lnCells l m)[10]? = some (m.v 0) from rfl, hv] at hcell
  have HMv := Lib.hid hv
  clear hv
  have hnw : IntKind.u64.wrap (n : Int) = (n : Int) := by rw [wrap_u64_at]; omega
  by_cases hn0 : n = 0
  · have HE : Hid (actL l 11 N p = l) := Lib.hid (by
      have : l.net = [] := List.eq_nil_of_length_eq_zero (by omega)
      unfold actL
      rw [if_neg (by omega), if_neg (by omega), if_neg (by omega), this]
      rfl)
    have HB0 := Lib.hid (HBV.out.mono (Nat.le_of_lt hHlt))
    clear hn
    subst hn0
    go_enter Try.func25, Try.ntmps25
    go_upto_region 1 with fail
    rw [← HV.out]
    go_wp2
    go_end0
    exact ⟨rfl, ⟨m, by rw [HE.out]; exact HLV.out⟩, HB0.out⟩
  have hnz : ¬ (n : Int) = 0 := by omega
  have hnq : ((n : Int) == 0) = false := beq_eq_false_iff_ne.2 hnz
  obtain ⟨k, hk⟩ : ∃ k, N % n = k := ⟨_, rfl⟩
  have hkn : k < n := by rw [← hk]; exact Nat.mod_lt _ (by omega)
  have hmk : (N : Int).tmod (n : Int) = (k : Int) := by rw [Int.tmod_eq_emod_of_nonneg (by omega), ← hk]; exact (Int.natCast_emod N n).symm
  have hkw : IntKind.i64.wrap (k : Int) = (k : Int) := by rw [IntKind.wrap_i64]; omega
  have hkl : k < l.net.length := by omega
  have HA : Hid (actL l 11 N p = l.turn k p.length) := Lib.hid (by
    unfold actL
    rw [if_neg (by omega), if_neg (by omega), if_neg (by omega), hn, hk, List.getElem?_eq_getElem hkl]
    rfl)
  have HBk := Lib.hid hk
  clear hk
  have HLD := Lib.hid (HLV.out.later (Below.refl V.heap.size V).drew)
  obtain ⟨g0, cap, hv0, hgB, hgl, hcap, hcs⟩ := net_form HLV.out.net (by omega)
  rw [hn] at hv0 hcap
  have hsl := HMv.out.symm.trans hv0
  injection hsl with hs1 hs2 hs3
  rw [hs1] at hcell
  obtain ⟨q0, q1, q2⟩ := pkCells_at hkl
  have p0 : V.cell? ⟨g0, k * 3, none⟩ = some (.int .i64 (l.net[k].to_ : Int)) := by obtain ⟨a, b⟩ := List.getElem?_eq_some_iff.1 q0; rw [hcs _ a, b]
  have p1 : V.cell? ⟨g0, k * 3 + 1, none⟩ = some (.string (str l.net[k].s)) := by obtain ⟨a, b⟩ := List.getElem?_eq_some_iff.1 q1; rw [hcs _ a, b]
  have p2 : V.cell? ⟨g0, k * 3 + 2, none⟩ = some (.bool l.net[k].bad) := by obtain ⟨a, b⟩ := List.getElem?_eq_some_iff.1 q2; rw [hcs _ a, b]
  have hk0 : (0 : Int) ≤ (k : Int) := by omega
  have hkni : (k : Int) < (n : Int) := by omega
  have hq3 := HI.out.each _ (List.getElem_mem hkl)
  obtain ⟨q, hq⟩ : ∃ q, l.net[k] = q := ⟨_, rfl⟩
  rw [hq] at p0 p1 p2 hq3
  clear hs2 hs3 q0 q1 q2
  have hq4 := HI.out.ne _ (List.getElem_mem hkl)
  rw [hq] at hq4
  obtain ⟨cb, w2, hcv, hby, hb2, hz2⟩ := bytes_of_text V.drew (str q.s)
  rw [str_list] at hby
  rw [str_size] at hcv
  have hVd : V.drew.heap.size = V.heap.size := rfl
  rw [hVd] at hcv hby hz2 hb2
  have hb2' : Below V.heap.size V w2 := (Below.refl V.heap.size V).drew.trans hb2
  have HL2 := Lib.hid (HLV.out.later hb2')
  have HB2 := Lib.hid hb2'
  have r2 := (HB2.out.cell (p := ⟨g0, k * 3 + 2, none⟩) hgl).trans p2
  have r0 := (HB2.out.cell (p := ⟨g0, k * 3, none⟩) hgl).trans p0
  have rH := (HB2.out.cell (p := ⟨H, 10, none⟩) HLV.out.lt).trans hcell
  have ra := (HB2.out.cell (p := ⟨w.heap.size, 2, none⟩) (heap_lt HPb.out)).trans a2
  have HA2 : Hid (l.turn k p.length = if q.bad = true then l else ⟨l.st, l.net.set k ⟨q.to_, turnS q.s (p.length % q.s.length), true⟩⟩) := Lib.hid (by unfold Line.turn; rw [List.getElem?_eq_getElem hkl, hq])
  have HV0 := Lib.hid hv0
  clear hcs hv0 hq hb2 hb2'
  cases hbad : q.bad with
  | true =>
    rw [hbad] at r2 p2
    have HE2 : Hid (actL l 11 N p = l) := Lib.hid (by rw [HA.out, HA2.out, if_pos hbad])
    go_enter Try.func25, Try.ntmps25
    go_upto_region 1 with fail
    rw [← HV.out]
    go_wp2_with fail
    go_region
    go_wp2_with fail
    go_end0
    exact ⟨rfl, ⟨m, by rw [HE2.out]; exact HL2.out⟩, (HBV.out.mono (Nat.le_of_lt hHlt)).trans (HB2.out.mono (Nat.le_of_lt (Nat.lt_of_lt_of_le hHlt HBV.out.size)))⟩
  | false =>
    rw [hbad] at r2 p2
    have HE2 : Hid (actL l 11 N p = ⟨l.st, l.net.set k ⟨q.to_, turnS q.s (p.length % q.s.length), true⟩⟩) := Lib.hid (by rw [HA.out, HA2.out, hbad]; rfl)
    have hql : 0 < q.s.length := List.length_pos_iff.2 hq4
    obtain ⟨j, hj⟩ : ∃ j, p.length % q.s.length = j := ⟨_, rfl⟩
    have hjl : j < q.s.length := by rw [← hj]; exact Nat.mod_lt _ hql
    have hmj : ((p.length : Nat) : Int).tmod ((q.s.length : Nat) : Int) = (j : Int) := by rw [Int.tmod_eq_emod_of_nonneg (by omega), ← hj]; exact (Int.natCast_emod _ _).symm
    have hps := str_size p
    have hqz : ¬ ((q.s.length : Nat) : Int) = 0 := by omega
    have hqz2 : (((q.s.length : Nat) : Int) == 0) = false := beq_eq_false_iff_ne.2 hqz
    rw [hj] at HE2
    obtain ⟨hc, hf⟩ := hby j hjl
    go_enter Try.func25, Try.ntmps25
    go_upto_region 1 with fail
    rw [← HV.out]
    go_wp2_with fail
    go_region
    go_wp2_with fail
    obtain ⟨X, hX⟩ : ∃ X, X = w2.setCell ⟨V.heap.size, j, none⟩ (.int .u8 (bits .xor .u8 (((q.s[j]).toNat : Nat) : Int) (((1 : UInt8).toNat : Nat) : Int))) := ⟨_, rfl⟩
    have hX2 := hX
    rw [show (((1 : UInt8).toNat : Nat) : Int) = 1 from rfl] at hX2
    rw [← hX2]
    have HbX := Lib.hid (show BytesIn X.drew V.heap.size (q.s.set j (q.s[j] ^^^ 1)) from by
      have h1 := hby.set j (q.s[j] ^^^ 1)
      rw [← u8_turn, ← hX] at h1
      exact h1)
    have hcv2 := text_of_bytes HbX.out cb
    rw [List.length_set, show q.s.set j (q.s[j] ^^^ 1) = turnS q.s j from by unfold turnS; rw [List.getD_eq_getElem?_getD, List.getElem?_eq_getElem hjl]; rfl] at hcv2
    have hHV := HLV.out.lt
    have HL3 := Lib.hid (show LnAt B H X l m from by
      rw [hX]
      exact HL2.out.farSet (by omega) (fun i hi e => by have := (HLV.out.row_lt hi e).2; omega) (fun i hi a ha e => by have := HLV.out.ins i hi a ha; omega) j _)
    have HB3 := Lib.hid (show Below V.heap.size V X from by rw [hX]; exact HB2.out.setCell (p := ⟨V.heap.size, j, none⟩) (Nat.le_refl _) _)
    have hmv : m.v 0 = .slice (some ⟨g0, 0, none⟩) l.net.length cap := by rw [hn]; exact HV0.out
    have hwv := hmv
    have HL4 := Lib.hid (((HL3.out.later (Below.refl X.heap.size X).drew).netSet hmv k ⟨q.to_, turnS q.s j, true⟩))
    have HB4 := Lib.hid ((HB3.out.mono (Nat.le_of_lt hHV)).drew)
    have x10 := (HB3.out.cell (p := ⟨H, 10, none⟩) hHV).trans hcell
    have x0 := (HB3.out.cell (p := ⟨g0, k * 3, none⟩) hgl).trans p0
    have x1 := (HB3.out.cell (p := ⟨g0, k * 3 + 1, none⟩) hgl).trans p1
    have x2 := (HB3.out.cell (p := ⟨g0, k * 3 + 2, none⟩) hgl).trans p2
    have hno := HL3.out.net
    rw [hmv] at hno
    have xf := fun o => hno.frozenAt o
    have hgH : H ≤ g0 := by have := HLV.out.lo; omega
    clear hX hX2 hno hmv hwv r0 r2 rH ra p0 p1 p2 hcell hcv hc hf hby hn
    unfold pkSetAt at HL4
    dsimp only at HL4
    go_region
    go_wp2_with fail
    go_end0
    exact ⟨rfl, ⟨m, by rw [HE2.out]; exact HL4.out⟩, (HBV.out.mono (Nat.le_of_lt hHlt)).trans (((HB4.out.setCell (p := ⟨g0, k * 3, none⟩) hgH _).setCell (p := ⟨g0, k * 3 + 1, none⟩) hgH _).setCell (p := ⟨g0, k * 3 + 2, none⟩) hgH _)⟩
end Go.Proofs.Ytdhmkcomngbmaaa

namespace Go.Proofs.Ytdhmkcomngbmaaa
open Go.RowKit

theorem act_any {B H : Nat} {w : World} {l : Line} {m : LnM} (h : LnAt B H w l m) (hi : LnIn l) (hB : B ≤ w.heap.size) (kd nd : Int) (p : List UInt8) :
    Calls Try.prog 25 #[.pointer (some ⟨H, 0, none⟩), .agg #[.int .i64 kd, .int .i64 nd, .string (str p)]] w (LnEnd B H (actL l ((kd % 18446744073709551616).toNat % 12) (nd % 18446744073709551616).toNat p) w) := by
  obtain ⟨c, hc⟩ : ∃ c, (kd % 18446744073709551616).toNat % 12 = c := ⟨_, rfl⟩
  have hc12 : c < 12 := by rw [← hc]; exact Nat.mod_lt _ (by omega)
  have hn2 : (nd % 18446744073709551616).toNat % 2 = 0 ∨ (nd % 18446744073709551616).toNat % 2 = 1 := by omega
  rw [hc]
  rcases (show c = 0 ∨ c = 1 ∨ c = 2 ∨ c = 3 ∨ c = 4 ∨ c = 5 ∨ c = 6 ∨ c = 7 ∨ c = 8 ∨ c = 9 ∨ c = 10 ∨ c = 11 by omega) with rfl | rfl | rfl | rfl | rfl | rfl | rfl | rfl | rfl | rfl | rfl | rfl
  · exact act_0 h hi hB kd nd p hc
  · exact act_1 h hi hB kd nd p hc
  · exact act_2 h hi hB kd nd p hc
  · rcases hn2 with e | e
    · exact act_3_0 h hi hB kd nd p hc e
    · exact act_3_1 h hi hB kd nd p hc e
  · rcases hn2 with e | e
    · exact act_4_0 h hi hB kd nd p hc e
    · exact act_4_1 h hi hB kd nd p hc e
  · exact act_5 h hi hB kd nd p hc
  · exact act_6 h hi hB kd nd p hc
  · exact act_7 h hi hB kd nd p hc
  · exact act_8 h hi hB kd nd p hc
  · exact act_9 h hi hB kd nd p hc
  · exact act_10 h hi hB kd nd p hc
  · exact act_11 h hi hB kd nd p hc
end Go.Proofs.Ytdhmkcomngbmaaa
