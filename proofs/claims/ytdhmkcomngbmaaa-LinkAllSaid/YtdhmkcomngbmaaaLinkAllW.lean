/- The walk of LinkAll. -/
import Derived.Test.YtdhmkcomngbmaaaLinkIn
import Derived.Test.YtdhmkcomngbmaaaLinkO
import Derived.Deep.LoopGhost
import Derived.Deep.CutBlock
namespace Go.Proofs.Ytdhmkcomngbmaaa
open Go.RowKit

/-- A packet comes, to the one end or to the other. -/
theorem comes_pk {B H : Nat} {w : World} {l : Line} {m : LnM} (h : LnAt B H w l m) (hi : LnIn l) (hB : B ≤ w.heap.size) (q : Pk) (hq : q.to_ < 2) (hs : q.s.length ≤ 10000) :
    Calls Try.prog 28 #[.pointer (some ⟨H, 0, none⟩), pkVal q] w (LnEnd B H (l.comes q) w) := by
  obtain ⟨t, s, bad⟩ := q
  unfold pkVal
  dsimp only at hq hs ⊢
  rcases (show t = 0 ∨ t = 1 by omega) with rfl | rfl
  · exact comes_any0 h (by have := hi.net; omega) (hi.came 0 (by omega)) (hi.ok 0 (by omega)) hB s hs bad
  · exact comes_any1 h (by have := hi.net; omega) (hi.came 1 (by omega)) (hi.ok 1 (by omega)) hB s hs bad
/-- Nothing is under way any more. -/
theorem LnAt.netNil {B H : Nat} {w : World} {l : Line} {m : LnM} (h : LnAt B H w l m) : LnAt B H (w.setCell ⟨H, 10, none⟩ (.slice none 0 0)) ⟨l.st, []⟩ { m with v := updV m.v 0 (.slice none 0 0) } :=
  h.grow (k := 0) (l' := ⟨l.st, []⟩) (by omega) (grown_below (Below.refl _ _) _) (fun g hg => by cases hg) (fun i _ => rfl) (fun e => absurd rfl e) (fun i _ _ => rfl) (fun i _ _ => rfl) (fun _ => World.ownsRow_nil _ _ _ _) (fun i hi e => by omega) (fun i hi e => by omega)
theorem BadLe.nil (st : Nat → Site) : BadLe ⟨st, []⟩ := fun q hq => by cases hq
theorem BadLe.begin_ (l : Line) : BadLe (beginL l) := BadLe.sends _ _ (BadLe.sends _ _ (BadLe.nil l.st))
theorem BadLe.step {l : Line} (h : BadLe l) : BadLe (stepL l) := by
  unfold stepL
  split
  · exact h
  · rename_i p r hn
    exact BadLe.comes (l := ⟨l.st, r⟩) (fun q hq => h q (by rw [hn]; exact List.mem_cons_of_mem _ hq)) p
theorem BadLe.iter : ∀ (n : Nat) {l : Line}, BadLe l → BadLe (iterL n l)
  | 0, _, h => h
  | n + 1, _, h => BadLe.iter n h.step
theorem BadLe.rounds {l : Line} (h : BadLe l) : ∀ n, BadLe (roundsL n l)
  | 0 => h
  | _ + 1 => BadLe.iter _ (BadLe.begin_ _)
theorem LineOk.rounds {l : Line} {N : Nat} (h : LineOk l N) : ∀ n, LineOk (roundsL n l) N := fun n => (rounds_ok h n).ok
theorem LineOk.nil {l : Line} {N : Nat} (h : LineOk l N) : LineOk ⟨l.st, []⟩ N := ⟨h.a, h.b, fun q hq => (by cases hq), Nat.zero_le _, h.p0, h.p1⟩

/-- At each end: all that was put at the other end has come. -/
theorem same_lat {B H : Nat} {V : World} {l : Line} {m : LnM} {N : Nat} (h : LnAt B H V l m) (ho : LineOk l N) (hN : N ≤ 1000) {i : Nat} (hi : i < 2) (he : (l.st i).came = (l.st (1 - i)).put) :
    ∃ (A : Option Addr) (n c : Nat) (A' : Option Addr) (c' : Nat), m.v (3 + i) = .slice A n c ∧ m.v (1 + (1 - i)) = .slice A' n c' ∧ LatCalls Try.prog V 19 #[.slice A n c, .slice A' n c'] (.bool true) := by
  obtain ⟨A, c, hv, hl, hs, _, _⟩ := own_strs2 (h.came i hi)
  obtain ⟨A', c', hv', hl', hs', _, _⟩ := own_strs2 (h.put (1 - i) (by omega))
  have hp : (l.st (1 - i)).put.length ≤ 1000 := by
    have h0 := ho.p0
    have h1 := ho.p1
    rcases (show i = 0 ∨ i = 1 by omega) with rfl | rfl <;> (simp; omega)
  rw [he] at hv hs
  exact ⟨A, _, c, A', c', hv, hv', LatCalls.of fun z => (Same_yes A A' c c' z.wd.heap.size z.wd.heap.size _ z.wd (by unfold maxLen; omega) (hs.next z.bel) (hs'.next z.bel))⟩

set_option maxHeartbeats 4000000 in
set_option maxRecDepth 100000 in
theorem LinkAll_walk {w : World} {A : Option Addr} {len cap : Nat} (xs : List LActV) (h : IsLActs w A len xs) :
    Calls Try.prog 7 #[.slice A len cap] w fun e w' => e = .returned (.bool true) ∧ Below w.heap.size w w' := by
  have HA := Lib.hid h
  have hlen : xs.length = len := h.1
  have hlm := h.2.1
  have HLi := Lib.hid (line_any w)
  clear h
  go_enter Try.func7, Try.ntmps7
  go_upto_block 0 with (go_at_call 24; (with_reducible refine HLi.out.mono ?_); rintro e w1 ⟨H, m0, rfl, hH, hL1, hb1⟩; have HL1 := Lib.hid hL1; have HH := Lib.hid hH; have HB1 := Lib.hid hb1; clear hL1 hb1)
  go_cut [5] from 16 to 39 (fun i wr => ∃ (k : Nat) (lk : Line) (m' : LnM), k ≤ 100 ∧ Hid (LnAt w1.heap.size H wr lk m') ∧ Hid (LineOk lk k ∧ BadLe lk) ∧ Hid (Below w.heap.size w wr ∧ w1.heap.size ≤ wr.heap.size))
  case first =>
    go_wp2_with fail
    go_loopw [5] (fun i wr => ∃ (k : Nat) (lk : Line) (m' : LnM), k ≤ 100 ∧ k ≤ len ∧ i = .int .i64 k ∧ Hid (LnAt w1.heap.size H wr lk m') ∧ Hid (LineOk lk k ∧ BadLe lk) ∧ Hid (Below w.heap.size w wr ∧ w1.heap.size ≤ wr.heap.size)) (fun i _ => 100 - (intOf i).toNat)
    case atStart => exact ⟨0, lineNew, m0, by omega, by omega, rfl, HL1, Lib.hid ⟨lineNew_ok, badLe_new⟩, Lib.hid ⟨HB1.out, Nat.le_refl _⟩⟩
    case round =>
      obtain ⟨k, lk, m', hk, hkl, rfl, HLk, HOk, HBk⟩ := hrel
      have hE : ∀ W9, Below wr.heap.size wr W9 → Below w.heap.size w W9 := fun W9 hb => below_next HBk.out.1 hb
      have HE := Lib.hid hE
      clear hE
      by_cases hk2 : k < len
      case neg =>
        have hkl2 : ¬ (k : Int) < (len : Int) := by omega
        go_wp2_with fail
        go_meet
        case rel => exact ⟨k, lk, m', hk, HLk, HOk, HBk⟩
      by_cases hk3 : k < 100
      case neg =>
        have hkl2 : (k : Int) < (len : Int) := by omega
        have hkl3 : ¬ (k : Int) < 100 := by omega
        go_wp2_with fail
        go_meet
        case rel => exact ⟨k, lk, m', hk, HLk, HOk, HBk⟩
      obtain ⟨b, off, rfl, hbl, hca, hoa⟩ := HA.out.at_ HBk.out.1 (i := k) (by omega)
      obtain ⟨c0, c1, c2⟩ := hca
      obtain ⟨⟨kd, nd, ps⟩, hx⟩ : ∃ x, xs[k] = x := ⟨_, rfl⟩
      rw [hx] at c0 c1 c2
      dsimp only at c0 c1 c2
      have hkl2 : (k : Int) < (len : Int) := by omega
      have hkl3 : (k : Int) < 100 := by omega
      have hk0 : (0 : Int) ≤ (k : Int) := by omega
      clear hx hoa
      by_cases hps : 600 < ps.size
      · have hps2 : (600 : Int) < (ps.size : Int) := by omega
        go_wp2_with (go_at_call 11; refine (awake15_any _).mono ?_; rintro e w9 ⟨rfl, hb9⟩)
        go_ret
        exact ⟨rfl, HE.out _ hb9⟩
      have hps2 : ¬ (600 : Int) < (ps.size : Int) := by omega
      have hac := act_any HLk.out (HOk.out.1.in_ HOk.out.2 (by omega)) HBk.out.2 kd nd ps.data.toList
      rw [str_of] at hac
      obtain ⟨l2, hl2⟩ : ∃ l2, actL lk ((kd % 18446744073709551616).toNat % 12) (nd % 18446744073709551616).toNat ps.data.toList = l2 := ⟨_, rfl⟩
      have HO2 : Hid (LineOk l2 (k + 1) ∧ BadLe l2) := Lib.hid ⟨by rw [← hl2]; exact HOk.out.1.act _ _ _ (by omega), by rw [← hl2]; exact HOk.out.2.act HOk.out.1 _ _ _⟩
      rw [hl2] at hac
      have HAc := Lib.hid hac
      clear hac hl2
      go_wp2_with (go_at_call 25; (with_reducible refine HAc.out.mono ?_); rintro e w7 ⟨rfl, ⟨m7, hL7⟩, hB7⟩; have HL7 := Lib.hid hL7; have HB7 := Lib.hid hB7; clear hL7 hB7)
      have HB8 := Lib.hid (show Below w.heap.size w w7 from HBk.out.1.trans (HB7.out.mono HH.out))
      have HZ8 := Lib.hid (Nat.le_trans HBk.out.2 HB7.out.size)
      go_roundw
      case rel => exact ⟨k + 1, l2, m7, by omega, by omega, by go_num, HL7, HO2, Lib.hid ⟨HB8.out, HZ8.out⟩⟩
      case measure => simp [intOf]; omega
  case rest =>
  obtain ⟨N, l0, m9, hN, HL2, HO2, HB2⟩ := hcut
  clear HA HLi HL1 HB1 hlm hlen
  have HO3 : Hid (∀ r, LineOk (roundsL r l0) N ∧ BadLe (roundsL r l0)) := Lib.hid (fun r => ⟨HO2.out.1.rounds r, HO2.out.2.rounds r⟩)
  have HAll := Lib.hid (rounds_all HO2.out.1)
  obtain ⟨B, hBq⟩ : ∃ B, w1.heap.size = B := ⟨_, rfl⟩
  rw [hBq] at HL2 HB2
  have HHw : Hid (w.heap.size ≤ H ∧ H < B) := Lib.hid ⟨HH.out, HL2.out.lo⟩
  clear hH HH hBq
  go_wp2_with fail
  go_loopw [6] (fun i wr => ∃ (r : Nat) (m' : LnM), r ≤ 64 ∧ i = .int .i64 r ∧ Hid (LnAt B H wr (roundsL r l0) m') ∧ Hid (Below w.heap.size w wr ∧ B ≤ wr.heap.size)) (fun i _ => 64 - (intOf i).toNat)
  case atStart => exact ⟨0, m9, by omega, rfl, HL2, HB2⟩
  case round =>
  obtain ⟨r, m, hr, rfl, HLr, HBr⟩ := hrel
  clear HL2 HB2
  by_cases hr2 : r < 64
  case neg =>
    obtain rfl : r = 64 := by omega
    obtain ⟨lf, hlf⟩ : ∃ lf, roundsL 64 l0 = lf := ⟨_, rfl⟩
    have HOf := Lib.hid (HO3.out 64)
    rw [hlf] at HLr HAll HOf
    clear hlf HO3
    obtain ⟨e0, e1, e2, e3⟩ := HAll.out
    obtain ⟨A0, n0, d0, A1, d1, v0, v1, hb0⟩ := same_lat HLr.out HOf.out.1 (by omega) (i := 0) (by omega) e0
    obtain ⟨A2, n2, d2, A3, d3, v2, v3, hb1⟩ := same_lat HLr.out HOf.out.1 (by omega) (i := 1) (by omega) e1
    have HG0 := Lib.hid hb0
    have HG1 := Lib.hid hb1
    have HAw := Lib.hid (show LatCalls Try.prog wr 11 #[] (.bool true) from LatCalls.of fun z => awake15_any z.wd)
    have x13 : ∀ z : LatW wr, z.wd.cell? ⟨H, 13, none⟩ = some (.slice A0 n0 d0) := fun z => by rw [← v0]; exact (HLr.out.later z.bel).cell 13
    have x12 : ∀ z : LatW wr, z.wd.cell? ⟨H, 12, none⟩ = some (.slice A1 n0 d1) := fun z => by rw [← v1]; exact (HLr.out.later z.bel).cell 12
    have x14 : ∀ z : LatW wr, z.wd.cell? ⟨H, 14, none⟩ = some (.slice A2 n2 d2) := fun z => by rw [← v2]; exact (HLr.out.later z.bel).cell 14
    have x11 : ∀ z : LatW wr, z.wd.cell? ⟨H, 11, none⟩ = some (.slice A3 n2 d3) := fun z => by rw [← v3]; exact (HLr.out.later z.bel).cell 11
    have x3 : ∀ z : LatW wr, z.wd.cell? ⟨H, 3, none⟩ = some (.slice (m.A 0) 0 (m.c 0)) := fun z => by rw [(HLr.out.later z.bel).cell 3]; show some (Value.slice (m.A 0) (lf.st 0).x.out.length (m.c 0)) = _; rw [e2]; rfl
    have x8 : ∀ z : LatW wr, z.wd.cell? ⟨H, 8, none⟩ = some (.slice (m.A 1) 0 (m.c 1)) := fun z => by rw [(HLr.out.later z.bel).cell 8]; show some (Value.slice (m.A 1) (lf.st 1).x.out.length (m.c 1)) = _; rw [e3]; rfl
    clear v0 v1 v2 v3 hb0 hb1 e0 e1 e2 e3
    go_upto_region 25 with fail
    refine wp_region_in15 (Below.refl _ _) (by kernel_rfl) (by kernel_rfl) ?_
    repeat (first | go_big_quiet_skip | quiet_step (first | (go_at_call 19; with_reducible exact (HG0.out).at_ _) | (go_at_call 19; with_reducible exact (HG1.out).at_ _) | (go_at_call 11; with_reducible exact (HAw.out).at_ _)) | (go_big_quiet_want; go_big_quiet_op; go_big_quiet_on))
    refine wpQuiet_nil ?_
    intro w9 hw9
    obtain ⟨z9, hw9'⟩ := hw9
    subst hw9'
    clear x11 x12 x13 x14 x3 x8
    go_wp2_with fail
    go_ret
    exact ⟨rfl, below_next HBr.out.1 z9.bel⟩
  have hr3 : (r : Int) < 64 := by omega
  obtain ⟨lr, hlr⟩ : ∃ lr, roundsL r l0 = lr := ⟨_, rfl⟩
  have HOr : Hid (LineOk lr N ∧ BadLe lr) := Lib.hid (by rw [← hlr]; exact HO3.out r)
  rw [hlr] at HLr
  have HNx : Hid (roundsL (r + 1) l0 = roundL lr) := Lib.hid (by rw [← hlr]; rfl)
  clear hlr
  have x10 := HLr.out.cell 10
  have xf10 := HLr.out.fr 10
  rw [show (lnCells lr m)[10]? = some (m.v 0) from rfl] at x10
  go_upto_block 4 with fail
  clear x10 xf10
  have HLn := Lib.hid HLr.out.netNil
  have HOn := Lib.hid (HOr.out.1.nil)
  have HBn : Hid (Below w.heap.size w (wr.setCell ⟨H, 10, none⟩ (.slice none 0 0))) := Lib.hid (HBr.out.1.setCell (p := ⟨H, 10, none⟩) HHw.out.1 _)
  have HZn : Hid (B ≤ (wr.setCell ⟨H, 10, none⟩ (.slice none 0 0)).heap.size) := Lib.hid (by have := HBr.out.2; simp [World.setCell] at this ⊢; omega)
  have HBg : Hid (beginL lr = (Line.tick ⟨lr.st, []⟩ 0).tick 1) := Lib.hid rfl
  obtain ⟨ln, hln⟩ : ∃ ln : Line, ln = ⟨lr.st, []⟩ := ⟨_, rfl⟩
  obtain ⟨mn, hmn⟩ : ∃ mn : LnM, mn = { m with v := updV m.v 0 (.slice none 0 0) } := ⟨_, rfl⟩
  rw [← hln] at HLn HOn HBg
  rw [← hmn] at HLn
  have hnet0 : Hid (ln.net.length = 0) := Lib.hid (by rw [hln]; rfl)
  clear hln hmn HLr HBr
  generalize wr.setCell ⟨H, 10, none⟩ (.slice none 0 0) = X at HLn HBn HZn ⊢
  go_wp2_with fail
  refine wp_loop_rounds 3 ?_
  rw [rounds_succ]
  have HXO := Lib.hid ((HOn.out.at_ (i := 0) (by omega)).ok)
  obtain ⟨o1, o2, o3⟩ := HLn.out.out 0 (by omega)
  have x0 := HLn.out.cell 0
  have x1 := HLn.out.cell 1
  have x2 := HLn.out.cell 2
  have x3 := HLn.out.cell 3
  have x4 := HLn.out.cell 4
  rw [show (lnCells ln mn)[0]? = some (.int .i64 (ln.st 0).x.ep) from rfl] at x0
  rw [show (lnCells ln mn)[1]? = some (.int .i64 (ln.st 0).x.ot) from rfl] at x1
  rw [show (lnCells ln mn)[2]? = some (.int .i64 (ln.st 0).x.fi) from rfl] at x2
  rw [show (lnCells ln mn)[3]? = some (.slice (mn.A 0) (ln.st 0).x.out.length (mn.c 0)) from rfl] at x3
  rw [show (lnCells ln mn)[4]? = some (.int .i64 (ln.st 0).x.wa) from rfl] at x4
  have HE : Hid (Line.tick ln 0 = ln.sends 0 (tickL (ln.st 0).x)) := Lib.hid rfl
  obtain ⟨x, hxx⟩ : ∃ x, (ln.st 0).x = x := ⟨_, rfl⟩
  rw [hxx] at HE HXO o1 o3 x0 x1 x2 x3 x4
  have HTk := Lib.hid (LTick_okS x (mn.A 0) (mn.c 0) X o1 HXO.out)
  unfold LEnd.val at HTk
  have hlen : (tickL x).length ≤ 4 := tick_le x
  obtain ⟨ts, hts⟩ : ∃ ts, tickL x = ts := ⟨_, rfl⟩
  rw [hts] at HE HTk hlen
  clear hxx hts o1 o2 o3
  go_wp2_with (go_at_call 13; (with_reducible refine HTk.out.mono ?_); rintro e w9 ⟨A9, c9, rfl, hs9, hn9, hc9, hb9, hf9⟩; have HS9 := Lib.hid hs9; have HB9 := Lib.hid hb9; have HN9 := Lib.hid hn9; have HC9 := Lib.hid hc9; have HF9 := Lib.hid hf9; clear hs9 hn9 hc9 hb9 hf9)
  have HL9 := Lib.hid (HLn.out.later HB9.out)
  have HM9 := Lib.hid (LnMv.of (H := H) mn (Below.refl w9.heap.size w9))
  have HFr : Hid (∀ a, A9 = some a → a.block ≠ H ∧ ∀ j, j < 5 → (mn.v j).ownBlock ≠ some a.block) := Lib.hid (fun a ha => ⟨fun e => by have := HF9.out a ha; have := HLn.out.lt; omega, fun j hj e => by have := HF9.out a ha; have := (HLn.out.row_lt hj e).2; omega⟩)
  have HBw := Lib.hid (below_next HBn.out HB9.out)
  have HZw := Lib.hid (Nat.le_trans HZn.out HB9.out.size)
  clear x0 x1 x2 x3 x4
  go_loopw [58] (fun i wr => ∃ k : Nat, k ≤ ts.length ∧ i = .int .i64 k ∧ Hid (∃ m', LnAt B H wr (ln.sends 0 (ts.take k)) m' ∧ LnMv H w9 wr mn m') ∧ Hid (Below w.heap.size w wr ∧ B ≤ wr.heap.size)) (fun i _ => ts.length - (intOf i).toNat)
  case atStart => exact ⟨0, by omega, rfl, Lib.hid ⟨mn, HL9.out, HM9.out⟩, Lib.hid ⟨HBw.out, HZw.out⟩⟩
  case round =>
  obtain ⟨k, hk, rfl, HLq, HBq⟩ := hrel
  by_cases hlt : k < ts.length
  · obtain ⟨m', hLr, hMr⟩ := HLq.out
    obtain ⟨b, off, rfl, hb9l, hc0⟩ := HS9.out.at_ hlt
    have hfb := HFr.out _ rfl
    have hkb := hMr.keep b hb9l (fun e => hfb.1 e) hfb.2
    have t0 : wr.cell? ⟨b, off + k, none⟩ = some (txt ts[k]) := by rw [World.cell?_of_block (w := w9) (a := ⟨b, off + k, none⟩) hkb]; exact hc0
    have hnl : (ln.sends 0 (ts.take k)).net.length ≤ 1000 := by
      have h1 := sends_len 0 (ts.take k) ln
      have h2 := HOn.out.len
      rw [List.length_take] at h1
      omega
    have hsd := send_anyS hLr hnl HBq.out.2 ⟨1 - 0, ts[k], false⟩
    dsimp only at hsd
    rw [show (((1 - 0 : Nat)) : Int) = 1 from by decide] at hsd
    have HSd := Lib.hid hsd
    have HMr := Lib.hid hMr
    have HEk : Hid ((ln.sends 0 (ts.take k)).send ⟨1 - 0, ts[k], false⟩ = ln.sends 0 (ts.take (k + 1))) := Lib.hid (by
      unfold Line.sends
      rw [List.take_succ_eq_append_getElem hlt, List.foldl_append]
      rfl)
    unfold txt at t0
    obtain ⟨T, hT⟩ : ∃ T, str ts[k] = T := ⟨_, rfl⟩
    rw [hT] at t0 HSd
    clear hsd hLr hMr hkb hc0 hT hfb
    go_wp2_with (go_at_call 27; (with_reducible refine HSd.out.mono ?_); rintro e W7 ⟨rfl, m7, hL7, hM7, hB7⟩)
    rw [HEk.out] at hL7
    have HL7 : Hid (∃ m', LnAt B H W7 (ln.sends 0 (ts.take (k + 1))) m' ∧ LnMv H w9 W7 mn m') := Lib.hid ⟨m7, hL7, HMr.out.trans hM7⟩
    have HB7 : Hid (Below w.heap.size w W7 ∧ B ≤ W7.heap.size) := Lib.hid ⟨HBq.out.1.trans (hB7.mono HHw.out.1), Nat.le_trans HBq.out.2 hB7.size⟩
    clear hL7 hM7 hB7
    go_wp2_with fail
    go_roundw
    case rel => exact ⟨k + 1, by omega, by go_num, HL7, HB7⟩
    case measure => simp [intOf]; omega
  obtain rfl : k = ts.length := by omega
  obtain ⟨ma, hLr, _⟩ := HLq.out
  rw [List.take_length, ← HE.out] at hLr
  have HLa := Lib.hid hLr
  have HOa := Lib.hid (HOn.out.tick (who := 0) (by omega))
  have HBa := Lib.hid HBq.out.1
  have HZa := Lib.hid HBq.out.2
  clear hLr HLq HBq
  go_wp2_with fail
  obtain ⟨la, hla⟩ : ∃ la, Line.tick ln 0 = la := ⟨_, rfl⟩
  rw [hla] at HLa HOa HBg
  clear hla HLn HBn HZn HOn HL9 HM9 HBw HZw HS9 HB9 HN9 HC9 HF9 HFr HTk HE HXO hlen
  rw [rounds_succ]
  have HXO := Lib.hid ((HOa.out.at_ (i := 1) (by omega)).ok)
  obtain ⟨o1, o2, o3⟩ := HLa.out.out 1 (by omega)
  have x0 := HLa.out.cell 5
  have x1 := HLa.out.cell 6
  have x2 := HLa.out.cell 7
  have x3 := HLa.out.cell 8
  have x4 := HLa.out.cell 9
  rw [show (lnCells la ma)[5]? = some (.int .i64 (la.st 1).x.ep) from rfl] at x0
  rw [show (lnCells la ma)[6]? = some (.int .i64 (la.st 1).x.ot) from rfl] at x1
  rw [show (lnCells la ma)[7]? = some (.int .i64 (la.st 1).x.fi) from rfl] at x2
  rw [show (lnCells la ma)[8]? = some (.slice (ma.A 1) (la.st 1).x.out.length (ma.c 1)) from rfl] at x3
  rw [show (lnCells la ma)[9]? = some (.int .i64 (la.st 1).x.wa) from rfl] at x4
  have HE : Hid (Line.tick la 1 = la.sends 1 (tickL (la.st 1).x)) := Lib.hid rfl
  obtain ⟨x, hxx⟩ : ∃ x, (la.st 1).x = x := ⟨_, rfl⟩
  rw [hxx] at HE HXO o1 o3 x0 x1 x2 x3 x4
  have HTk := Lib.hid (LTick_okS x (ma.A 1) (ma.c 1) wr o1 HXO.out)
  unfold LEnd.val at HTk
  have hlen : (tickL x).length ≤ 4 := tick_le x
  obtain ⟨ts, hts⟩ : ∃ ts, tickL x = ts := ⟨_, rfl⟩
  rw [hts] at HE HTk hlen
  clear hxx hts o1 o2 o3
  go_wp2_with (go_at_call 13; (with_reducible refine HTk.out.mono ?_); rintro e w9 ⟨A9, c9, rfl, hs9, hn9, hc9, hb9, hf9⟩; have HS9 := Lib.hid hs9; have HB9 := Lib.hid hb9; have HN9 := Lib.hid hn9; have HC9 := Lib.hid hc9; have HF9 := Lib.hid hf9; clear hs9 hn9 hc9 hb9 hf9)
  have HL9 := Lib.hid (HLa.out.later HB9.out)
  have HM9 := Lib.hid (LnMv.of (H := H) ma (Below.refl w9.heap.size w9))
  have HFr : Hid (∀ a, A9 = some a → a.block ≠ H ∧ ∀ j, j < 5 → (ma.v j).ownBlock ≠ some a.block) := Lib.hid (fun a ha => ⟨fun e => by have := HF9.out a ha; have := HLa.out.lt; omega, fun j hj e => by have := HF9.out a ha; have := (HLa.out.row_lt hj e).2; omega⟩)
  have HBw := Lib.hid (below_next HBa.out HB9.out)
  have HZw := Lib.hid (Nat.le_trans HZa.out HB9.out.size)
  clear x0 x1 x2 x3 x4
  go_loopw [58] (fun i wr => ∃ k : Nat, k ≤ ts.length ∧ i = .int .i64 k ∧ Hid (∃ m', LnAt B H wr (la.sends 1 (ts.take k)) m' ∧ LnMv H w9 wr ma m') ∧ Hid (Below w.heap.size w wr ∧ B ≤ wr.heap.size)) (fun i _ => ts.length - (intOf i).toNat)
  case atStart => exact ⟨0, by omega, rfl, Lib.hid ⟨ma, HL9.out, HM9.out⟩, Lib.hid ⟨HBw.out, HZw.out⟩⟩
  case round =>
  obtain ⟨k, hk, rfl, HLq, HBq⟩ := hrel
  by_cases hlt : k < ts.length
  · obtain ⟨m', hLr, hMr⟩ := HLq.out
    obtain ⟨b, off, rfl, hb9l, hc0⟩ := HS9.out.at_ hlt
    have hfb := HFr.out _ rfl
    have hkb := hMr.keep b hb9l (fun e => hfb.1 e) hfb.2
    have t0 : wr.cell? ⟨b, off + k, none⟩ = some (txt ts[k]) := by rw [World.cell?_of_block (w := w9) (a := ⟨b, off + k, none⟩) hkb]; exact hc0
    have hnl : (la.sends 1 (ts.take k)).net.length ≤ 1000 := by
      have h1 := sends_len 1 (ts.take k) la
      have h2 := HOa.out.len
      rw [List.length_take] at h1
      omega
    have hsd := send_anyS hLr hnl HBq.out.2 ⟨1 - 1, ts[k], false⟩
    dsimp only at hsd
    rw [show (((1 - 1 : Nat)) : Int) = 0 from by decide] at hsd
    have HSd := Lib.hid hsd
    have HMr := Lib.hid hMr
    have HEk : Hid ((la.sends 1 (ts.take k)).send ⟨1 - 1, ts[k], false⟩ = la.sends 1 (ts.take (k + 1))) := Lib.hid (by
      unfold Line.sends
      rw [List.take_succ_eq_append_getElem hlt, List.foldl_append]
      rfl)
    unfold txt at t0
    obtain ⟨T, hT⟩ : ∃ T, str ts[k] = T := ⟨_, rfl⟩
    rw [hT] at t0 HSd
    clear hsd hLr hMr hkb hc0 hT hfb
    go_wp2_with (go_at_call 27; (with_reducible refine HSd.out.mono ?_); rintro e W7 ⟨rfl, m7, hL7, hM7, hB7⟩)
    rw [HEk.out] at hL7
    have HL7 : Hid (∃ m', LnAt B H W7 (la.sends 1 (ts.take (k + 1))) m' ∧ LnMv H w9 W7 ma m') := Lib.hid ⟨m7, hL7, HMr.out.trans hM7⟩
    have HB7 : Hid (Below w.heap.size w W7 ∧ B ≤ W7.heap.size) := Lib.hid ⟨HBq.out.1.trans (hB7.mono HHw.out.1), Nat.le_trans HBq.out.2 hB7.size⟩
    clear hL7 hM7 hB7
    go_wp2_with fail
    go_roundw
    case rel => exact ⟨k + 1, by omega, by go_num, HL7, HB7⟩
    case measure => simp [intOf]; omega
  obtain rfl : k = ts.length := by omega
  obtain ⟨mb, hLr, _⟩ := HLq.out
  rw [List.take_length, ← HE.out] at hLr
  have HLb := Lib.hid hLr
  have HOb := Lib.hid (HOa.out.tick (who := 1) (by omega))
  have HBb := Lib.hid HBq.out.1
  have HZb := Lib.hid HBq.out.2
  clear hLr HLq HBq
  go_wp2_with fail
  rw [rounds_succ]
  go_wp2_with fail
  rw [← HBg.out] at HLb HOb
  clear HLa HOa HBa HZa HL9 HM9 HBw HZw HS9 HB9 HN9 HC9 HF9 HFr HTk HE HXO hlen HBg
  obtain ⟨_, hne⟩ := round_is HOr.out.1
  have HNe := Lib.hid hne
  have HRn : Hid (iterL (lenL lr) (beginL lr) = roundL lr ∧ (roundL lr).net = []) := Lib.hid ⟨rfl, by rw [(round_is HOr.out.1).1]⟩
  have HIt : Hid (∀ j, LineOk (iterL j (beginL lr)) N ∧ BadLe (iterL j (beginL lr))) := Lib.hid (fun j => ⟨(HOr.out.1.begin_).iter j, (BadLe.begin_ lr).iter j⟩)
  have HL0 : Hid (LnAt B H wr (iterL 0 (beginL lr)) mb) := HLb
  clear hne HLb
  go_loopg [ ] (lenL lr) (fun g wr => ∃ (j : Nat) (m' : LnM), g + j = lenL lr ∧ Hid (LnAt B H wr (iterL j (beginL lr)) m') ∧ Hid (Below w.heap.size w wr ∧ B ≤ wr.heap.size))
  case atStart => exact ⟨0, mb, by omega, HL0, Lib.hid ⟨HBb.out, HZb.out⟩⟩
  case round =>
  obtain ⟨j, mj, hgj, HLj, HBj⟩ := hrel
  clear HL0 HBb HZb
  by_cases hg : 0 < gk
  · have hnj := HNe.out j (by omega)
    obtain ⟨lj, hlj⟩ : ∃ lj, iterL j (beginL lr) = lj := ⟨_, rfl⟩
    have HOj : Hid (LineOk lj N ∧ BadLe lj) := Lib.hid (by rw [← hlj]; exact HIt.out j)
    have HSt : Hid (iterL (j + 1) (beginL lr) = stepL lj) := Lib.hid (by rw [iter_succ, hlj])
    rw [hlj] at HLj hnj
    clear hlj
    have hpos : 0 < lj.net.length := List.length_pos_iff.2 hnj
    have hlen := HOj.out.1.len
    obtain ⟨A0, c0, hv⟩ := own_form15Q HLj.out.net
    have x10 := HLj.out.cell 10
    rw [show (lnCells lj mj)[10]? = some (mj.v 0) from rfl, hv] at x10
    have HG := Lib.hid (gone_any HLj.out (by omega) 0 hpos)
    have hq2 := HOj.out.1.net _ (List.getElem_mem hpos)
    have HQ := Lib.hid (HOj.out.1.in_ HOj.out.2 (by omega))
    have HQe := Lib.hid (HQ.out.each _ (List.getElem_mem hpos))
    have HQ2 := Lib.hid hq2.to2
    have HGO := Lib.hid (show LnIn (lj.gone 0) from (HOj.out.1.gone 0).in_ (HOj.out.2.gone 0) (by omega))
    have HSt2 : Hid (stepL lj = (lj.gone 0).comes lj.net[0]) := Lib.hid (by
      unfold stepL
      split
      · rename_i h0; exact absurd h0 hnj
      · rename_i p q h0
        rw [gone_zero h0]
        simp [h0])
    obtain ⟨q, hq⟩ : ∃ q, lj.net[0] = q := ⟨_, rfl⟩
    rw [hq] at HG HQe HQ2 HSt2
    obtain ⟨nn, hnn⟩ : ∃ nn, lj.net.length = nn := ⟨_, rfl⟩
    rw [hnn] at x10 hpos hlen
    have hpos2 : (0 : Int) < (nn : Int) := by omega
    obtain ⟨PV, hPV⟩ : ∃ PV, pkVal q = PV := ⟨_, rfl⟩
    have HCm : Hid (∀ (W7 : World) (m7 : LnM), LnAt B H W7 (lj.gone 0) m7 → B ≤ W7.heap.size → Calls Try.prog 28 #[.pointer (some ⟨H, 0, none⟩), PV] W7 (LnEnd B H ((lj.gone 0).comes q) W7)) := Lib.hid (fun W7 m7 h7 h8 => by rw [← hPV]; exact comes_pk h7 HGO.out h8 q HQ2.out HQe.out)
    rw [hPV] at HG
    clear hv hnj hq2 hq hnn hPV
    rw [show ((0 : Nat) : Int) = 0 from rfl] at HG
    go_wp2_with (first | (go_at_call 29; (with_reducible refine HG.out.mono ?_); rintro e W7 ⟨rfl, ⟨m7, hL7⟩, hB7⟩; have HSz : Hid (B ≤ W7.heap.size) := Lib.hid (Nat.le_trans HBj.out.2 hB7.size); have HB7 := Lib.hid hB7; have HC7 := Lib.hid (HCm.out W7 m7 hL7 HSz.out); clear hL7 hB7) | (go_at_call 28; (with_reducible refine HC7.out.mono ?_); rintro e W8 ⟨rfl, ⟨m8, hL8⟩, hB8⟩; have HL8 := Lib.hid hL8; have HB8 := Lib.hid hB8; clear hL8 hB8))
    have HL9 : Hid (LnAt B H W8 (iterL (j + 1) (beginL lr)) m8) := Lib.hid (by rw [HSt.out, HSt2.out]; exact HL8.out)
    have HB9 : Hid (Below w.heap.size w W8 ∧ B ≤ W8.heap.size) := Lib.hid ⟨HBj.out.1.trans ((HB7.out.trans HB8.out).mono HHw.out.1), Nat.le_trans HSz.out HB8.out.size⟩
    go_roundg (gk - 1)
    case measure => omega
    case rel => exact ⟨j + 1, m8, by omega, HL9, HB9⟩
  obtain rfl : j = lenL lr := by omega
  rw [HRn.out.1, ← HNx.out] at HLj
  have HN0 : Hid ((roundsL (r + 1) l0).net = []) := Lib.hid (by rw [HNx.out]; exact HRn.out.2)
  obtain ⟨A0, c0, hv⟩ := own_form15Q HLj.out.net
  have x10 := HLj.out.cell 10
  rw [show (lnCells (roundsL (r + 1) l0) mj)[10]? = some (mj.v 0) from rfl, hv, HN0.out, List.length_nil] at x10
  clear hv HRn HNe HIt HNx
  go_wp2_with fail
  go_roundw
  case rel => exact ⟨r + 1, mj, by omega, by go_num, HLj, HBj⟩
  case measure => simp [intOf]; omega
end Go.Proofs.Ytdhmkcomngbmaaa
