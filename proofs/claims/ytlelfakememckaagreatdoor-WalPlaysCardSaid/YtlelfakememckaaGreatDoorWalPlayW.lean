/- The walk of WalPlays. -/
import Derived.Test.YtlelfakememckaaGreatDoorWalRefK
import Derived.Deep.CutRange
import Derived.Deep.CutBlock
import Derived.BigQuiet
import Derived.Deep.RegionHeld3
namespace Go.Proofs.YtlelfakememckaaGreatDoor
open Go.RowKit

set_option maxHeartbeats 16000000 in
set_option maxRecDepth 100000 in
theorem WalPlays_walk {W : World} {A : Option Addr} {c : Nat} {l : List Act6} (x y : Int) (h : ActsAt W W.heap.size A l) (ho : ∀ x ∈ l, Act6Ok W x) (hg : ErrCell W) :
    Calls Tryz.prog 3 #[.int .i64 x, .int .i64 y, .slice A l.length c] W fun e w' => e = .returned (.bool true) ∧ Below W.heap.size W w' := by
  have HV := Lib.hid h
  have HGg := Lib.hid hg
  have HOk := Lib.hid ho
  obtain ⟨hs1, hs2⟩ := szS_lt x
  obtain ⟨hm1, hm2⟩ := szM_lt y
  have HSz : Hid (Calls Tryz.prog 4 #[.int .i64 x, .int .i64 y] W fun e w' => e = .returned (.tuple #[.int .i64 (szS x), .int .i64 (szM y)]) ∧ W = w') := Lib.hid (sizes_any x y W)
  generalize szS x = s at *
  generalize szM y = m at *
  obtain ⟨n, hn⟩ : ∃ n, 2 * s + m = n := ⟨_, rfl⟩
  have hn4 : n ≤ 4096 := by omega
  have hn1 : 1 ≤ n := by omega
  have hsf : 2 * s + 3 ≤ n := by omega
  have hnI : 2 * (s : Int) + (m : Int) = (n : Int) := by omega
  have HNew : Hid (Calls Tryz.prog 5 #[.int .i64 (2 * (s : Int) + (m : Int))] W (NewEnd n W)) := Lib.hid (by rw [hnI]; exact New_ok n W (by omega) hn4)
  have HNr := Lib.hid (fun w' => RefNew_ok n w' (by omega) hn4)
  rw [← hnI] at HNr
  have HLv : Hid (∀ a, Live (DSt.new n) s a ⟨a, s, 0, 1, 0, 0, false⟩) := Lib.hid (fun a => by rw [← hn]; exact live_new hs1 hm1 (by omega))
  have HN := Lib.hid hn
  have HNI := Lib.hid hnI
  obtain ⟨ln, hln⟩ : ∃ ln, l.length = ln := ⟨_, rfl⟩
  have HLn := Lib.hid hln
  have HFew : Hid (∀ w1 c, Below W.heap.size W w1 → Calls Tryz.prog 10 #[.slice A ln c, .int .i64 40] w1 (FewEnd l 40 w1)) := Lib.hid (fun w1 c hb => by
    rw [← hln]
    have hv := HV.out
    have : ActsAt w1 w1.heap.size A l := by
      rcases hv with e | ⟨b, off, hA, hlt, hc⟩
      · exact .inl e
      · refine .inr ⟨b, off, hA, Nat.lt_of_lt_of_le hlt hb.size, fun i hi => ?_⟩
        obtain ⟨h0, h1, h2, h3⟩ := hc i hi
        exact ⟨(hb.cell (p := ⟨b, off + i * 4, none⟩) hlt).trans h0, (hb.cell (p := ⟨b, off + i * 4 + 1, none⟩) hlt).trans h1, (hb.cell (p := ⟨b, off + i * 4 + 2, none⟩) hlt).trans h2, (hb.cell (p := ⟨b, off + i * 4 + 3, none⟩) hlt).trans h3⟩
    exact few_any this 40 (by omega))
  rw [hln]
  clear h hn hnI hln ho hg
  go_enter Tryz.func3, Tryz.ntmps3
  go_wp2_with fail
  with_reducible refine HSz.out.mono ?_
  rintro e w' ⟨rfl, rfl⟩
  go_wp2_with fail
  with_reducible refine HNew.out.mono ?_
  rintro e w1 ⟨a, F, rfl, hd, hF, hb1⟩
  have HD := Lib.hid hd
  have HFl := Lib.hid hF
  have HB1 := Lib.hid hb1
  clear hd hF hb1 HNew HSz
  go_wp2_with fail
  with_reducible refine (HNr.out _).mono ?_
  rintro e w2 ⟨fA0, fc0, rfl, hr2, hb2, hfr2⟩
  have HOp := Lib.hid (op_first (W := W) (fc := fc0) hn1 HD.out HFl.out HB1.out hr2 hb2 hfr2)
  clear hr2 hb2 hfr2 HD HFl HB1 HNr
  go_wp2_with fail
  generalize w2.alloc (.cells #[.slice fA0 n fc0, .slice none 0 0, .slice none 0 0, .int .i64 (-1), .bool false] 30) = w3 at *
  obtain ⟨X, hX⟩ : ∃ X, w2.heap.size = X := ⟨_, rfl⟩
  rw [hX] at HOp ⊢
  clear hX
  have hnl : (DSt.new n).seen.length = n := by simp [DSt.new]
  have HNl := Lib.hid hnl
  with_reducible refine (Open_ok HOp.out.disk s rfl hs1 (by rw [hnl]; exact hsf)).mono ?_
  rintro e w4 ⟨b, A4, c4, rfl, hl4, hnn4, hlog4, hb4, hbw4⟩
  have HO4 := Lib.hid (HOp.out.later hb4)
  have HL4 := Lib.hid hl4
  have HLog4 := Lib.hid hlog4
  have HBw := Lib.hid hbw4
  have HbF : Hid (¬ F b) := Lib.hid (fun hf => by have := HOp.out.disk.low b hf; omega)
  have HbX : Hid (b ≠ X) := Lib.hid (by have := heap_lt HOp.out.x; omega)
  have HbR : Hid (RefOff (fun q => q = b) fA0 none none) := Lib.hid (fun c off e hq => by have := HOp.out.ref.lt HOp.out.ok.firm_pos.1 c off e; omega)
  have HbW : Hid (W.heap.size ≤ b) := Lib.hid (by have := HOp.out.bel.size; omega)
  have HX32 := Lib.hid (seen_32 HOp.out.disk)
  have HFl4 : Hid ((DSt.new n).firm.length = (DSt.new n).seen.length) := Lib.hid HOp.out.ok.len
  have HRl : Hid ((openR a (DSt.new n) s).length ≤ 9223372036854775807) := Lib.hid (by have t := scan_len (DSt.new n).seen (DSt.new n).seen.length (slotV a (DSt.new n) s); unfold openR; omega)
  clear hl4 hnn4 hlog4 hb4 hbw4 hnl
  have HL0 := Lib.hid (HLv.out a)
  have HV0 : Hid (openV a (DSt.new n) s = ⟨a, s, 0, 1, 0, 0, false⟩) := Lib.hid HL0.out.opens
  rw [HV0.out] at HLog4
  have hsfN : 2 * s + 3 ≤ (DSt.new n).seen.length := by rw [HNl.out]; exact hsf
  have HFind4 := Lib.hid (play_find (fc := fc0) (wc := 0) HO4.out.ok HO4.out.tru HO4.out.ref rfl rfl HX32.out hs1 hsfN HV0.out)
  generalize (⟨a, s, 0, 1, 0, 0, false⟩ : WalV) = v0 at *
  generalize DSt.new n = d0 at *
  clear hsfN HLv HOp
  obtain ⟨x0, x1, x2, x3, x4, x5⟩ := HO4.out.x.cells
  generalize openR a d0 s = rs at *
  generalize openS d0 s = ss at *
  go_wp2_with fail
  with_reducible refine HFind4.out.mono ?_
  rintro e w5 ⟨Af, cf, rfl, hlf, hbf⟩
  have HPl := Lib.hid (PlaySt.first HO4.out HLog4.out (Live.disk HL0.out) HbF.out HbX.out HbR.out HbW.out v0.gen v0.next v0.num v0.used (str ss) (.slice Af rs.length cf) hbf)
  have HL4' := Lib.hid ((HL4.out.next hbf).next (below_one w5 (.cells #[.int .i64 v0.gen, .int .i64 v0.next, .int .i64 v0.num, .int .i64 v0.used, .string (str ss), .slice Af rs.length cf] 38)))
  have HLf := Lib.hid (hlf.next (below_one w5 (.cells #[.int .i64 v0.gen, .int .i64 v0.next, .int .i64 v0.num, .int .i64 v0.used, .string (str ss), .slice Af rs.length cf] 38)))
  have hfo := Found_yes (c1 := c4) (c2 := cf) (fc := fc0) HPl.out.log (str ss) HL4'.out HLf.out HRl.out (.slice none d0.loose.length 0) (.slice none d0.loose.length 0) (.int .i64 d0.leftR) (.bool d0.off) (fA := fA0)
  rw [← HFl4.out, Live.slotIs HL0.out] at hfo
  have HFo := Lib.hid hfo
  clear hlf hbf hfo x0 x1 x2 x3 x4 x5 HO4 HLog4 HL4 HbF HbX HbR HbW HFind4 HRl HL4' HLf
  obtain ⟨x0, x1, x2, x3, x4, x5⟩ := HPl.out.op.x.cells
  obtain ⟨g0, g1, g2, g3, g4, g5, g6⟩ := HPl.out.y.cells
  go_wp2_with fail
  with_reducible refine HFo.out.mono ?_
  rintro e w6 ⟨rfl, hb6⟩
  have HP0 : Hid (PlaysAt W w6 s n a X w5.heap.size false b) := Lib.hid ⟨F, v0, d0, fA0, fc0, none, 0, none, 0, _, _, _, _, _, _, HPl.out.later hb6, HL0.out, HNl.out, fun _ => ⟨rfl, rfl, rfl, rfl⟩⟩
  have HBW := Lib.hid (HPl.out.later hb6).op.bel
  clear hb6 HFo x0 x1 x2 x3 x4 x5 g0 g1 g2 g3 g4 g5 g6 HPl HL0 HV0 HNl HX32 HFl4
  generalize w5.heap.size = Y at *
  go_wp2_with fail
  with_reducible refine (HFew.out _ _ HBW.out).mono ?_
  rintro e w' ⟨nn, rfl, hnl, hn40, hfw, rfl⟩
  have HFw := Lib.hid hfw
  rw [show l.length = ln from HLn.out] at hnl
  clear hfw HFew HBW
  go_wp2_with fail
  go_loopg [11, 16, 18] nn (fun kx s11 s16 s18 wr => ∃ (k b : Nat) (dd : Bool), s11 = .pointer (some ⟨b, 0, none⟩) ∧ s16 = .bool dd ∧ s18 = .int .i64 k ∧ k ≤ nn ∧ nn - k ≤ kx ∧ Hid (PlaysAt W wr s n a X Y dd b))
  case atStart => exact ⟨0, b, false, rfl, rfl, rfl, Nat.zero_le _, by omega, HP0⟩
  case round =>
    clear HP0
    obtain ⟨k, b, dd, rfl, rfl, rfl, hk, hkx, HPs⟩ := hrel
    by_cases hlt : k < nn
    · have hltz : (k : Int) < (nn : Int) := by omega
      have hkl : k < l.length := by rw [HLn.out]; omega
      obtain ⟨F, v, d, fA, fc, aA, ac, wA, wc', G, P, K, U, ST, RV, hP, hPw, hsn, htell⟩ := HPs.out
      have HP := Lib.hid hP
      have HPw := Lib.hid hPw
      have HSn := Lib.hid hsn
      have HTell := Lib.hid htell
      clear hP hPw hsn htell HPs
      obtain ⟨bb, off, hA, hbl, x0, x1, x2, x3⟩ := HV.out.at_ HP.out.op.bel hkl
      have hX6 := (HFw.out k hkl hlt).1
      have hXok := HOk.out _ (List.getElem_mem hkl)
      subst hA
      generalize l[k] = XX at x0 x1 x2 x3 hX6 hXok
      obtain ⟨xk, xn, xs, xA, xc, xb⟩ := XX
      simp only at x0 x1 x2 x3 hX6
      obtain ⟨L, rfl⟩ : ∃ L, xs = str L := ⟨xs.data.toList, (str_of xs).symm⟩
      rw [str_size] at hX6
      have hL5 : L.length ≤ 100000 := by omega
      have HXk := Lib.hid hXok.keep
      have hxn1 : -9223372036854775808 ≤ xn := hXok.n1
      have hxn2 : xn ≤ 9223372036854775807 := hXok.n2
      have hxl : xb.length ≤ 9223372036854775807 := hXok.len
      have HKd : Hid (∀ w', Calls Tryz.prog 11 #[.agg #[.int .i64 xk, .int .i64 xn, .string (str L), .slice xA xb.length xc]] w' fun e w'' => e = .returned (.int .i64 (kind6 xk : Nat)) ∧ Below w'.heap.size w' w'') := Lib.hid (fun w' => kind6_any ⟨xk, xn, str L, xA, xc, xb⟩ w')
      have hk0 : (0 : Int) ≤ (k : Int) := Int.natCast_nonneg _
      have hkn : (k : Int) < (ln : Int) := by have := HLn.out; omega
      have hk7 := kind6_lt xk
      obtain ⟨S, hS⟩ : ∃ S, str L = S := ⟨_, rfl⟩
      have HS := Lib.hid hS
      rw [hS] at x2 HKd
      generalize kind6 xk = kq at *
      clear hS hXok
      go_wp2_with fail
      with_reducible refine (HKd.out _).mono ?_
      rintro e wB ⟨rfl, hbB⟩
      have HR := Lib.hid (HP.out.round hbB)
      generalize wr.heap.size = q at *
      clear hbB x0 x1 x2 x3 HP
      have HLo := Lib.hid HPw.out.loose

      by_cases hd6 : dd = true ∧ kq = 6
      · as_aux_lemma =>
          obtain ⟨hdt, hk6⟩ := hd6
          subst hdt hk6
          have hgn : Gone d s a v := HPw.out
          have hoff := hgn.off
          have hfit : fitsE d.seen.length s = true := by unfold fitsE; rw [decide_eq_true_iff]; have := HSn.out; omega
          obtain ⟨y0, y1, y2, y3⟩ := HR.out.cells
          obtain ⟨x0, x1, x2, x3, x4, x5⟩ := HR.out.st.op.x.cells
          obtain ⟨g0, g1, g2, g3, g4, g5, g6⟩ := HR.out.st.y.cells
          go_wp2_with fail
          with_reducible refine (HKd.out _).mono ?_
          rintro e w4 ⟨rfl, hb4⟩
          have HR4 := Lib.hid (HR.out.later hb4)
          clear y0 y1 y2 y3 x0 x1 x2 x3 x4 x5 g0 g1 g2 g3 g4 g5 g6
          clear hb4 HR
          go_wp2_with fail
          with_reducible refine (Open_off HR4.out.st.op.disk s hfit hoff).mono ?_
          rintro e w5 ⟨p, rfl, hfp, hb5⟩
          have HR5 := Lib.hid (HR4.out.later hb5)
          have HFp := Lib.hid hfp
          clear hfp hb5 HR4
          obtain ⟨x0, x1, x2, x3, x4, x5⟩ := HR5.out.st.op.x.cells
          rw [hoff] at x4
          clear hoff hgn
          go_wp2_with fail
          with_reducible refine (num_fault p openW 7 (HGg.out.below HR5.out.st.op.bel HGg.out.pos) HFp.out).mono ?_
          rintro e w6 ⟨rfl, hb6⟩
          have HR6 := Lib.hid (HR5.out.later hb6).st
          clear hb6 x0 x1 x2 x3 x4 x5
          go_wp2_with fail
          go_roundg (nn - (k + 1))
          case measure => omega
          case rel => exact ⟨k + 1, b, true, rfl, rfl, by go_num, by omega, Nat.le_refl _, Lib.hid ⟨F, v, d, fA, fc, aA, ac, wA, wc', G, P, K, U, ST, RV, HR6.out, HPw.out, HSn.out, fun h => by cases h⟩⟩
      · go_upto_block 2 with fail
        go_cut [11, 16, 20, 21, 22, 23, 24, 25] from 83 to 181 (fun v11 v16 v20 v21 v22 v23 v24 v25 wx => ∃ (b1 : Nat) (d1 d2 : Bool) (E : Int), v11 = .pointer (some ⟨b1, 0, none⟩) ∧ v16 = .bool d1 ∧ v20 = .int .i64 E ∧ v21 = .int .i64 E ∧ (d1 || decide (E = 7)) = d2 ∧ Hid (PlaysQ W wx s n a X Y d2 b1))
        case first =>
          by_cases hq3 : kq = 3
          · subst hq3
            cases dd with
            | false =>
              as_aux_lemma =>
                have hlv : Live d s a v := HPw.out
                obtain ⟨rfl, rfl, rfl, rfl⟩ := HTell.out rfl
                obtain ⟨q1, q2, q3⟩ := hlv.ck (l := L)
                have HOkv := hlv.ok
                rw [HSn.out] at q1
                have HQ : Hid (Power (decide (ckE v d L = 7)) (ckD v d L) s a (if ckE v d L = 7 then { ckV v d L with down := true } else ckV v d L)) := Lib.hid (by
                  by_cases h7 : ckE v d L = 7
                  · rw [if_pos h7, decide_eq_true h7]; exact q2 h7
                  · rw [if_neg h7, decide_eq_false h7]; exact q3 h7)
                have hdk : (ckV v d L).disk = a := by
                  by_cases h7 : ckE v d L = 7
                  · exact (q2 h7).disk
                  · exact Live.disk (q3 h7)
                have HQn : Hid ((ckD v d L).seen.length = n) := Lib.hid q1
                have HC := Lib.hid (play_ck HR.out (HGg.out) hL5 HLo.out hdk)
                have HDoc := Lib.hid (fun (w6 : World) (hr : RefAt w6 w6.heap.size d.firm d.loose fA aA ac wA wc') => DocCheckpoint_any (fc := fc) (yc := wc') HR.out.st.op.ok hr (by have := HLo.out; omega) v ST RV L hL5 HOkv.n1 HOkv.s1 HOkv.fit HOkv.next HOkv.g1 HOkv.g2 (by have := HOkv.k1; omega) HOkv.k2 hlv.down)
                rw [hlv.slotIs, HS.out] at HDoc
                rw [HS.out] at HC
                have HOkD : Hid ((ckD v d L).Ok ∧ (ckD v d L).Tru) := Lib.hid ⟨ok_ck HR.out.st.op.ok v L, tru_ck HR.out.st.op.tru v L⟩
                clear q1 q2 q3 hdk HOkv hlv
                generalize ckE v d L = E at *
                generalize ckD v d L = D at *
                generalize ckV v d L = V at *
                obtain ⟨y0, y1, y2, y3⟩ := HR.out.cells
                obtain ⟨x0, x1, x2, x3, x4, x5⟩ := HR.out.st.op.x.cells
                obtain ⟨g0, g1, g2, g3, g4, g5, g6⟩ := HR.out.st.y.cells
                go_wp2_with fail
                with_reducible refine HC.out.mono ?_
                rintro e w5 ⟨u, rfl, hnum, F5, hR5⟩
                have HR5 := Lib.hid hR5
                generalize (if E = 7 then { V with down := true } else V) = V2 at *
                clear y0 y1 y2 y3 x0 x1 x2 x3 x4 x5 g0 g1 g2 g3 g4 g5 g6
                clear hR5 HC HR
                go_wp2_with fail
                with_reducible refine hnum.mono ?_
                rintro e w6 ⟨rfl, hb6⟩
                have HR6 := Lib.hid (HR5.out.later hb6)
                clear hb6 hnum HR5
                obtain ⟨y0, y1, y2, y3⟩ := HR6.out.cells
                obtain ⟨x0, x1, x2, x3, x4, x5⟩ := HR6.out.st.op.x.cells
                obtain ⟨g0, g1, g2, g3, g4, g5, g6⟩ := HR6.out.st.y.cells
                go_wp2_with fail
                with_reducible refine (HDoc.out _ HR6.out.st.op.ref).mono ?_
                rintro e w7 ⟨fA', fc7, aA', ac7, wA', wc7, rfl, hr7, hb7, hfr7⟩
                have HR7 := Lib.hid (HR6.out.later hb7)
                have HL7 := Lib.hid (HR6.out.laid (fc' := fc7) HOkD.out.1 HOkD.out.2 hr7 hb7 hfr7).st
                clear y0 y1 y2 y3 x0 x1 x2 x3 x4 x5 g0 g1 g2 g3 g4 g5 g6
                clear hr7 hb7 hfr7 HR6 HDoc
                obtain ⟨y0, y1, y2, y3⟩ := HR7.out.cells
                obtain ⟨x0, x1, x2, x3, x4, x5⟩ := HR7.out.st.op.x.cells
                obtain ⟨g0, g1, g2, g3, g4, g5, g6⟩ := HR7.out.st.y.cells
                go_wp2_with fail
                go_meet
                case rel => exact ⟨b, false, decide (E = 7), E, rfl, rfl, rfl, rfl, by simp, Lib.hid ⟨F5, V2, D, fA', fc7, aA', ac7, wA', wc7, _, _, _, _, ST, RV, HL7.out, HQ.out, HQn.out⟩⟩
            | true =>
              as_aux_lemma =>
                have hgn : Gone d s a v := HPw.out
                obtain ⟨e7, ev, ed⟩ := ck_down (d := d) (l := L) hgn.down
                have hC := play_ck HR.out (HGg.out) hL5 HLo.out (by rw [ev]; exact hgn.disk)
                rw [e7, ev, ed, HS.out] at hC
                have hvd : ({ v with down := true } : WalV) = v := by
                  have := hgn.down
                  obtain ⟨v1, v2, v3, v4, v5, v6, v7⟩ := v
                  simp only at this
                  subst this
                  rfl
                rw [if_pos rfl, hvd] at hC
                have HC := Lib.hid hC
                clear hC hvd e7 ev ed hgn
                obtain ⟨y0, y1, y2, y3⟩ := HR.out.cells
                obtain ⟨x0, x1, x2, x3, x4, x5⟩ := HR.out.st.op.x.cells
                obtain ⟨g0, g1, g2, g3, g4, g5, g6⟩ := HR.out.st.y.cells
                go_wp2_with fail
                with_reducible refine HC.out.mono ?_
                rintro e w5 ⟨u, rfl, hnum, F5, hR5⟩
                have HR5 := Lib.hid hR5
                clear y0 y1 y2 y3 x0 x1 x2 x3 x4 x5 g0 g1 g2 g3 g4 g5 g6
                clear hR5 HC HR
                go_wp2_with fail
                with_reducible refine hnum.mono ?_
                rintro e w6 ⟨rfl, hb6⟩
                have HR6 := Lib.hid (HR5.out.later hb6).st
                clear hb6 hnum HR5
                go_wp2_with fail
                go_meet
                case rel => exact ⟨b, true, true, 7, rfl, rfl, rfl, rfl, by simp, Lib.hid ⟨F5, v, d, fA, fc, aA, ac, wA, wc', G, P, K, U, ST, RV, HR6.out, HPw.out, HSn.out⟩⟩
          · have hn3 : ¬ (kq : Int) = 3 := by omega
            by_cases hq4 : kq = 4
            · subst hq4
              as_aux_lemma =>
                have hpw2 := Lib.hid (HPw.out.arm xn)
                obtain ⟨y0, y1, y2, y3⟩ := HR.out.cells
                obtain ⟨x0, x1, x2, x3, x4, x5⟩ := HR.out.st.op.x.cells
                obtain ⟨g0, g1, g2, g3, g4, g5, g6⟩ := HR.out.st.y.cells
                go_wp2_with fail
                with_reducible refine (play_arm HR.out xn hxn1 hxn2).mono ?_
                rintro e w5 ⟨rfl, F5, hR5⟩
                have HR5 := Lib.hid hR5
                clear y0 y1 y2 y3 x0 x1 x2 x3 x4 x5 g0 g1 g2 g3 g4 g5 g6
                clear hR5
                obtain ⟨y0, y1, y2, y3⟩ := HR5.out.cells
                obtain ⟨x0, x1, x2, x3, x4, x5⟩ := HR5.out.st.op.x.cells
                obtain ⟨g0, g1, g2, g3, g4, g5, g6⟩ := HR5.out.st.y.cells
                go_wp2_with fail
                with_reducible refine (play_refarm HR5.out.st.op.ok xn _).mono ?_
                rintro e w6 ⟨rfl, hb6⟩
                have HR6 := Lib.hid (HR5.out.later hb6)
                have HL6 := Lib.hid (HR5.out.laid (e' := d.armD xn) (fA' := fA) (aA' := aA) (wA' := wA) (fc' := fc) (ac' := ac) (wc' := wc') (HR5.out.st.op.ok.armD hxn1 hxn2) (HR5.out.st.op.tru.armD xn) (HR5.out.st.op.ref.next hb6) hb6 (fun _ _ h => .inr h)).st
                have hsn2 : Hid ((d.armD xn).seen.length = n) := Lib.hid HSn.out
                clear y0 y1 y2 y3 x0 x1 x2 x3 x4 x5 g0 g1 g2 g3 g4 g5 g6
                clear hb6 HR5
                generalize d.armD xn = d2 at *
                obtain ⟨y0, y1, y2, y3⟩ := HR6.out.cells
                obtain ⟨x0, x1, x2, x3, x4, x5⟩ := HR6.out.st.op.x.cells
                obtain ⟨g0, g1, g2, g3, g4, g5, g6⟩ := HR6.out.st.y.cells
                go_wp2_with fail
                go_meet
                case rel => exact ⟨b, dd, dd, 0, rfl, rfl, rfl, rfl, by simp, Lib.hid ⟨F5, v, d2, fA, fc, aA, ac, wA, wc', G, P, K, U, ST, RV, HL6.out, hpw2.out, hsn2.out⟩⟩
            · have hn4' : ¬ (kq : Int) = 4 := by omega
              by_cases hq5 : kq = 5
              · subst hq5
                as_aux_lemma =>
                  obtain ⟨y0, y1, y2, y3⟩ := HR.out.cells
                  obtain ⟨x0, x1, x2, x3, x4, x5⟩ := HR.out.st.op.x.cells
                  obtain ⟨g0, g1, g2, g3, g4, g5, g6⟩ := HR.out.st.y.cells
                  go_wp2_with fail
                  with_reducible refine (HKd.out _).mono ?_
                  rintro e w4 ⟨rfl, hb4⟩
                  have HR4 := Lib.hid (HR.out.later hb4)
                  clear y0 y1 y2 y3 x0 x1 x2 x3 x4 x5 g0 g1 g2 g3 g4 g5 g6
                  clear hb4 HR
                  obtain ⟨y0, y1, y2, y3⟩ := HR4.out.cells
                  obtain ⟨x0, x1, x2, x3, x4, x5⟩ := HR4.out.st.op.x.cells
                  obtain ⟨g0, g1, g2, g3, g4, g5, g6⟩ := HR4.out.st.y.cells
                  go_wp2_with fail
                  with_reducible refine (play_crash HR4.out HXk.out hxl HLo.out).mono ?_
                  rintro e w5 ⟨rfl, F5, hR5⟩
                  have HR5 := Lib.hid hR5
                  clear y0 y1 y2 y3 x0 x1 x2 x3 x4 x5 g0 g1 g2 g3 g4 g5 g6
                  clear hR5 HR4
                  obtain ⟨y0, y1, y2, y3⟩ := HR5.out.cells
                  obtain ⟨x0, x1, x2, x3, x4, x5⟩ := HR5.out.st.op.x.cells
                  obtain ⟨g0, g1, g2, g3, g4, g5, g6⟩ := HR5.out.st.y.cells
                  go_wp2_with fail
                  with_reducible refine (play_refcrash HR5.out.st.op.ok HR5.out.st.op.ref HLo.out (keep_lies HXk.out HR5.out.st.op.bel) hxl).mono ?_
                  rintro e w6 ⟨fA6, fc6, rfl, hr6, hb6, hfr6⟩
                  have HR6 := Lib.hid (HR5.out.later hb6)
                  have HL6 := Lib.hid (HR5.out.laid (fc' := fc6) (e' := d.crashD xb) (HR5.out.st.op.ok.crashD xb) (DSt.Tru.crashD d xb) hr6 hb6 hfr6)
                  have HLv6 := Lib.hid (HPw.out.crash xb)
                  have HSn6 : Hid ((d.crashD xb).seen.length = n) := Lib.hid (by
                    have t : (d.crashF xb).length = d.seen.length := by rw [DSt.crashF_length, HR5.out.st.op.ok.len]
                    exact t.trans HSn.out)
                  clear y0 y1 y2 y3 x0 x1 x2 x3 x4 x5 g0 g1 g2 g3 g4 g5 g6
                  clear hr6 hb6 hfr6 HR5
                  generalize d.crashD xb = D at *
                  obtain ⟨y0, y1, y2, y3⟩ := HR6.out.cells
                  obtain ⟨x0, x1, x2, x3, x4, x5⟩ := HR6.out.st.op.x.cells
                  obtain ⟨g0, g1, g2, g3, g4, g5, g6⟩ := HR6.out.st.y.cells
                  go_wp2_with fail
                  clear y0 y1 y2 y3 x0 x1 x2 x3 x4 x5 g0 g1 g2 g3 g4 g5 g6
                  generalize ((((w6.setCell ⟨X, 0, none⟩ (.slice fA6 D.firm.length fc6)).setCell ⟨X, 1, none⟩ (.slice none D.loose.length 0)).setCell ⟨X, 2, none⟩ (.slice none D.loose.length 0)).setCell ⟨X, 3, none⟩ (.int .i64 D.leftR)).setCell ⟨X, 4, none⟩ (.bool D.off) = w8 at *
                  have hoff := Live.off HLv6.out
                  have hsfD : 2 * s + 3 ≤ (D).seen.length := by rw [HSn6.out]; exact hsf
                  have HFl9 : Hid ((D).firm.length = (D).seen.length) := Lib.hid HL6.out.st.op.ok.len
                  have HX32 := Lib.hid (seen_32 HL6.out.st.op.disk)
                  have HRl : Hid ((openR a (D) s).length ≤ 9223372036854775807) := Lib.hid (by have t := scan_len (D).seen (D).seen.length (slotV a (D) s); have e := HSn6.out; unfold openR; omega)
                  with_reducible refine (play_open HL6.out s hoff hs1 hsfD (Live.disk HLv6.out)).mono ?_
                  rintro e w9 ⟨b9, A9, c9, rfl, hl9, hR9⟩
                  have HL9 := Lib.hid hl9
                  have HR9 := Lib.hid hR9
                  have HLoD := Lib.hid (Live.loose HLv6.out)
                  have HOffD := Lib.hid hoff
                  have HF9 := Lib.hid (fun (z : LatW w9) => play_find (fc := fc6) (wc := 0) HR9.out.st.op.ok HR9.out.st.op.tru (HR9.out.st.op.ref.next z.bel) HLoD.out HOffD.out HX32.out hs1 hsfD (rfl : openV a (D) s = openV a (D) s))
                  have HFo9 := Lib.hid (fun (z : LatW w9) {Af : Option Addr} {cf : Nat} (hlf : Lies z.wd z.wd.heap.size Af ((openR a (D) s).map secV)) => Found_yes (c1 := c9) (c2 := cf) (fc := fc6) (HR9.out.st.later z.bel).log (str (openS (D) s)) (HL9.out.next z.bel) hlf HRl.out (.slice none (D).loose.length 0) (.slice none (D).loose.length 0) (.int .i64 (D).leftR) (.bool (D).off) (fA := fA6))
                  rw [← HFl9.out, Live.slotIs HLv6.out] at HFo9
                  rw [hoff] at HF9 HFo9
                  have HLv9 := HLv6
                  have HSn9 := HSn6
                  clear hl9 hR9 HFl9 HX32 HRl hsfD HL9
                  generalize openV a (D) s = v9 at *
                  generalize openR a (D) s = rs at *
                  generalize openS (D) s = ss at *
                  obtain ⟨x0, x1, x2, x3, x4, x5⟩ := HR9.out.st.op.x.cells
                  rw [HOffD.out] at x4
                  go_wp2_with fail
                  have u0 := fun z : LatW w9 => (HR9.out.later z.bel).st.op.x.cells.1
                  have u1 := fun z : LatW w9 => (HR9.out.later z.bel).st.op.x.cells.2.1
                  have u2 := fun z : LatW w9 => (HR9.out.later z.bel).st.op.x.cells.2.2.1
                  have u3 := fun z : LatW w9 => (HR9.out.later z.bel).st.op.x.cells.2.2.2.1
                  have u4 := fun z : LatW w9 => (HR9.out.later z.bel).st.op.x.cells.2.2.2.2.1
                  rw [HOffD.out] at u4
                  obtain ⟨zd, hzd⟩ := LatW.drawn (⟨w9, Below.refl _ _⟩ : LatW w9)
                  clear x0 x1 x2 x3 x4 x5
                  go_region_held3 (fun w' => w'.cell? ⟨X, 0, none⟩ = some (.slice fA6 D.firm.length fc6) ∧ w'.cell? ⟨X, 1, none⟩ = some (.slice none D.loose.length 0) ∧ w'.cell? ⟨X, 2, none⟩ = some (.slice none D.loose.length 0) ∧ w'.cell? ⟨X, 3, none⟩ = some (.int .i64 D.leftR) ∧ w'.cell? ⟨X, 4, none⟩ = some (.bool false)) (first | with_reducible exact ⟨u0 z5, u1 z5, u2 z5, u3 z5, u4 z5⟩ | with_reducible exact ⟨u0 z6, u1 z6, u2 z6, u3 z6, u4 z6⟩ | with_reducible exact ⟨u0 zd, u1 zd, u2 zd, u3 zd, u4 zd⟩ | (rw [hzd]; with_reducible exact ⟨u0 zd, u1 zd, u2 zd, u3 zd, u4 zd⟩)) (first
                    | (go_at_call 8; (try rw [hzd]); refine (HF9.out zd).mono ?_; rintro e w5 ⟨Af, cf, rfl, hlf, hbf⟩; obtain ⟨z5, hz5⟩ := LatW.later zd hbf; subst hz5; replace hlf := Lib.hid hlf; clear hbf)
                    | (go_at_call 9; refine (HFo9.out z5 hlf.out).mono ?_; rintro e w6 ⟨rfl, hb6⟩; obtain ⟨z6, hz6⟩ := LatW.later z5 hb6; subst hz6; clear hb6))
                  all_goals
                    go_wp2_with fail
                    go_meet
                    case rel => exact ⟨b9, false, false, 0, rfl, rfl, rfl, rfl, by simp, Lib.hid ⟨F5, v9, D, fA6, fc6, none, 0, none, 0, G, P, K, U, ST, RV, (HR9.out.later z6.bel).st, HLv9.out, HSn9.out⟩⟩
              · have hn5 : ¬ (kq : Int) = 5 := by omega
                by_cases hq6 : kq = 6
                · subst hq6
                  obtain rfl : dd = false := by
                    cases dd with
                    | false => rfl
                    | true => exact absurd ⟨rfl, rfl⟩ hd6
                  as_aux_lemma =>
                    have hlv : Live d s a v := HPw.out
                    have HLv6 : Hid (Live d s a (openV a d s)) := Lib.hid (by rw [hlv.opens]; exact hlv)
                    clear hlv
                    obtain ⟨y0, y1, y2, y3⟩ := HR.out.cells
                    obtain ⟨x0, x1, x2, x3, x4, x5⟩ := HR.out.st.op.x.cells
                    obtain ⟨g0, g1, g2, g3, g4, g5, g6⟩ := HR.out.st.y.cells
                    go_wp2_with fail
                    with_reducible refine (HKd.out _).mono ?_
                    rintro e w4 ⟨rfl, hb4⟩
                    have HR4 := Lib.hid (HR.out.later hb4)
                    clear y0 y1 y2 y3 x0 x1 x2 x3 x4 x5 g0 g1 g2 g3 g4 g5 g6
                    clear hb4 HR
                    obtain ⟨y0, y1, y2, y3⟩ := HR4.out.cells
                    obtain ⟨x0, x1, x2, x3, x4, x5⟩ := HR4.out.st.op.x.cells
                    obtain ⟨g0, g1, g2, g3, g4, g5, g6⟩ := HR4.out.st.y.cells
                    go_wp2_with fail
                    clear y0 y1 y2 y3 x0 x1 x2 x3 x4 x5 g0 g1 g2 g3 g4 g5 g6
                    have hoff := Live.off HLv6.out
                    have hsfD : 2 * s + 3 ≤ (d).seen.length := by rw [HSn.out]; exact hsf
                    have HFl9 : Hid ((d).firm.length = (d).seen.length) := Lib.hid HR4.out.st.op.ok.len
                    have HX32 := Lib.hid (seen_32 HR4.out.st.op.disk)
                    have HRl : Hid ((openR a (d) s).length ≤ 9223372036854775807) := Lib.hid (by have t := scan_len (d).seen (d).seen.length (slotV a (d) s); have e := HSn.out; unfold openR; omega)
                    with_reducible refine (play_open HR4.out s hoff hs1 hsfD (Live.disk HLv6.out)).mono ?_
                    rintro e w9 ⟨b9, A9, c9, rfl, hl9, hR9⟩
                    have HL9 := Lib.hid hl9
                    have HR9 := Lib.hid hR9
                    have HLoD := Lib.hid (Live.loose HLv6.out)
                    have HOffD := Lib.hid hoff
                    have HF9 := Lib.hid (fun (z : LatW w9) => play_find (fc := fc) (wc := wc') HR9.out.st.op.ok HR9.out.st.op.tru (HR9.out.st.op.ref.next z.bel) HLoD.out HOffD.out HX32.out hs1 hsfD (rfl : openV a (d) s = openV a (d) s))
                    have HFo9 := Lib.hid (fun (z : LatW w9) {Af : Option Addr} {cf : Nat} (hlf : Lies z.wd z.wd.heap.size Af ((openR a (d) s).map secV)) => Found_yes (c1 := c9) (c2 := cf) (fc := fc) (HR9.out.st.later z.bel).log (str (openS (d) s)) (HL9.out.next z.bel) hlf HRl.out (.slice aA (d).loose.length ac) (.slice wA (d).loose.length wc') (.int .i64 (d).leftR) (.bool (d).off) (fA := fA))
                    rw [← HFl9.out, Live.slotIs HLv6.out] at HFo9
                    rw [hoff] at HF9 HFo9
                    have HLv9 := HLv6
                    have HSn9 := HSn
                    clear hl9 hR9 HFl9 HX32 HRl hsfD HL9
                    generalize openV a (d) s = v9 at *
                    generalize openR a (d) s = rs at *
                    generalize openS (d) s = ss at *
                    obtain ⟨x0, x1, x2, x3, x4, x5⟩ := HR9.out.st.op.x.cells
                    rw [HOffD.out] at x4
                    go_wp2_with fail
                    have u0 := fun z : LatW w9 => (HR9.out.later z.bel).st.op.x.cells.1
                    have u1 := fun z : LatW w9 => (HR9.out.later z.bel).st.op.x.cells.2.1
                    have u2 := fun z : LatW w9 => (HR9.out.later z.bel).st.op.x.cells.2.2.1
                    have u3 := fun z : LatW w9 => (HR9.out.later z.bel).st.op.x.cells.2.2.2.1
                    have u4 := fun z : LatW w9 => (HR9.out.later z.bel).st.op.x.cells.2.2.2.2.1
                    rw [HOffD.out] at u4
                    obtain ⟨zd, hzd⟩ := LatW.drawn (⟨w9, Below.refl _ _⟩ : LatW w9)
                    clear x0 x1 x2 x3 x4 x5
                    go_region_held3 (fun w' => w'.cell? ⟨X, 0, none⟩ = some (.slice fA d.firm.length fc) ∧ w'.cell? ⟨X, 1, none⟩ = some (.slice aA d.loose.length ac) ∧ w'.cell? ⟨X, 2, none⟩ = some (.slice wA d.loose.length wc') ∧ w'.cell? ⟨X, 3, none⟩ = some (.int .i64 d.leftR) ∧ w'.cell? ⟨X, 4, none⟩ = some (.bool false)) (first | with_reducible exact ⟨u0 z5, u1 z5, u2 z5, u3 z5, u4 z5⟩ | with_reducible exact ⟨u0 z6, u1 z6, u2 z6, u3 z6, u4 z6⟩ | with_reducible exact ⟨u0 zd, u1 zd, u2 zd, u3 zd, u4 zd⟩ | (rw [hzd]; with_reducible exact ⟨u0 zd, u1 zd, u2 zd, u3 zd, u4 zd⟩)) (first
                      | (go_at_call 8; (try rw [hzd]); refine (HF9.out zd).mono ?_; rintro e w5 ⟨Af, cf, rfl, hlf, hbf⟩; obtain ⟨z5, hz5⟩ := LatW.later zd hbf; subst hz5; replace hlf := Lib.hid hlf; clear hbf)
                      | (go_at_call 9; refine (HFo9.out z5 hlf.out).mono ?_; rintro e w6 ⟨rfl, hb6⟩; obtain ⟨z6, hz6⟩ := LatW.later z5 hb6; subst hz6; clear hb6))
                    all_goals
                      go_wp2_with fail
                      go_meet
                      case rel => exact ⟨b9, false, false, 0, rfl, rfl, rfl, rfl, by simp, Lib.hid ⟨F, v9, d, fA, fc, aA, ac, wA, wc', G, P, K, U, ST, RV, (HR9.out.later z6.bel).st, HLv9.out, HSn9.out⟩⟩
                · have hn6 : ¬ (kq : Int) = 6 := by omega
                  cases dd with
                  | false =>
                    as_aux_lemma =>
                      have hlv : Live d s a v := HPw.out
                      obtain ⟨rfl, rfl, rfl, rfl⟩ := HTell.out rfl
                      obtain ⟨q1, q2, q3⟩ := hlv.add hL5
                      have HOkv := hlv.ok
                      rw [HSn.out] at q1
                      have HQ : Hid (Power (decide (addE v d L = 7)) (addD v d L) s a (if addE v d L = 7 then { addV v d L with down := true } else addV v d L)) := Lib.hid (by
                        by_cases h7 : addE v d L = 7
                        · rw [if_pos h7, decide_eq_true h7]; exact q2 h7
                        · rw [if_neg h7, decide_eq_false h7]; exact q3 h7)
                      have hdk : (addV v d L).disk = a := by
                        by_cases h7 : addE v d L = 7
                        · exact (q2 h7).disk
                        · exact Live.disk (q3 h7)
                      have HQn : Hid ((addD v d L).seen.length = n) := Lib.hid q1
                      have HC := Lib.hid (play_add HR.out (HGg.out) hL5 HLo.out hdk)
                      have HDoc := Lib.hid (fun (w6 : World) (hr : RefAt w6 w6.heap.size d.firm d.loose fA aA ac wA wc') => DocAppend_any (fc := fc) (yc := wc') HR.out.st.op.ok hr (by have := HLo.out; omega) v v.gen ST RV L hL5 HOkv.n1 HOkv.s1 HOkv.fit HOkv.next (by have := HOkv.used; have := HOkv.n1; omega) (by have := HOkv.k1; omega) HOkv.k2 hlv.down)
                      rw [hlv.slotIs, HS.out] at HDoc
                      rw [HS.out] at HC
                      have HOkD : Hid ((addD v d L).Ok ∧ (addD v d L).Tru) := Lib.hid ⟨ok_add HR.out.st.op.ok v L, tru_add HR.out.st.op.tru v L⟩
                      clear q1 q2 q3 hdk HOkv hlv
                      generalize addE v d L = E at *
                      generalize addD v d L = D at *
                      generalize addV v d L = V at *
                      obtain ⟨y0, y1, y2, y3⟩ := HR.out.cells
                      obtain ⟨x0, x1, x2, x3, x4, x5⟩ := HR.out.st.op.x.cells
                      obtain ⟨g0, g1, g2, g3, g4, g5, g6⟩ := HR.out.st.y.cells
                      go_wp2_with fail
                      with_reducible refine HC.out.mono ?_
                      rintro e w5 ⟨u, rfl, hnum, F5, hR5⟩
                      have HR5 := Lib.hid hR5
                      generalize (if E = 7 then { V with down := true } else V) = V2 at *
                      clear y0 y1 y2 y3 x0 x1 x2 x3 x4 x5 g0 g1 g2 g3 g4 g5 g6
                      clear hR5 HC HR
                      go_wp2_with fail
                      with_reducible refine hnum.mono ?_
                      rintro e w6 ⟨rfl, hb6⟩
                      have HR6 := Lib.hid (HR5.out.later hb6)
                      clear hb6 hnum HR5
                      obtain ⟨y0, y1, y2, y3⟩ := HR6.out.cells
                      obtain ⟨x0, x1, x2, x3, x4, x5⟩ := HR6.out.st.op.x.cells
                      obtain ⟨g0, g1, g2, g3, g4, g5, g6⟩ := HR6.out.st.y.cells
                      go_wp2_with fail
                      with_reducible refine (HDoc.out _ HR6.out.st.op.ref).mono ?_
                      rintro e w7 ⟨fA', fc7, aA', ac7, wA', wc7, rfl, hr7, hb7, hfr7⟩
                      have HR7 := Lib.hid (HR6.out.later hb7)
                      have HL7 := Lib.hid (HR6.out.laid (fc' := fc7) HOkD.out.1 HOkD.out.2 hr7 hb7 hfr7).st
                      clear y0 y1 y2 y3 x0 x1 x2 x3 x4 x5 g0 g1 g2 g3 g4 g5 g6
                      clear hr7 hb7 hfr7 HR6 HDoc
                      obtain ⟨y0, y1, y2, y3⟩ := HR7.out.cells
                      obtain ⟨x0, x1, x2, x3, x4, x5⟩ := HR7.out.st.op.x.cells
                      obtain ⟨g0, g1, g2, g3, g4, g5, g6⟩ := HR7.out.st.y.cells
                      go_wp2_with fail
                      go_meet
                      case rel => exact ⟨b, false, decide (E = 7), E, rfl, rfl, rfl, rfl, by simp, Lib.hid ⟨F5, V2, D, fA', fc7, aA', ac7, wA', wc7, _, _, _, _, ST, RV, HL7.out, HQ.out, HQn.out⟩⟩
                  | true =>
                    as_aux_lemma =>
                      have hgn : Gone d s a v := HPw.out
                      obtain ⟨e7, ev, ed⟩ := add_down (d := d) (l := L) hgn.down
                      have hC := play_add HR.out (HGg.out) hL5 HLo.out (by rw [ev]; exact hgn.disk)
                      rw [e7, ev, ed, HS.out] at hC
                      have hvd : ({ v with down := true } : WalV) = v := by
                        have := hgn.down
                        obtain ⟨v1, v2, v3, v4, v5, v6, v7⟩ := v
                        simp only at this
                        subst this
                        rfl
                      rw [if_pos rfl, hvd] at hC
                      have HC := Lib.hid hC
                      clear hC hvd e7 ev ed hgn
                      obtain ⟨y0, y1, y2, y3⟩ := HR.out.cells
                      obtain ⟨x0, x1, x2, x3, x4, x5⟩ := HR.out.st.op.x.cells
                      obtain ⟨g0, g1, g2, g3, g4, g5, g6⟩ := HR.out.st.y.cells
                      go_wp2_with fail
                      with_reducible refine HC.out.mono ?_
                      rintro e w5 ⟨u, rfl, hnum, F5, hR5⟩
                      have HR5 := Lib.hid hR5
                      clear y0 y1 y2 y3 x0 x1 x2 x3 x4 x5 g0 g1 g2 g3 g4 g5 g6
                      clear hR5 HC HR
                      go_wp2_with fail
                      with_reducible refine hnum.mono ?_
                      rintro e w6 ⟨rfl, hb6⟩
                      have HR6 := Lib.hid (HR5.out.later hb6).st
                      clear hb6 hnum HR5
                      go_wp2_with fail
                      go_meet
                      case rel => exact ⟨b, true, true, 7, rfl, rfl, rfl, rfl, by simp, Lib.hid ⟨F5, v, d, fA, fc, aA, ac, wA, wc', G, P, K, U, ST, RV, HR6.out, HPw.out, HSn.out⟩⟩
        case rest =>
          clear HR HPw HSn HTell HLo HKd HS HXk hd6
          obtain ⟨b1, d1, d2, E, rfl, rfl, rfl, rfl, hdE, HQ⟩ := hcut
          obtain ⟨wa, hwa⟩ : ∃ wa, wa = wc := ⟨_, rfl⟩
          subst hwa
          clear fA fc aA ac wA wc' G P K U ST RV
          obtain ⟨F1, v1, d, fA, fc, aA, ac, wA, wc', G, P, K, U, ST, RV, hP, hPw, hsn⟩ := HQ.out
          have HP := Lib.hid hP
          have HPw := Lib.hid hPw
          have HSn := Lib.hid hsn
          clear hP hPw hsn HQ
          cases d1 with
          | true =>
            obtain rfl : d2 = true := by rw [← hdE]; rfl
            clear hdE
            as_aux_lemma =>
              go_wp2_with fail
              obtain ⟨wq, hwq⟩ : ∃ wq, wq = wa := ⟨_, rfl⟩
              refine wp_region_later (by kernel_rfl) (by kernel_rfl) ?_
              repeat (first | go_big_quiet_skip | quiet_step (fail))
              refine wpQuiet_nil ?_
              intro w9 hw9
              obtain ⟨p9, hw9'⟩ := hw9
              subst hw9'
              go_wp2_with fail
              go_roundg (nn - (k + 1))
              case measure => omega
              case rel => exact ⟨k + 1, b1, true, rfl, rfl, by go_num, by omega, Nat.le_refl _, Lib.hid ⟨F1, v1, d, fA, fc, aA, ac, wA, wc', G, P, K, U, ST, RV, HP.out.later p9.bel, HPw.out, HSn.out, fun h => by cases h⟩⟩
          | false =>
            by_cases h7 : E = 7
            · obtain rfl : d2 = true := by rw [← hdE, h7]; rfl
              subst h7
              clear hdE
              as_aux_lemma =>
                go_wp2_with fail
                obtain ⟨wq, hwq⟩ : ∃ wq, wq = wa := ⟨_, rfl⟩
                refine wp_region_later (by kernel_rfl) (by kernel_rfl) ?_
                repeat (first | go_big_quiet_skip | quiet_step (fail))
                refine wpQuiet_nil ?_
                intro w9 hw9
                obtain ⟨p9, hw9'⟩ := hw9
                subst hw9'
                go_wp2_with fail
                go_roundg (nn - (k + 1))
                case measure => omega
                case rel => exact ⟨k + 1, b1, true, rfl, rfl, by go_num, by omega, Nat.le_refl _, Lib.hid ⟨F1, v1, d, fA, fc, aA, ac, wA, wc', G, P, K, U, ST, RV, HP.out.later p9.bel, HPw.out, HSn.out, fun h => by cases h⟩⟩
            · obtain rfl : d2 = false := by rw [← hdE]; simp [h7]
              clear hdE
              as_aux_lemma =>
                have hE7 : ((E : Int) == 7) = false := beq_eq_false_iff_ne.2 h7
                have hlv : Live d s a v1 := HPw.out
                have hsfD : 2 * s + 3 ≤ d.seen.length := by rw [HSn.out]; exact hsf
                have HX32 := Lib.hid (seen_32 HP.out.op.disk)
                have hfind := play_find (fc := fc) (wc := wc') HP.out.op.ok HP.out.op.tru HP.out.op.ref hlv.loose hlv.off HX32.out hs1 hsfD hlv.opens
                have HFind := Lib.hid hfind
                have HFl : Hid (d.firm.length = d.seen.length) := Lib.hid HP.out.op.ok.len
                have HSl := Lib.hid hlv.slotIs
                clear hfind hsfD HX32 hlv
                generalize openR a d s = rs at *
                generalize openS d s = ss at *
                obtain ⟨x0, x1, x2, x3, x4, x5⟩ := HP.out.op.x.cells
                obtain ⟨g0, g1, g2, g3, g4, g5, g6⟩ := HP.out.y.cells
                go_wp2_with fail
                with_reducible refine HFind.out.mono ?_
                rintro e w5 ⟨Af, cf, rfl, _, hbf⟩
                have HP5 := Lib.hid (HP.out.later hbf)
                have HT := Lib.hid ((HP.out.later hbf).told v1.gen v1.next v1.num v1.used (str ss) (.slice Af rs.length cf))
                clear hbf HFind x0 x1 x2 x3 x4 x5 g0 g1 g2 g3 g4 g5 g6 HP
                obtain ⟨x0, x1, x2, x3, x4, x5⟩ := HP5.out.op.x.cells
                obtain ⟨g0, g1, g2, g3, g4, g5, g6⟩ := HP5.out.y.cells
                go_wp2_with fail
                clear x0 x1 x2 x3 x4 x5 g0 g1 g2 g3 g4 g5 g6 HP5
                generalize (((((w5.setCell ⟨Y, 0, none⟩ (.int .i64 v1.gen)).setCell ⟨Y, 1, none⟩ (.int .i64 v1.next)).setCell ⟨Y, 2, none⟩ (.int .i64 v1.num)).setCell ⟨Y, 3, none⟩ (.int .i64 v1.used)).setCell ⟨Y, 4, none⟩ (.string (str ss))).setCell ⟨Y, 5, none⟩ (.slice Af rs.length cf) = V at *
                have HLog := Lib.hid (fun (z : LatW V) => (HT.out.later z.bel).log)
                have HNum := Lib.hid (fun (z : LatW V) => Number_anyW (HLog.out z).wal)
                have HGen := Lib.hid (fun (z : LatW V) => Generation_any (HLog.out z).wal)
                have HOkv := Lib.hid HT.out.vok
                have HRoom : Hid (∀ z : LatW V, Calls Tryz.prog 23 #[.pointer (some ⟨b1, 0, none⟩)] z.wd fun e w' => e = .returned (.int .i64 (roomE d.seen.length v1.slot v1.used)) ∧ Below z.wd.heap.size z.wd w') := Lib.hid (fun z => (Room_any (HLog.out z)).mono (fun _ _ ⟨he, m, hm⟩ => ⟨he, by rw [hm]; exact below_drawsW z.wd m⟩))
                have HDR := Lib.hid (fun (z : LatW V) => DocRoom_any d.seen.length v1.slot v1.used fA fc (.slice aA d.loose.length ac) (.slice wA d.loose.length wc') (.int .i64 d.leftR) (.bool d.off) (.int .i64 v1.gen) (.int .i64 v1.next) (.int .i64 v1.num) (.string (str ss)) (.slice Af rs.length cf) HOkv.out.n1 (by have := HOkv.out.fit; have := HOkv.out.n1; omega) (by have := HOkv.out.used; have := HOkv.out.n1; omega) z.wd)
                obtain ⟨rr, hrr⟩ : ∃ rr, roomE d.seen.length v1.slot v1.used = rr := ⟨_, rfl⟩
                rw [hrr] at HRoom HDR
                rw [← HFl.out, HSl.out] at HDR
                clear hrr
                have u0 := fun z : LatW V => (HT.out.later z.bel).op.x.cells.1
                have u1 := fun z : LatW V => (HT.out.later z.bel).op.x.cells.2.1
                have u2 := fun z : LatW V => (HT.out.later z.bel).op.x.cells.2.2.1
                have u3 := fun z : LatW V => (HT.out.later z.bel).op.x.cells.2.2.2.1
                have u4 := fun z : LatW V => (HT.out.later z.bel).op.x.cells.2.2.2.2.1
                have e0 := fun z : LatW V => (HT.out.later z.bel).y.cells.1
                have e1 := fun z : LatW V => (HT.out.later z.bel).y.cells.2.1
                have e2 := fun z : LatW V => (HT.out.later z.bel).y.cells.2.2.1
                have e3 := fun z : LatW V => (HT.out.later z.bel).y.cells.2.2.2.1
                have e4 := fun z : LatW V => (HT.out.later z.bel).y.cells.2.2.2.2.1
                have e5 := fun z : LatW V => (HT.out.later z.bel).y.cells.2.2.2.2.2.1
                refine wp_region_later (by kernel_rfl) (by kernel_rfl) ?_
                repeat (first | go_big_quiet_skip | quiet_step (first | (go_at_call 21; exact Calls.later_same (HNum.out _)) | (go_at_call 22; exact Calls.later_same (HGen.out _)) | (go_at_call 23; exact Calls.later_of (HRoom.out _)) | (go_at_call 24; exact Calls.later_of (HDR.out _))))
                refine wpQuiet_nil ?_
                intro w9 hw9
                obtain ⟨p9, hw9'⟩ := hw9
                subst hw9'
                clear u0 u1 u2 u3 u4 e0 e1 e2 e3 e4 e5
                go_wp2_with fail
                go_roundg (nn - (k + 1))
                case measure => omega
                case rel => exact ⟨k + 1, b1, false, rfl, rfl, by go_num, by omega, Nat.le_refl _, Lib.hid ⟨F1, v1, d, fA, fc, aA, ac, wA, wc', _, _, _, _, _, _, HT.out.later p9.bel, HPw.out, HSn.out, fun _ => ⟨rfl, rfl, rfl, rfl⟩⟩⟩
    · as_aux_lemma =>
        obtain rfl : k = nn := by omega
        obtain ⟨F, v, d, fA, fc, aA, ac, wA, wc', G, P, K, U, ST, RV, hP, hPw, hsn, _⟩ := HPs.out
        have HP := Lib.hid hP
        have HLo := Lib.hid hPw.loose
        have HSn : Hid ((d.crashD []).seen.length = n) := Lib.hid (by
          have t : (d.crashF []).length = d.seen.length := by rw [DSt.crashF_length, hP.op.ok.len]
          exact t.trans hsn)
        clear hP hPw hsn HPs
        have HSe : Hid ((d.crashD []).seen.length = d.seen.length) := Lib.hid (by
          show (d.crashF []).length = _
          rw [DSt.crashF_length, HP.out.op.ok.len])
        have hKn : KeepIs wr F none [] := Or.inl rfl
        have HCr := Lib.hid (Crash_any (cap' := 0) HP.out.op.disk (by have := HLo.out; omega) hKn (len := 0) rfl (by omega))
        clear hKn
        go_wp2_with fail
        with_reducible refine HCr.out.mono ?_
        intro e w5 hd5
        obtain ⟨rfl, F5, hp5⟩ := HP.out.did hd5 (HSe.out)
        have HP5 := Lib.hid hp5
        clear hd5 hp5 HP
        obtain ⟨x0, x1, x2, x3, x4, x5⟩ := HP5.out.op.x.cells
        have hLn : Lies w5 w5.heap.size none (([] : List Bool).map boolV) := Or.inl rfl
        have hrc := play_refcrash (fc := fc) (bs := []) (xA := none) (xc := 0) HP5.out.op.ok HP5.out.op.ref HLo.out hLn (by simp)
        rw [List.length_nil] at hrc
        have HRc := Lib.hid hrc
        clear hLn hrc
        go_wp2_with fail
        with_reducible refine HRc.out.mono ?_
        rintro e w6 ⟨fA6, fc6, rfl, hr6, hb6, hfr6⟩
        have HO6 := Lib.hid (HP5.out.laid (fc' := fc6) (e' := d.crashD []) (HP5.out.op.ok.crashD []) (DSt.Tru.crashD d []) hr6 hb6 hfr6).op
        have HX6 := Lib.hid (HP5.out.op.x.below hb6 (heap_lt HP5.out.op.x))
        clear HSe hr6 hb6 hfr6 x0 x1 x2 x3 x4 x5 HP5
        have HLD : Hid ((d.crashD []).loose.length = 0) := Lib.hid rfl
        generalize d.crashD [] = D at *
        obtain ⟨x0, x1, x2, x3, x4, x5⟩ := HX6.out.cells
        have hnI := HNI.out
        go_wp2_with fail
        clear x0 x1 x2 x3 x4 x5
        generalize ((((w6.setCell ⟨X, 0, none⟩ (.slice fA6 D.firm.length fc6)).setCell ⟨X, 1, none⟩ (.slice none D.loose.length 0)).setCell ⟨X, 2, none⟩ (.slice none D.loose.length 0)).setCell ⟨X, 3, none⟩ (.int .i64 D.leftR)).setCell ⟨X, 4, none⟩ (.bool D.off) = w8 at *
        go_loopg [26] n (fun kx s26 wr => ∃ i : Nat, s26 = .int .i64 i ∧ i ≤ n ∧ n - i ≤ kx ∧ Hid (OpSt W wr F5 a X D D fA6 fc6 none 0 none 0))
        case atStart => exact ⟨0, rfl, Nat.zero_le _, by omega, HO6⟩
        case round =>
          clear HO6 HX6
          obtain ⟨i, rfl, hi, hix, HO⟩ := hrel
          by_cases hin : i < n
          · have hin' : (i : Int) < (n : Int) := by omega
            have HRd := Lib.hid (Read_any HO.out.disk (i : Int))
            have HRr := Lib.hid (fun L => RefRead_any (fc := fc6) (ac := 0) (wc := 0) HO.out.ok HO.out.tru HO.out.ref (by rw [HLD.out]; omega) (i : Int) L)
            generalize str (D.readB (i : Int)) = T at *
            generalize D.readE (i : Int) = E at *
            go_wp2_with fail
            with_reducible refine HRd.out.mono ?_
            rintro e w' ⟨rfl, rfl⟩
            obtain ⟨x0, x1, x2, x3, x4, x5⟩ := HO.out.x.cells
            go_wp2_with fail
            with_reducible refine (HRr.out _).mono ?_
            rintro e w9 ⟨rfl, hb9⟩
            have HO9 := Lib.hid (HO.out.later hb9)
            clear hb9 HRd HRr x0 x1 x2 x3 x4 x5
            go_wp2_with fail
            go_roundg (n - (i + 1))
            case measure => omega
            case rel => exact ⟨i + 1, by go_num, by omega, Nat.le_refl _, HO9⟩
          · have hin' : (n : Int) ≤ (i : Int) := by omega
            go_wp2_with fail
            with_reducible refine (awake6_any _).mono ?_
            rintro e w9 ⟨rfl, hb9⟩
            have HB9 := Lib.hid (HO.out.later hb9).bel
            clear hb9
            go_wp2_with fail
            go_ret
            exact ⟨rfl, HB9.out⟩
end Go.Proofs.YtlelfakememckaaGreatDoor
