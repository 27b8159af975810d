/- The walk of TopShielded. -/
import Derived.Test.YthajgoigmkkbgaaTopD
import Derived.Test.YthajgoigmkkbgaaFoldO
import Derived.Deep.CutRange
import Derived.Deep.CutBlock
namespace Go.Proofs.Ythajgoigmkkbgaa
open Go.Shelf Go.RowKit Go.Lib Go.Sort

theorem WrsAt.part {w : World} {B b off : Nat} {ws : List Wr} (h : WrsAt w B (some ⟨b, off, none⟩) ws) (i n : Nat) : WrsAt w B (some ⟨b, off + i * 3, none⟩) ((ws.drop i).take n) := by
  rcases h with rfl | ⟨b', off', e, hlt, hc⟩
  · exact .inl (by simp)
  · simp only [Option.some.injEq, Addr.mk.injEq] at e
    obtain ⟨rfl, rfl, -⟩ := e
    refine .inr ⟨b, off + i * 3, rfl, hlt, fun j hj => ?_⟩
    have hj' : j < n ∧ i + j < ws.length := by rw [List.length_take, List.length_drop] at hj; omega
    have := hc (i + j) hj'.2
    rw [show off + i * 3 + j * 3 = off + (i + j) * 3 from by omega]
    simpa using this

theorem wrap64_few {n : Int} (h0 : 0 ≤ n) (h1 : n ≤ 4000) : wrap64 n = n := by unfold wrap64; omega
theorem part_rest (part : Int) : ∃ n : Nat, Hid ((IntKind.u64.wrap part).tmod 9 = (n : Int)) ∧ n < 9 ∧ wrap64 (n : Int) = (n : Int) ∧ wrap64 (1 + (n : Int)) = 1 + (n : Int) := by
  have hu : 0 ≤ IntKind.u64.wrap part := wrap_u64_nonneg part
  generalize IntKind.u64.wrap part = u at hu ⊢
  have h1 : u.tmod 9 = u % 9 := Int.tmod_eq_emod_of_nonneg hu
  refine ⟨(u.tmod 9).toNat, Lib.hid ?_, ?_, wrap64_few ?_ ?_, wrap64_few ?_ ?_⟩ <;> rw [h1] <;> omega

set_option maxHeartbeats 16000000 in
set_option maxRecDepth 100000 in
theorem TopShielded_walk {w : World} {A A1 A2 : Option Addr} {c c1 c2 : Nat} {vs : List Vl} {l : List (List Wr)} {ms : List Mk} (h : VolsAt w w.heap.size A vs) (hf : VolsFit vs) (h1 : WlsAt w w.heap.size A1 l) (hl : l.length ≤ 9223372036854775807) (h2 : MksAt w w.heap.size A2 ms) (part : Int) :
    Calls Try.prog 7 #[.slice A vs.length c, .slice A1 l.length c1, .slice A2 ms.length c2, .int .i64 part] w fun e w' => e = .returned (.bool true) ∧ Below w.heap.size w w' := by
  have HV := Lib.hid h
  have HFv := Lib.hid hf
  have HL1 := Lib.hid h1
  have HM := Lib.hid h2
  have HSm : Hid (Calls Try.prog 20 #[.slice A vs.length c, .slice A1 l.length c1, .int .i64 20] w fun e w' => e = .returned (.bool (smallT vs l 20)) ∧ Below w.heap.size w w') := Lib.hid (SmallT_any h hf h1 hl 20 (by omega))
  clear h hf h1 hl h2
  obtain ⟨i0, hi0, hz0, hz1, hz2⟩ := info_parts Try.infoWr
  cases hs : smallT vs l 20 with
  | false =>
    rw [hs] at HSm
    clear hs
    go_enter Try.func7, Try.ntmps7
    go_wp2_with fail
    refine HSm.out.mono ?_
    rintro e w1 ⟨rfl, hb1⟩
    have HB1 := Lib.hid hb1
    clear hb1
    go_wp2_with fail
    refine (stored_any _).mono ?_
    rintro e w9 ⟨rfl, hb9⟩
    have HB9 := Lib.hid (below_next HB1.out hb9)
    clear hb9
    go_wp2_with fail
    go_ret
    exact ⟨rfl, HB9.out⟩
  | true =>
  rw [hs] at HSm
  have HSt := Lib.hid hs
  clear hs
  by_cases hm2 : ms.length ≤ 200
  · have hm2z : ¬ (200 : Int) < (ms.length : Int) := by omega
    have HRv : Hid (rightB vs = true) := Lib.hid (by have := HSt.out; unfold smallT at this; rw [Bool.and_eq_true] at this; exact this.1)
    have HSh : Hid (∀ i, (h : i < l.length) → i < 20 → l[i].length ≤ 20) := Lib.hid ((shortL_iff l 20).1 (by have := HSt.out; unfold smallT at this; rw [Bool.and_eq_true] at this; exact this.2))
    have HO0 := Lib.hid (OthSt.start HRv.out)
    clear HSt
    go_enter Try.func7, Try.ntmps7
    go_wp2_with fail
    refine HSm.out.mono ?_
    rintro e w1 ⟨rfl, hb1⟩
    have HB1 := Lib.hid hb1
    have HV1 := Lib.hid (HV.out.next hb1)
    clear hb1 HSm
    go_upto_block 0 with fail
    go_cut [9, 10, 11, 12, 13] from 39 to 66 (fun v9 v10 v11 v12 v13 wx => ∃ (m : Nat) (other : List Vl) (all : List Wr) (Ao : Option Addr) (co : Nat), v9 = .slice Ao other.length co ∧ m ≤ 400 ∧ Hid (OthSt vs other all) ∧ Hid (all.length = m) ∧ Hid (VolsFit other) ∧ Hid (VolsOff wx v10.ownBlock Ao other) ∧ Hid (wx.ownsRow w.heap.size 74 3 v10 m (wrCells all)) ∧ Hid (Below w.heap.size w wx))
    case first =>
     go_wp2_with fail
     go_loopg [9, 10, 11] 20 (fun kx s9 s10 s11 wr => ∃ (k m : Nat) (other : List Vl) (all : List Wr) (Ao : Option Addr) (co : Nat), s9 = .slice Ao other.length co ∧ s11 = .int .i64 k ∧ k ≤ 20 ∧ 20 - k ≤ kx ∧ m ≤ 20 * k ∧ Hid (OthSt vs other all) ∧ Hid (all.length = m) ∧ Hid (VolsFit other) ∧ Hid (VolsOff wr s10.ownBlock Ao other) ∧ Hid (wr.ownsRow w.heap.size 74 3 s10 m (wrCells all)) ∧ Hid (Below w.heap.size w wr))
     case atStart => exact ⟨0, 0, vs, [], A, c, rfl, rfl, by omega, by omega, by omega, HO0, Lib.hid rfl, HFv, Lib.hid (VolsOff.none_ HV1.out), Lib.hid (World.ownsRow_nil _ _ _ _), HB1⟩
     case round =>
       clear HO0 HB1 HV1
       obtain ⟨k, m, other, all, Ao, co, rfl, rfl, hk20, hkx, hm20, HO, HAl, HFo, HVo, HOw, HB⟩ := hrel
       obtain ⟨A4, c4, h4, -⟩ := own_lies HOw.out
       subst h4
       have hwk : IntKind.i64.wrap ((k : Int) + 1) = (k : Int) + 1 := by rw [IntKind.wrap_i64]; omega
       have hbz : w.heap.size ≤ wr.heap.size := HB.out.size
       by_cases hkn : k < l.length
       · have hknz : (k : Int) < (l.length : Int) := by omega
         by_cases hk2 : k < 20
         · have hk2z : (k : Int) < 20 := by omega
           obtain ⟨bl, off, ax, cx, hA1, hbw, hnx, hfar⟩ := HL1.out.far hkn
           have HXk := Lib.hid hfar
           have HNx := Lib.hid hnx
           have HX20 := Lib.hid (HSh.out k hkn hk2)
           obtain ⟨x, hx⟩ : ∃ x, l[k] = x := ⟨_, rfl⟩
           rw [hx] at HXk HX20
           clear hfar hx hnx hbw
           subst hA1
           have hx20 := HX20.out
           have lc := (HXk.out _ HB.out).1
           by_cases h0 : checkE other x = 0
           · have HOn := Lib.hid (HO.out.more h0)
             have HAp : Hid (Calls Try.prog 22 #[.slice Ao other.length co, .slice ax x.length cx] wr (VolsOwn (applyV other x) 0 wr)) := Lib.hid (Apply_own HVo.out.at_ HFo.out ((HXk.out _ HB.out).2.more hbz) (Nat.le_trans hx20 (by omega)) h0)
             have HFn : Hid (VolsFit (applyV other x)) := Lib.hid fit_applyQ
             clear h0
             go_wp2_with fail
             refine HAp.out.mono ?_
             rintro e w2 ⟨An, cn, us, rfl, hO, hb⟩
             have HVn : Hid (VolsOff w2 (Value.slice A4 m c4).ownBlock An (applyV other x)) := Lib.hid (VolsOff.own hO (fun k hk => (HOw.out.lt k hk).2))
             have HO2 := Lib.hid (own_kept HOw.out hb)
             have HB2 := Lib.hid (below_next HB.out hb)
             have hz2' : w.heap.size ≤ w2.heap.size := HB2.out.size
             have lc2 := (HXk.out _ HB2.out).1
             have HXw : Hid (WrsAt w2 w2.heap.size ax x) := Lib.hid ((HXk.out _ HB2.out).2.more hz2')
             clear hO hb lc HAp us HVo
             go_wp2_with (at_builtin; refine wpList_append_rows_at rfl (.tmp 61) (.tmp 65) 25 rfl w.heap.size 74 i0 (.agg #[.int .i64 0, .int .i64 0, .string ByteArray.empty]) 3 32 Try.underlying25 hi0 hz0 hz1 hz2 rfl (by decide) (.slice A4 m c4) m (wrCells all) rfl HO2.out ax x.length cx (wrCells x) rfl (wrCells_length _) _ HXw.out.lies HNx.out (wrCells_one _) ?c1 ?c2 hz2' ?_)
             case c1 => unfold maxLen; omega
             case c2 => omega
             intro v5 w5 ho5 hg5 hn5
             have HV5 := Lib.hid (HVn.out.grown hg5 hn5)
             have HO5 : Hid (w5.ownsRow w.heap.size 74 3 v5 (m + x.length) (wrCells (all ++ x))) := Lib.hid (by rw [wrCells_append]; exact ho5)
             have HB5 : Hid (Below w.heap.size w w5) := Lib.hid (HB2.out.grown hg5 hz2' (fun q hq => (HO2.out.lt q hq).1))
             clear ho5 hg5 hn5
             go_wp2_with fail
             go_roundg (20 - (k + 1))
             case measure => omega
             case rel => exact ⟨k + 1, m + x.length, applyV other x, all ++ x, An, cn, rfl, by go_num, by omega, Nat.le_refl _, by omega, HOn, Lib.hid (by rw [List.length_append, HAl.out]), HFn, HV5, HO5, HB5⟩
           · have HAp := Lib.hid (Apply_any (c := co) (c2 := cx) HVo.out.at_ HFo.out ((HXk.out _ HB.out).2.more hbz) (Nat.le_trans hx20 (by omega)))
             obtain ⟨E, hE⟩ : ∃ E, checkE other x = E := ⟨_, rfl⟩
             rw [hE] at HAp h0
             have hE1 : (E == 0) = false := by rw [beq_eq_false_iff_ne]; exact h0
             clear hE h0
             go_wp2_with fail
             refine HAp.out.mono ?_
             rintro e w2 ⟨An, cn, rfl, hvn, hb⟩
             have HV2 := Lib.hid (HVo.out.later hb)
             have HO2 := Lib.hid (own_kept HOw.out hb)
             have HB2 := Lib.hid (below_next HB.out hb)
             clear hvn hb lc HAp HVo
             go_wp2_with fail
             go_roundg (20 - (k + 1))
             case measure => omega
             case rel => exact ⟨k + 1, m, other, all, Ao, co, rfl, by go_num, by omega, Nat.le_refl _, by omega, HO, HAl, HFo, HV2, HO2, HB2⟩
         · have hk2z : ¬ (k : Int) < 20 := by omega
           go_wp2_with fail
           go_meet
           case rel => exact ⟨m, other, all, Ao, co, rfl, by omega, HO, HAl, HFo, HVo, HOw, HB⟩
       · have hknz : ¬ (k : Int) < (l.length : Int) := by omega
         go_wp2_with fail
         go_meet
         case rel => exact ⟨m, other, all, Ao, co, rfl, by omega, HO, HAl, HFo, HVo, HOw, HB⟩
    case rest =>
      clear HO0 HB1 HV1 HSh HL1
      obtain ⟨m, other, all, Ao, co, rfl, hm40, HO, HAl, HFo, HVo, HOw, HB⟩ := hcut
      obtain ⟨A4, c4, h4, -⟩ := own_lies HOw.out
      subst h4
      have HB2o := Lib.hid (HM.out.next HB.out)
      have HPk := Lib.hid (Pick_any (c := co) (c2 := c2) HVo.out.at_ HFo.out HB2o.out (Nat.le_trans hm2 (by omega)))
      have HGo : Hid (pickEr other ms = 0 → ∀ x ∈ pickV other ms, gotE other x.vol x.block = 0) := Lib.hid (fun e => pick_more e)
      have HLo : Hid ((pickV other ms).length ≤ 200) := Lib.hid (by
        unfold pickV
        split
        · rw [pickL_length]; exact hm2
        · simp)
      obtain ⟨E, hE⟩ : ∃ E, pickEr other ms = E := ⟨_, rfl⟩
      obtain ⟨mr, hmr⟩ : ∃ mr, pickV other ms = mr := ⟨_, rfl⟩
      rw [hE, hmr] at HPk HGo
      rw [hmr] at HLo
      clear hE hmr HB2o
      go_wp2_with fail
      refine HPk.out.mono ?_
      rintro e w2 ⟨Am, cm, rfl, hma, hmn, hb⟩
      have HMa := Lib.hid hma
      have HMn := Lib.hid hmn
      have HV2 := Lib.hid (HVo.out.later hb)
      have HO2 := Lib.hid (own_kept HOw.out hb)
      have HB2 := Lib.hid (below_next HB.out hb)
      clear hma hmn hb HPk HVo HOw HB HM
      go_upto_if 74 with fail
      go_cut [14] from 73 to 74 (fun v14 wx => (∃ (Am : Option Addr) (cm : Nat) (mr : List Wr), v14 = .slice Am mr.length cm ∧ mr.length ≤ 200 ∧ Hid (∀ x ∈ mr, gotE other x.vol x.block = 0) ∧ Hid (WrsAt w2 w2.heap.size Am mr) ∧ Hid (Am = none → cm = 0)) ∧ wx = w2)
      case first =>
        by_cases hE0 : E = 0
        · subst hE0
          have HG1 := Lib.hid (HGo.out rfl)
          clear HGo
          go_wp2_with fail
          go_meet
          case rel => exact ⟨⟨Am, cm, mr, rfl, HLo.out, HG1, HMa, HMn⟩, rfl⟩
        · have hE1 : (E != 0) = true := by rw [bne_iff_ne]; exact hE0
          clear hE0 HGo
          go_wp2_with fail
          go_meet
          case rel => exact ⟨⟨none, 0, [], rfl, by simp, Lib.hid (by simp), Lib.hid (.inl rfl), Lib.hid (fun _ => rfl)⟩, rfl⟩
      case rest =>
        clear HGo HLo HMa HMn
        obtain ⟨⟨Am, cm, mr, rfl, hl200, HGo, HMa, HMn⟩, rfl⟩ := hcut
        obtain ⟨w3, hw3⟩ : ∃ w3, w3 = wc := ⟨_, rfl⟩
        subst hw3
        have hz3 : w.heap.size ≤ w3.heap.size := HB2.out.size
        obtain ⟨hp1, hp2, hp3, hp4⟩ := HO.out.parts (more := mr) HGo.out
        have hlam : (all ++ mr).length = m + mr.length := by rw [List.length_append, HAl.out]
        have hmkl : (marksW (all ++ mr)).length ≤ 600 := by
          have h1 := foldW_len (all ++ mr)
          unfold marksW
          rw [List.length_map]
          omega
        have hPl : (pickL other (marksW (all ++ mr))).length ≤ 600 := by rw [pickL_length]; exact hmkl
        have HP1 := Lib.hid hp1
        have HP2 := Lib.hid hp2
        have HP3 := Lib.hid hp3
        have HP4 := Lib.hid hp4
        have HLam := Lib.hid hlam
        have HMk := Lib.hid hmkl
        have HPl := Lib.hid hPl
        clear hp1 hp2 hp3 hp4 hlam hmkl hPl
        go_wp2_with (at_builtin; refine wpList_append_rows_at rfl (.tmp 77) (.tmp 78) 25 rfl w.heap.size 74 i0 (.agg #[.int .i64 0, .int .i64 0, .string ByteArray.empty]) 3 32 Try.underlying25 hi0 hz0 hz1 hz2 rfl (by decide) (.slice A4 m c4) m (wrCells all) rfl HO2.out Am mr.length cm (wrCells mr) rfl (wrCells_length _) _ HMa.out.lies HMn.out (wrCells_one _) ?c1 ?c2 hz3 ?_)
        case c1 => unfold maxLen; omega
        case c2 => omega
        intro v5 w5 ho5 hg5 hn5
        have HV5 := Lib.hid (HV2.out.grown hg5 hn5).at_
        have HB5 : Hid (Below w.heap.size w w5) := Lib.hid (HB2.out.grown hg5 hz3 (fun q hq => (HO2.out.lt q hq).1))
        have HW5 : Hid (WrsEnd (all ++ mr) w (.returned v5) w5) := Lib.hid (own_end (t := 74) (base := w.heap.size) (by rw [HLam.out, wrCells_append]; exact ho5) HB5.out)
        clear ho5 hg5 hn5 HV2 HO2
        obtain ⟨A5, c5, hv5, h5, _, _⟩ := HW5.out
        cases hv5
        have HA5 := Lib.hid h5
        clear h5 HW5
        have HMks := Lib.hid (Marks_any (c := c5) HA5.out (by rw [HLam.out]; omega))
        obtain ⟨am, ham⟩ : ∃ am, all ++ mr = am := ⟨_, rfl⟩
        rw [ham] at HMks HP1 HP2 HP3 HP4 HMk HPl HA5 ⊢
        clear ham HLam
        obtain ⟨mk, hmk⟩ : ∃ mk, marksW am = mk := ⟨_, rfl⟩
        rw [hmk] at HMks HP1 HP2 HP3 HP4 HMk HPl
        clear hmk
        go_wp2_with fail
        refine HMks.out.mono ?_
        rintro e w6 ⟨A6, c6, rfl, h6, hb6⟩
        have HV6 := Lib.hid (HV5.out.next hb6)
        have HB6 := Lib.hid (below_next HB5.out hb6)
        have HA6 := Lib.hid h6
        clear h6 hb6 HMks HA5 HV5 HB5
        have HPi := Lib.hid (Pick_room (c := co) (c2 := c6) HV6.out HFo.out HA6.out (Nat.le_trans HMk.out (by omega)))
        rw [HP1.out, HP2.out] at HPi
        obtain ⟨ps, hps⟩ : ∃ ps, pickL other mk = ps := ⟨_, rfl⟩
        rw [hps] at HPi HP3 HP4 HPl
        clear hps HP1 HP2
        go_wp2_with fail
        refine HPi.out.mono ?_
        rintro e w7 ⟨Ap, cp, rfl, h7, _, hcp, hb7⟩
        have HV7 := Lib.hid (HV6.out.next hb7)
        have HB7 := Lib.hid (below_next HB6.out hb7)
        have HP7 := Lib.hid h7
        clear h7 hb7 HPi HV6 HB6 HA6
        have HC0 := Lib.hid (CopSt.start HRv.out HP3.out HP4.out)
        replace HO := HO.out
        clear HP3 HP4 HAl HGo HMa HMn
        go_upto_region 18 with fail
        obtain ⟨n0, HN0, hn9, hw1, hw2⟩ := part_rest part
        have hnn1 : ((n0 + 1 : Nat) : Int) = 1 + (n0 : Int) := by rw [Int.natCast_add, Int.add_comm]; rfl
        have hn1 : 1 ≤ n0 + 1 := Nat.le_add_left _ _
        have hn2 : n0 + 1 ≤ 9 := hn9
        go_cut [3] from 86 to 90 (fun v3 wx => (∃ pt : Nat, v3 = .int .i64 pt ∧ 1 ≤ pt ∧ pt ≤ 9) ∧ wx = w7)
        case first =>
          have HNN := Lib.hid hnn1
          have HW1 := Lib.hid hw1
          have HW2 := Lib.hid hw2
          clear hnn1 hw1 hw2
          go_wp2_with fail
          go_meet
          case rel => exact ⟨⟨n0 + 1, by rw [HN0.out, HW1.out, HW2.out, HNN.out], hn1, hn2⟩, rfl⟩
        case rest =>
          clear hnn1 hn1 hn2 hw1 hw2 hn9 HN0 n0
          obtain ⟨⟨pt, rfl, hpt1, hpt9⟩, rfl⟩ := hcut
          have HVv := Lib.hid (HV.out.next HB7.out)
          obtain ⟨w8, hw8⟩ : ∃ w8, w8 = wc := ⟨_, rfl⟩
          subst hw8
          go_wp2_with fail
          go_loopg [18, 19, 20] (ps.length) (fun kx s18 s19 s20 wr => ∃ (i : Nat) (now : List Vl) (kept : List Wr) (An Ak : Option Addr) (cn ck : Nat), s18 = .slice An now.length cn ∧ s19 = .slice Ak kept.length ck ∧ s20 = .int .i64 i ∧ i ≤ 700 ∧ ps.length - i ≤ kx ∧ Hid (CopSt vs other ps i now kept) ∧ Hid (VolsAt wr wr.heap.size An now) ∧ Hid (VolsFit now) ∧ Hid (WrsAt wr wr.heap.size Ak kept) ∧ Hid (Ak = none → ck = 0) ∧ Hid (VolsAt wr wr.heap.size Ao other) ∧ Hid (WrsAt wr wr.heap.size Ap ps) ∧ Hid (Below w.heap.size w wr))
          case atStart => exact ⟨0, vs, [], A, none, c, 0, rfl, rfl, rfl, by omega, by omega, HC0, HVv, HFv, Lib.hid (.inl rfl), Lib.hid (fun _ => rfl), HV7, HP7, HB7⟩
          case round =>
            clear HC0 HV7 HP7 HB7 HVv
            obtain ⟨i, now, kept, An, Ak, cn, ck, rfl, rfl, rfl, hi7, hkx, HC, HVn, HFn, HWk, HNk, HVo, HWp, HB⟩ := hrel
            by_cases hip : i < ps.length
            · have hipz : (i : Int) < (ps.length : Int) := by omega
              obtain ⟨hs1, hs2, hs3, hs4⟩ := HC.out.step pt
              obtain ⟨pb, po, rfl⟩ : ∃ pb po, Ap = some ⟨pb, po, none⟩ := by
                rcases HWp.out with e | ⟨b, off, e, _⟩
                · rw [e] at hip; simp at hip
                · exact ⟨b, off, e⟩
              have HWs := Lib.hid (HWp.out.part i pt)
              have hci : ¬ cp = i := by omega
              have hwp : IntKind.i64.wrap ((i : Int) + (pt : Int)) = (i : Int) + (pt : Int) := by rw [IntKind.wrap_i64]; omega
              obtain ⟨ws, hws⟩ : ∃ ws, (ps.drop i).take pt = ws := ⟨_, rfl⟩
              have hwl : ws.length = min pt (ps.length - i) := by rw [← hws, List.length_take, List.length_drop]
              rw [hws] at hs1 hs2 hs3 hs4 HWs
              have HLen : Hid ((min (ps.length : Int) ((i : Int) + (pt : Int))).toNat - i = ws.length) := Lib.hid (by rw [hwl]; omega)
              have HWl9 : Hid (ws.length ≤ 9) := Lib.hid (by rw [hwl]; omega)
              have HS1 := Lib.hid hs1
              have HS2 := Lib.hid hs2
              have HS3 := Lib.hid hs3
              have HS4 := Lib.hid hs4
              have HWl := Lib.hid hwl
              clear hs1 hs2 hs3 hs4 hwl hws
              go_upto_region 25 with fail
              rw [HLen.out]
              have hwsl := HWl9.out
              clear HLen
              have HNt := Lib.hid (Note_any (c := cn) (c3 := cp - i) HVn.out HFn.out HWk.out ⟨Nat.le_trans HC.out.room (by omega), HNk.out⟩ HWs.out (Nat.le_trans HWl9.out (by omega)) 128)
              rw [HS2.out, HS3.out] at HNt
              have HKl : Hid ((noteN kept ws now).length ≤ 1000) := Lib.hid (Nat.le_trans HS4.out.room (by omega))
              have HTe := Lib.hid HS4.out.tells
              have HFn2 : Hid (VolsFit (applyV now ws)) := Lib.hid fit_applyQ
              obtain ⟨k2, hk2⟩ : ∃ k2, noteN kept ws now = k2 := ⟨_, rfl⟩
              rw [hk2] at HNt HS4 HTe HKl
              clear hk2
              go_wp2_with fail
              refine HNt.out.mono ?_
              rintro e w2 ⟨Ak2, ck2, rfl, hk2, nk2, hb2⟩
              have HB2' := Lib.hid (below_next HB.out hb2)
              have HV2 := Lib.hid (HVn.out.next hb2)
              have HW2 := Lib.hid (HWs.out.next hb2)
              have HO2 := Lib.hid (HVo.out.next hb2)
              have HP2 := Lib.hid (HWp.out.next hb2)
              have HK2 := Lib.hid hk2
              have HN2 := Lib.hid nk2
              clear hk2 nk2 hb2 HNt HVn HWs HVo HWp HB HWk HNk
              have HAp := Lib.hid (Apply_any (c := cn) (c2 := cp - i) HV2.out HFn.out HW2.out (Nat.le_trans HWl9.out (by omega)))
              rw [HS1.out] at HAp
              obtain ⟨n2, hn2⟩ : ∃ n2, applyV now ws = n2 := ⟨_, rfl⟩
              rw [hn2] at HAp HS4 HTe HFn2
              clear hn2
              go_wp2_with fail
              refine HAp.out.mono ?_
              rintro e w3' ⟨An2, cn2, rfl, hv3, hb3⟩
              have HB3 := Lib.hid (below_next HB2'.out hb3)
              have HV3 := Lib.hid hv3
              have HO3 := Lib.hid (HO2.out.next hb3)
              have HP3 := Lib.hid (HP2.out.next hb3)
              have HK3 := Lib.hid (HK2.out.next hb3)
              clear hv3 hb3 HAp HV2 HW2 HO2 HP2 HK2 HB2'
              have HBa := Lib.hid (Back_any (c := cn2) (c2 := ck2) HV3.out HFn2.out HK3.out HKl.out)
              rw [HTe.out.1, HTe.out.2] at HBa
              go_wp2_with fail
              refine HBa.out.mono ?_
              rintro e w4 ⟨Aw, cw, rfl, hw4, hb4⟩
              have HB4 := Lib.hid (below_next HB3.out hb4)
              have HV4 := Lib.hid (HV3.out.next hb4)
              have HO4 := Lib.hid (HO3.out.next hb4)
              have HP4 := Lib.hid (HP3.out.next hb4)
              have HK4 := Lib.hid (HK3.out.next hb4)
              have HSa := Lib.hid (Same_any (c1 := cw) (c2 := c) hw4 (HV.out.next HB4.out) HFv.out HFv.out)
              rw [same_one HRv.out] at HSa
              clear hw4 hb4 HBa HV3 HO3 HP3 HK3 HB3
              go_wp2_with fail
              refine HSa.out.mono ?_
              rintro e w5' ⟨rfl, hb5⟩
              have HB5' := Lib.hid (below_next HB4.out hb5)
              have HV5' := Lib.hid (HV4.out.next hb5)
              have HO5' := Lib.hid (HO4.out.next hb5)
              have HP5' := Lib.hid (HP4.out.next hb5)
              have HK5' := Lib.hid (HK4.out.next hb5)
              clear hb5 HSa HV4 HO4 HP4 HK4 HB4
              go_wp2_with fail
              go_roundg (ps.length - (i + pt))
              case measure => omega
              case rel => exact ⟨i + pt, n2, k2, An2, Ak2, cn2, ck2, rfl, rfl, by go_num, by have := HPl.out; omega, Nat.le_refl _, HS4, HV5', HFn2, HK5', HN2, HO5', HP5', HB5'⟩
            · have hipz : ¬ (i : Int) < (ps.length : Int) := by omega
              have HDo : Hid (sameB now other = true) := Lib.hid (by rw [HC.out.done (by omega)]; exact same_one HO.oright)
              have HSa := Lib.hid (Same_any (c1 := cn) (c2 := co) HVn.out HVo.out HFn.out HFo.out)
              rw [HDo.out] at HSa
              go_wp2_with fail
              refine HSa.out.mono ?_
              rintro e w5' ⟨rfl, hb5⟩
              have HB5' := Lib.hid (below_next HB.out hb5)
              clear hb5
              go_wp2_with fail
              refine (stored_any _).mono ?_
              rintro e w9 ⟨rfl, hb9⟩
              have HB9 := Lib.hid (below_next HB5'.out hb9)
              clear hb9
              go_wp2_with fail
              go_ret
              exact ⟨rfl, HB9.out⟩
  · have hm2z : (200 : Int) < (ms.length : Int) := by omega
    go_enter Try.func7, Try.ntmps7
    go_wp2_with fail
    refine HSm.out.mono ?_
    rintro e w1 ⟨rfl, hb1⟩
    have HB1 := Lib.hid hb1
    clear hb1
    go_wp2_with fail
    refine (stored_any _).mono ?_
    rintro e w9 ⟨rfl, hb9⟩
    have HB9 := Lib.hid (below_next HB1.out hb9)
    clear hb9
    go_wp2_with fail
    go_ret
    exact ⟨rfl, HB9.out⟩
end Go.Proofs.Ythajgoigmkkbgaa
