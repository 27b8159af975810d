/- The walk of WalOpens. The walk of WalOpens, where there is no disk, and whole. WalOpens: for every input the law answers true: whatever stands on a disk (of at most 24 sectors), Open tells the log that the document says, and writes nothing; where none lies it is refused; as a tied card. No condition. -/
import Derived.Test.YtjeabnlmanfplaaGreatDoorWalMf
import Derived.Test.YtjeabnlmanfplaaGreatDoorWalMg
import Derived.StillTailTactics
import Derived.Test.YtjeabnlmanfplaaGreatDoorDiskG
import Derived.Deep.Grids
import Derived.Deep.Fields
import Derived.ChangeArms
import Derived.Test.YtjeabnlmanfplaaGreatDoorTie
import Derived.Test.YtjeabnlmanfplaaGreatDoorCards
import Derived.ProofKit
import Derived.OpenShut
import Derived.ShutString
import Derived.ChangeOld
import Derived.SizedLaws
import Derived.Below
import Derived.Carry
import Derived.SliceStrings
import Derived.LaidMore
import Derived.Lay
import Derived.SevenTiedAt
import Derived.Stop.Joined
import Derived.Test.YtjeabnlmanfplaaGreatDoorRows
import Derived.ChangeSame
import Derived.ChangeVars
import Derived.JoinedOf
import Derived.LaidLaws
import Derived.LaidHandle
namespace Go.Proofs.YtjeabnlmanfplaaGreatDoor
open Go.RowKit

/-- Both disks are written alike, so many texts. -/
def OpAt (W : World) (k a X i : Nat) (wr : World) : Prop := ∃ F d fA fc aA ac wA wc, OpSt W wr F a X d d fA fc aA ac wA wc ∧ Calm d k ∧ d.loose.length ≤ i

set_option maxHeartbeats 16000000 in
set_option maxRecDepth 100000 in
theorem WalOpens_some {W : World} (hg : ErrCell W) (k : Nat) (slot : Int) (hk1 : 1 ≤ k) (hk2 : k ≤ 24) {A : Option Addr} {cap : Nat} {ts : List ByteArray} (hA : Lies W W.heap.size A (ts.map Value.string)) (hz : ∀ t ∈ ts, t.size ≤ 9223372036854775807) :
    Calls Tryz.prog 4 #[.int .i64 k, .int .i64 slot, .slice A ts.length cap] W fun e w' => e = .returned (.bool true) ∧ Below W.heap.size W w' := by
  have HA := Lib.hid hA
  have HZ := Lib.hid hz
  have HGg := Lib.hid hg
  obtain ⟨len, hlen⟩ : ∃ len, ts.length = len := ⟨_, rfl⟩
  have HLen := Lib.hid hlen
  rw [hlen]
  have hn24 : decide ((24 : Int) < (k : Int)) = false := by rw [decide_eq_false_iff_not]; omega
  clear hA hz hg hlen
  go_enter Tryz.func4, Tryz.ntmps4
  go_wp2_with fail
  refine (New_ok k _ hk1 (by omega)).mono ?_
  rintro e w1 ⟨a, F0, rfl, hd1, hF0, hb1⟩
  have HD1 := Lib.hid hd1
  have HF0 := Lib.hid hF0
  have HB1 := Lib.hid hb1
  clear hd1 hF0 hb1
  go_wp2_with fail
  refine (RefNew_ok k _ hk1 (by omega)).mono ?_
  rintro e w2 ⟨fA0, fc0, rfl, hr2, hb2, hfr2⟩
  have HOp := Lib.hid (op_first (W := W) (fc := fc0) hk1 HD1.out HF0.out HB1.out hr2 hb2 hfr2)
  clear hr2 hb2 hfr2 HD1 HF0 HB1
  go_wp2_with fail
  generalize w2.alloc (.cells #[.slice fA0 k fc0, .slice none 0 0, .slice none 0 0, .int .i64 (-1), .bool false] 30) = w3 at *
  obtain ⟨X, hX⟩ : ∃ X, w2.heap.size = X := ⟨_, rfl⟩
  rw [hX] at HOp ⊢
  clear hX
  go_loopg [9] k (fun kx s9 wr => ∃ i : Nat, s9 = .int .i64 i ∧ i ≤ k ∧ k - i ≤ kx ∧ Hid (OpAt W k a X i wr))
  case atStart => exact ⟨0, rfl, Nat.zero_le _, by omega, Lib.hid ⟨_, _, _, _, _, _, _, _, HOp.out, Calm.new k, Nat.le_refl _⟩⟩
  case round =>
    obtain ⟨i, rfl, hi, hix, hst⟩ := hrel
    obtain ⟨F, d, fA, fc, aA, ac, wA, wc, hop, hcalm, hlo⟩ := hst.out
    have HO := Lib.hid hop
    have HC := Lib.hid hcalm
    have hi0 : (0 : Int) ≤ (i : Int) := Int.natCast_nonneg _
    clear hst hop hcalm
    by_cases hil : i < len
    · have q1 : decide ((i : Int) < (len : Int)) = true := by rw [decide_eq_true_iff]; omega
      by_cases hin : i < k
      · have q2 : decide ((i : Int) < (k : Int)) = true := by rw [decide_eq_true_iff]; omega
        have hil8 : (i : Int) < (len : Int) := by omega
        have hit : i < ts.length := by rw [HLen.out]; exact hil
        obtain ⟨tb, tf, hAe, htb, htc⟩ := HA.out.at_ (by intro e; rw [List.map_eq_nil_iff] at e; subst e; simp at hit)
        subst hAe
        have htx : W.cell? ⟨tb, tf + i, none⟩ = some (.string ts[i]) := by rw [htc i (by simpa using hit)]; simp
        have htz : ts[i].size ≤ 9223372036854775807 := HZ.out _ (List.getElem_mem _)
        obtain ⟨t, ht⟩ : ∃ t, ts[i] = t := ⟨_, rfl⟩
        rw [ht] at htx htz
        have HT := Lib.hid (fun w' (hb : Below W.heap.size W w') => (hb.cell (p := ⟨tb, tf + i, none⟩) htb).trans htx)
        clear ht htc htx htb hit
        have t1 := HT.out wr HO.out.bel
        go_wp2_with fail
        refine (Write_any HO.out.disk (i : Int) t htz (by omega)).mono ?_
        intro e w5 h5
        obtain ⟨rfl, F5, hop5⟩ := HO.out.did h5
        have HO5 := Lib.hid hop5
        clear h5 hop5 t1
        have t5 := HT.out w5 HO5.out.bel
        go_wp2_with fail
        refine wp_region_held_drew (S := fun w' => Below W.heap.size W w') (by kernel_rfl) (HO5.out.later (Below.refl _ _).drew).bel (fun hHeld => ?_)
        have HO6 := Lib.hid (HO5.out.later (Below.refl _ _).drew)
        clear t5 HO5
        generalize w5.drew = w6 at *
        obtain ⟨x0, x1, x2, x3, x4, x5⟩ := HO6.out.x.cells
        refine wpAnyH_take (i := 1) (oi := { dst := some 41, op := Op.move (Operand.tmp 9), type := 3, pos := "law.go:138", after := #[], guard := none }) (v := .int .i64 i) rfl (by kernel_rfl) (by kernel_rfl) (by kernel_rfl) (fun _ _ _ h => h) (Or.inl ⟨by rfl, fun w hS => by go_simp⟩) hHeld ?_
        try simp only [Act.put, List.setIfInBounds_toArray, List.set_cons_zero, List.set_cons_succ]
        refine wpAnyH_take (i := 2) (oi := { dst := some 42, op := Op.move (Operand.tmp 2), type := 27, pos := "law.go:138", after := #[], guard := none }) (v := .slice (some ⟨tb, tf, none⟩) len cap) rfl (by kernel_rfl) (by kernel_rfl) (by kernel_rfl) (fun _ _ _ h => h) (Or.inl ⟨by rfl, fun w hS => by go_simp⟩) hHeld ?_
        try simp only [Act.put, List.setIfInBounds_toArray, List.set_cons_zero, List.set_cons_succ]
        refine wpAnyH_take (i := 3) (oi := { dst := some 43, op := Op.move (Operand.tmp 9), type := 3, pos := "law.go:138", after := #[], guard := none }) (v := .int .i64 i) rfl (by kernel_rfl) (by kernel_rfl) (by kernel_rfl) (fun _ _ _ h => h) (Or.inl ⟨by rfl, fun w hS => by go_simp⟩) hHeld ?_
        try simp only [Act.put, List.setIfInBounds_toArray, List.set_cons_zero, List.set_cons_succ]
        refine wpAnyH_take (i := 4) (oi := { dst := some 44, op := Op.indexAddr 27 (Operand.tmp 42) (Operand.tmp 43), type := 0, pos := "law.go:138", after := #[{ on := 2, ground := Ground.data }, { on := 3, ground := Ground.data }], guard := none }) (v := .pointer (some ⟨tb, tf + i, none⟩)) rfl (by kernel_rfl) (by kernel_rfl) (by kernel_rfl) (fun _ _ _ h => h) (Or.inl ⟨by rfl, fun w hS => by go_simp⟩) hHeld ?_
        try simp only [Act.put, List.setIfInBounds_toArray, List.set_cons_zero, List.set_cons_succ]
        refine wpAnyH_take (i := 5) (oi := { dst := some 45, op := Op.load 9 (Operand.tmp 44), type := 9, pos := "law.go:138", after := #[{ on := 4, ground := Ground.data }], guard := none }) (v := .string t) rfl (by kernel_rfl) (by kernel_rfl) (by kernel_rfl) (fun _ _ _ h => h) (Or.inl ⟨by rfl, fun w hS => by have tq := HT.out w hS; go_simp⟩) hHeld ?_
        try simp only [Act.put, List.setIfInBounds_toArray, List.set_cons_zero, List.set_cons_succ]
        refine wpAnyH_ready (rs := [0]) (by kernel_rfl) (by simp) ?_
        refine AllReadyH.cons (o := { dst := some 40, op := Op.load 30 (Operand.tmp 8), type := 30, pos := "law.go:138", after := #[], guard := none }) rfl (fun K hK => ?_) AllReadyH.nil
        rw [if_pos (by rfl)]
        go_simp
        refine hK.out _ _ hHeld (fun hHeld1 => ?_)
        clear hK K
        try simp only [Act.put, List.setIfInBounds_toArray, List.set_cons_zero, List.set_cons_succ]
        clear x0 x1 x2 x3 x4 x5
        refine wpAnyH_ready (rs := [6]) (by kernel_rfl) (by simp) ?_
        refine AllReadyH.cons (o := { dst := some 46, op := Op.call { callee := Callee.value (Operand.func 34), args := #[Operand.tmp 40, Operand.tmp 41, Operand.tmp 45], argTypes := #[30, 3, 9] }, type := 48, pos := "law.go:138", after := #[{ on := 0, ground := Ground.data }, { on := 1, ground := Ground.data }, { on := 5, ground := Ground.data }], guard := none }) rfl (fun K hK => ?_) AllReadyH.nil
        rw [if_pos (by rfl)]
        go_simp
        refine (RefWrite_any HO6.out.ok HO6.out.ref (by omega) (i : Int) t htz).mono ?_
        intro e w7 h7
        obtain ⟨fA', fc', aA', ac', wA', wc', rfl, hb7, hop7⟩ := HO6.out.ask (HO6.out.ok.writeD _ _) (HO6.out.tru.writeD _ _) h7
        have HO7 := Lib.hid hop7
        have HX7 := Lib.hid (HO6.out.x.below hb7 (heap_lt HO6.out.x))
        have HB7 := Lib.hid (HO6.out.bel.trans (hb7.mono HO6.out.bel.size))
        have HLo : Hid ((d.writeD (i : Int) t.data.toList).loose.length ≤ i + 1) := Lib.hid (by have := writeD_looseW d (i : Int) t.data.toList; omega)
        have HCl := Lib.hid (HC.out.write (i : Int) t.data.toList)
        generalize d.writeD (i : Int) t.data.toList = d7 at *
        generalize d.writeE (i : Int) t.data.toList = E7 at *
        clear h7 hop7 hb7
        go_wp2_with fail
        refine hK.out _ _ HB7.out (fun hHeld2 => ?_)
        clear hK K
        try simp only [Act.put, List.setIfInBounds_toArray, List.set_cons_zero, List.set_cons_succ]
        refine wpAnyH_take (i := 7) (oi := { dst := some 39, op := Op.move (Operand.tmp 46), type := 48, pos := "law.go:138", after := #[{ on := 6, ground := Ground.data }], guard := none }) (v := .tuple #[.agg #[.slice fA' d7.firm.length fc', .slice aA' d7.loose.length ac', .slice wA' d7.loose.length wc', .int .i64 d7.leftR, .bool d7.off], .int .i64 E7]) rfl (by kernel_rfl) (by kernel_rfl) (by kernel_rfl) (fun _ _ _ h => h) (Or.inl ⟨by rfl, fun w hS => by go_simp⟩) hHeld2 ?_
        try simp only [Act.put, List.setIfInBounds_toArray, List.set_cons_zero, List.set_cons_succ]
        refine wpAnyH_take (i := 8) (oi := { dst := some 47, op := Op.extract (Operand.tmp 39) 0, type := 30, pos := "law.go:138", after := #[{ on := 7, ground := Ground.data }], guard := none }) (v := .agg #[.slice fA' d7.firm.length fc', .slice aA' d7.loose.length ac', .slice wA' d7.loose.length wc', .int .i64 d7.leftR, .bool d7.off]) rfl (by kernel_rfl) (by kernel_rfl) (by kernel_rfl) (fun _ _ _ h => h) (Or.inl ⟨by rfl, fun w hS => by go_simp⟩) hHeld2 ?_
        try simp only [Act.put, List.setIfInBounds_toArray, List.set_cons_zero, List.set_cons_succ]
        refine wpAnyH_take (i := 9) (oi := { dst := some 48, op := Op.extract (Operand.tmp 39) 1, type := 3, pos := "law.go:138", after := #[{ on := 7, ground := Ground.data }, { on := 10, ground := Ground.gcOnly Departure.lateStores }], guard := none }) (v := .int .i64 E7) rfl (by kernel_rfl) (by kernel_rfl) (by kernel_rfl) (fun _ _ _ h => h) (Or.inl ⟨by rfl, fun w hS => by go_simp⟩) hHeld2 ?_
        try simp only [Act.put, List.setIfInBounds_toArray, List.set_cons_zero, List.set_cons_succ]
        obtain ⟨x0, x1, x2, x3, x4, x5⟩ := HX7.out.cells
        refine wpAnyH_ready (rs := [10]) (by kernel_rfl) (by simp) ?_
        refine AllReadyH.cons (o := { dst := none, op := Op.store 30 (Operand.tmp 8) (Operand.tmp 47), type := 0, pos := "law.go:138", after := #[{ on := 8, ground := Ground.data }, { on := 6, ground := Ground.chain }, { on := 0, ground := Ground.phase }, { on := 1, ground := Ground.phase }, { on := 2, ground := Ground.phase }, { on := 3, ground := Ground.phase }, { on := 4, ground := Ground.phase }, { on := 5, ground := Ground.phase }, { on := 6, ground := Ground.phase }, { on := 7, ground := Ground.phase }, { on := 8, ground := Ground.phase }, { on := 9, ground := Ground.textOnly Departure.lateStores }], guard := none }) rfl (fun K hK => ?_) AllReadyH.nil
        rw [if_pos (by rfl)]
        go_simp
        refine hK.out _ _ HO7.out.bel (fun hHeld3 => ?_)
        clear hK K
        try simp only [Act.put, List.setIfInBounds_toArray, List.set_cons_zero, List.set_cons_succ]
        refine wpAnyH_done (by kernel_rfl) ?_ _
        clear x0 x1 x2 x3 x4 x5
        go_wp2_with fail
        go_roundg (k - (i + 1))
        case measure => omega
        case rel => exact ⟨i + 1, by go_num, by omega, Nat.le_refl _, Lib.hid ⟨_, _, _, _, _, _, _, _, HO7.out, HCl.out, HLo.out⟩⟩
      · have q2 : decide ((i : Int) < (k : Int)) = false := by rw [decide_eq_false_iff_not]; omega
        have HL0 := Lib.hid hlo
        go_wp2_with fail
        refine (Flush_any HO.out.disk (by omega)).mono ?_
        intro e w5 h5
        obtain ⟨rfl, F5, hop5⟩ := HO.out.did h5
        have HO5 := Lib.hid hop5
        clear h5 hop5
        obtain ⟨x0, x1, x2, x3, x4, x5⟩ := HO5.out.x.cells
        go_wp2_with fail
        refine (RefFlush_any HO5.out.ok HO5.out.ref (by omega)).mono ?_
        intro e w7 h7
        obtain ⟨fA', fc', aA', ac', wA', wc', rfl, hb7, hop7⟩ := HO5.out.ask HO5.out.ok.flushD HO5.out.tru.flushD h7
        have HO7 := Lib.hid hop7
        have HX7 := Lib.hid (HO5.out.x.below hb7 (heap_lt HO5.out.x))
        have HCf := Lib.hid HC.out.flush
        clear x0 x1 x2 x3 x4 x5
        obtain ⟨x0, x1, x2, x3, x4, x5⟩ := HX7.out.cells
        generalize d.flushD = d2 at *
        generalize d.flushE = E2 at *
        clear h7 hop7 hb7
        go_wp2_with fail
        clear x0 x1 x2 x3 x4 x5
        generalize ((((w7.setCell ⟨X, 0, none⟩ (.slice fA' d2.firm.length fc')).setCell ⟨X, 1, none⟩ (.slice aA' d2.loose.length ac')).setCell ⟨X, 2, none⟩ (.slice wA' d2.loose.length wc')).setCell ⟨X, 3, none⟩ (.int .i64 d2.leftR)).setCell ⟨X, 4, none⟩ (.bool d2.off) = w8 at *
        have HFl : Hid (d2.firm.length = k) := Lib.hid (HO7.out.ok.len.trans HCf.out.1.size)
        cases hf : fitsE k slot with
        | false =>
          have HNo := Lib.hid (Open_nofit HO7.out.disk slot (by rw [HCf.out.1.size]; exact hf))
          have HFit := Lib.hid (fun w' => by
            have t := DocFits_any (k : Int) slot w'
            rw [fits_same hk2, hf] at t
            exact t)
          clear hf
          refine HNo.out.mono ?_
          rintro e w9 ⟨b, rfl, hfb, hb9⟩
          have HO9 := Lib.hid (HO7.out.later hb9)
          have HFb := Lib.hid hfb
          clear hfb hb9
          obtain ⟨x0, x1, x2, x3, x4, x5⟩ := HO9.out.x.cells
          rw [HFl.out] at x0
          go_wp2_with fail
          refine (HFit.out _).mono ?_
          rintro e w' ⟨rfl, rfl⟩
          go_wp2_with fail
          refine (num_fault b openW 1 (HGg.out.below HO9.out.bel HGg.out.pos) HFb.out).mono ?_
          rintro e w10 ⟨rfl, hb10⟩
          have HB10 := Lib.hid (HO9.out.bel.trans (hb10.mono HO9.out.bel.size))
          clear hb10
          go_wp2_with fail
          refine (awake6_any _).mono ?_
          rintro e w11 ⟨rfl, hb11⟩
          have HB11 := Lib.hid (HB10.out.trans (hb11.mono HB10.out.size))
          clear hb11
          go_wp2_with fail
          go_ret
          exact ⟨rfl, HB11.out⟩
        | true =>
          have HFit := Lib.hid (fun w' => by
            have t := DocFits_any (k : Int) slot w'
            rw [fits_same hk2, hf] at t
            exact t)
          unfold fitsE at hf
          rw [decide_eq_true_iff] at hf
          obtain ⟨s, rfl⟩ := Int.eq_ofNat_of_zero_le (show 0 ≤ slot by omega)
          have hs2 : 2 ≤ s := by omega
          have hsf : 2 * s + 3 ≤ d2.seen.length := by rw [HCf.out.1.size]; omega
          have HX32 := Lib.hid (seen_32 HO7.out.disk)
          have HOpen := Lib.hid (Open_ok HO7.out.disk s HCf.out.1.off hs2 hsf)
          have HFind := Lib.hid (fun w' F' fA'' fc'' aA'' ac'' wA'' wc'' (ho : OpSt W w' F' a X d2 d2 fA'' fc'' aA'' ac'' wA'' wc'') => DocFind_any (fc := fc'') (ac := ac'') (wc := wc'') ho.ok ho.tru ho.ref (by rw [HCf.out.2]; simp) d2.leftR s hs2 hsf HCf.out.1.off HX32.out)
          clear hf hsf
          refine HOpen.out.mono ?_
          rintro e w9 ⟨b, A9, c9, rfl, hl9, _, hlog9, hb9, _⟩
          have HO9 := Lib.hid (HO7.out.later hb9)
          have HL9 := Lib.hid hl9
          have HLog9 := Lib.hid hlog9
          clear hl9 hlog9 hb9
          obtain ⟨x0, x1, x2, x3, x4, x5⟩ := HO9.out.x.cells
          rw [HFl.out] at x0
          go_wp2_with fail
          refine (HFit.out _).mono ?_
          rintro e w' ⟨rfl, rfl⟩
          go_wp2_with fail
          have HDk := Lib.hid (fun w' (hb : Below w9.heap.size w9 w') => by
            have t := (HO9.out.x.below hb (heap_lt HO9.out.x)).cells
            rw [HFl.out] at t
            exact t)
          have HRl : Hid ((openR a d2 s).length ≤ 9223372036854775807) := Lib.hid (by have t := scan_len d2.seen d2.seen.length (slotV a d2 s); have e := HCf.out.1.size; unfold openR; omega)
          obtain ⟨eR, eG, eN, eX, eU, eS⟩ := open_disk a d2 s
          have HO10 := Lib.hid (HO9.out.later (Below.refl _ _).drew)
          have HF10 := HFind.out w9.drew F5 fA' fc' aA' ac' wA' wc' HO10.out
          rw [HFl.out] at HF10
          unfold FindEnd at HF10
          rw [eR, eG, eN, eX, eU] at HF10
          have HF10h := Lib.hid HF10
          have HES := Lib.hid eS
          clear HF10 eR eG eN eX eU eS HFind x0 x1 x2 x3 x4 x5
          obtain ⟨LR, hLR⟩ : ∃ LR, openR a d2 s = LR := ⟨_, rfl⟩
          obtain ⟨OV, hOV⟩ : ∃ OV, openV a d2 s = OV := ⟨_, rfl⟩
          obtain ⟨OS, hOS⟩ : ∃ OS, str (openS d2 s) = OS := ⟨_, rfl⟩
          rw [hLR] at HF10h HRl HL9 ⊢
          rw [hOV] at HF10h HES HLog9
          rw [hOS] at HF10h ⊢
          clear hLR hOV hOS
          have hb10 : Below w9.heap.size w9 w9.drew := (Below.refl _ _).drew
          refine wp_region_held_drew (S := fun w' => Below w9.heap.size w9 w') (by kernel_rfl) hb10 (fun hHeld => ?_)
          have HB10 := Lib.hid hb10
          clear hb10
          generalize w9.drew = w10 at *
          refine wpAnyH_take (i := 0) (oi := { dst := some 89, op := Op.move (Operand.tmp 13), type := 34, pos := "law.go:146", after := #[], guard := none }) (v := .nilIface) rfl (by kernel_rfl) (by kernel_rfl) (by kernel_rfl) (fun _ _ _ h => h) (Or.inl ⟨by rfl, fun w hS => by go_simp⟩) hHeld ?_
          try simp only [Act.put, List.setIfInBounds_toArray, List.set_cons_zero, List.set_cons_succ]
          refine wpAnyH_take (i := 1) (oi := { dst := some 90, op := Op.binOp BinOp.eql 34 (Operand.tmp 89) (Operand.const Value.nilIface) 34, type := 4, pos := "law.go:146", after := #[{ on := 0, ground := Ground.data }], guard := none }) (v := .bool true) rfl (by kernel_rfl) (by kernel_rfl) (by kernel_rfl) (fun _ _ _ h => h) (Or.inl ⟨by rfl, fun w hS => by go_simp⟩) hHeld ?_
          try simp only [Act.put, List.setIfInBounds_toArray, List.set_cons_zero, List.set_cons_succ]
          refine wpAnyH_take (i := 2) (oi := { dst := some 91, op := Op.move (Operand.tmp 90), type := 4, pos := "law.go:146", after := #[{ on := 1, ground := Ground.data }], guard := none }) (v := .bool true) rfl (by kernel_rfl) (by kernel_rfl) (by kernel_rfl) (fun _ _ _ h => h) (Or.inl ⟨by rfl, fun w hS => by go_simp⟩) hHeld ?_
          try simp only [Act.put, List.setIfInBounds_toArray, List.set_cons_zero, List.set_cons_succ]
          refine wpAnyH_take (i := 3) (oi := { dst := some 92, op := Op.move (Operand.tmp 10), type := 32, pos := "law.go:146", after := #[{ on := 2, ground := Ground.guard }], guard := some (2, true) }) (v := .pointer (some ⟨b, 0, none⟩)) rfl (by kernel_rfl) (by kernel_rfl) (by kernel_rfl) (fun _ _ _ h => h) (Or.inl ⟨by rfl, fun w hS => by go_simp⟩) hHeld ?_
          try simp only [Act.put, List.setIfInBounds_toArray, List.set_cons_zero, List.set_cons_succ]
          refine wpAnyH_take (i := 4) (oi := { dst := some 93, op := Op.move (Operand.tmp 11), type := 9, pos := "law.go:146", after := #[{ on := 2, ground := Ground.guard }], guard := some (2, true) }) (v := .string OS) rfl (by kernel_rfl) (by kernel_rfl) (by kernel_rfl) (fun _ _ _ h => h) (Or.inl ⟨by rfl, fun w hS => by go_simp⟩) hHeld ?_
          try simp only [Act.put, List.setIfInBounds_toArray, List.set_cons_zero, List.set_cons_succ]
          refine wpAnyH_take (i := 5) (oi := { dst := some 94, op := Op.move (Operand.tmp 12), type := 27, pos := "law.go:146", after := #[{ on := 2, ground := Ground.guard }], guard := some (2, true) }) (v := .slice A9 LR.length c9) rfl (by kernel_rfl) (by kernel_rfl) (by kernel_rfl) (fun _ _ _ h => h) (Or.inl ⟨by rfl, fun w hS => by go_simp⟩) hHeld ?_
          try simp only [Act.put, List.setIfInBounds_toArray, List.set_cons_zero, List.set_cons_succ]
          refine wpAnyH_take (i := 6) (oi := { dst := some 95, op := Op.load 30 (Operand.tmp 8), type := 30, pos := "law.go:146", after := #[{ on := 2, ground := Ground.guard }], guard := some (2, true) }) (v := .agg #[.slice fA' k fc', .slice aA' d2.loose.length ac', .slice wA' d2.loose.length wc', .int .i64 d2.leftR, .bool d2.off]) rfl (by kernel_rfl) (by kernel_rfl) (by kernel_rfl) (fun _ _ _ h => h) (Or.inl ⟨by rfl, fun w hS => by obtain ⟨s0, s1, s2, s3, s4, _⟩ := HDk.out w hS; go_simp⟩) hHeld ?_
          try simp only [Act.put, List.setIfInBounds_toArray, List.set_cons_zero, List.set_cons_succ]
          refine wpAnyH_take (i := 7) (oi := { dst := some 96, op := Op.move (Operand.tmp 1), type := 3, pos := "law.go:146", after := #[{ on := 2, ground := Ground.guard }], guard := some (2, true) }) (v := .int .i64 s) rfl (by kernel_rfl) (by kernel_rfl) (by kernel_rfl) (fun _ _ _ h => h) (Or.inl ⟨by rfl, fun w hS => by go_simp⟩) hHeld ?_
          try simp only [Act.put, List.setIfInBounds_toArray, List.set_cons_zero, List.set_cons_succ]
          refine wpAnyH_take (i := 9) (oi := { dst := some 98, op := Op.load 30 (Operand.tmp 8), type := 30, pos := "law.go:146", after := #[{ on := 2, ground := Ground.guard }], guard := some (2, true) }) (v := .agg #[.slice fA' k fc', .slice aA' d2.loose.length ac', .slice wA' d2.loose.length wc', .int .i64 d2.leftR, .bool d2.off]) rfl (by kernel_rfl) (by kernel_rfl) (by kernel_rfl) (fun _ _ _ h => h) (Or.inl ⟨by rfl, fun w hS => by obtain ⟨s0, s1, s2, s3, s4, _⟩ := HDk.out w hS; go_simp⟩) hHeld ?_
          try simp only [Act.put, List.setIfInBounds_toArray, List.set_cons_zero, List.set_cons_succ]
          refine wpAnyH_take (i := 10) (oi := { dst := some 99, op := Op.move (Operand.tmp 1), type := 3, pos := "law.go:146", after := #[{ on := 2, ground := Ground.guard }], guard := some (2, true) }) (v := .int .i64 s) rfl (by kernel_rfl) (by kernel_rfl) (by kernel_rfl) (fun _ _ _ h => h) (Or.inl ⟨by rfl, fun w hS => by go_simp⟩) hHeld ?_
          try simp only [Act.put, List.setIfInBounds_toArray, List.set_cons_zero, List.set_cons_succ]
          refine wpAnyH_ready (rs := [8]) (by kernel_rfl) (by simp) ?_
          refine AllReadyH.cons (o := { dst := some 97, op := Op.call { callee := Callee.value (Operand.func 13), args := #[Operand.tmp 95, Operand.tmp 96], argTypes := #[30, 3] }, type := 38, pos := "law.go:146", after := #[{ on := 6, ground := Ground.data }, { on := 7, ground := Ground.data }, { on := 2, ground := Ground.chain }, { on := 2, ground := Ground.guard }], guard := some (2, true) }) rfl (fun K hK => ?_) AllReadyH.nil
          rw [if_pos (by rfl)]
          go_simp
          refine HF10h.out.mono ?_
          rintro e w11 ⟨Af, cf, rfl, hlf, hbf⟩
          have HB11 := Lib.hid (below_next HB10.out hbf)
          have HLf := Lib.hid hlf
          go_wp2_with fail
          clear hlf hbf
          refine hK.out _ _ HB11.out (fun hHeld1 => ?_)
          clear hK K
          try simp only [Act.put, List.setIfInBounds_toArray, List.set_cons_zero, List.set_cons_succ]
          refine wpAnyH_ready (rs := [11]) (by kernel_rfl) (by simp) ?_
          refine AllReadyH.cons (o := { dst := some 100, op := Op.call { callee := Callee.value (Operand.func 14), args := #[Operand.tmp 92, Operand.tmp 93, Operand.tmp 94, Operand.tmp 97, Operand.tmp 98, Operand.tmp 99], argTypes := #[32, 9, 27, 38, 30, 3] }, type := 4, pos := "law.go:146", after := #[{ on := 3, ground := Ground.data }, { on := 4, ground := Ground.data }, { on := 5, ground := Ground.data }, { on := 8, ground := Ground.data }, { on := 9, ground := Ground.data }, { on := 10, ground := Ground.data }, { on := 8, ground := Ground.chain }, { on := 2, ground := Ground.guard }], guard := some (2, true) }) rfl (fun K hK => ?_) AllReadyH.nil
          rw [if_pos (by rfl)]
          go_simp
          have hfo := Found_yes (c1 := c9) (c2 := cf) (fc := fc') (HLog9.out.later HB11.out) OS (HL9.out.next HB11.out) HLf.out HRl.out (.slice aA' d2.loose.length ac') (.slice wA' d2.loose.length wc') (.int .i64 d2.leftR) (.bool d2.off) (fA := fA')
          rw [HES.out, HCf.out.1.size] at hfo
          refine hfo.mono ?_
          rintro e w12 ⟨rfl, hb12⟩
          have HB12 := Lib.hid (below_next HB11.out hb12)
          go_wp2_with fail
          clear hb12 hfo
          refine hK.out _ _ HB12.out (fun hHeld2 => ?_)
          clear hK K
          try simp only [Act.put, List.setIfInBounds_toArray, List.set_cons_zero, List.set_cons_succ]
          refine wpAnyH_take (i := 12) (oi := { dst := some 101, op := Op.pick (Operand.tmp 91) (Operand.tmp 100) (Operand.const (Value.bool false)), type := 4, pos := "law.go:146", after := #[{ on := 2, ground := Ground.data }, { on := 11, ground := Ground.data }], guard := none }) (v := .bool true) rfl (by kernel_rfl) (by kernel_rfl) (by kernel_rfl) (fun _ _ _ h => h) (Or.inl ⟨by rfl, fun w hS => by go_simp⟩) hHeld2 ?_
          try simp only [Act.put, List.setIfInBounds_toArray, List.set_cons_zero, List.set_cons_succ]
          refine wpAnyH_take (i := 13) (oi := { dst := some 102, op := Op.move (Operand.tmp 101), type := 4, pos := "law.go:146", after := #[{ on := 12, ground := Ground.data }, { on := 11, ground := Ground.chain }], guard := none }) (v := .bool true) rfl (by kernel_rfl) (by kernel_rfl) (by kernel_rfl) (fun _ _ _ h => h) (Or.inl ⟨by rfl, fun w hS => by go_simp⟩) hHeld2 ?_
          try simp only [Act.put, List.setIfInBounds_toArray, List.set_cons_zero, List.set_cons_succ]
          refine wpAnyH_take (i := 14) (oi := { dst := some 103, op := Op.move (Operand.tmp 7), type := 25, pos := "law.go:146", after := #[{ on := 13, ground := Ground.guard }], guard := some (13, true) }) (v := .pointer (some ⟨a, 0, none⟩)) rfl (by kernel_rfl) (by kernel_rfl) (by kernel_rfl) (fun _ _ _ h => h) (Or.inl ⟨by rfl, fun w hS => by go_simp⟩) hHeld2 ?_
          try simp only [Act.put, List.setIfInBounds_toArray, List.set_cons_zero, List.set_cons_succ]
          refine wpAnyH_ready (rs := [15]) (by kernel_rfl) (by simp) ?_
          refine AllReadyH.cons (o := { dst := some 104, op := Op.call { callee := Callee.value (Operand.func 38), args := #[Operand.tmp 103], argTypes := #[25] }, type := 3, pos := "law.go:146", after := #[{ on := 14, ground := Ground.data }, { on := 13, ground := Ground.chain }, { on := 13, ground := Ground.guard }], guard := some (13, true) }) rfl (fun K hK => ?_) AllReadyH.nil
          rw [if_pos (by rfl)]
          go_simp
          have hlo2 := Loose_any (HO9.out.later HB12.out).disk
          rw [HCf.out.2] at hlo2
          refine hlo2.mono ?_
          rintro e w' ⟨rfl, rfl⟩
          go_wp2_with fail
          clear hlo2
          refine hK.out _ _ hHeld2 (fun hHeld3 => ?_)
          clear hK K
          try simp only [Act.put, List.setIfInBounds_toArray, List.set_cons_zero, List.set_cons_succ]
          refine wpAnyH_take (i := 16) (oi := { dst := some 105, op := Op.binOp BinOp.eql 3 (Operand.tmp 104) (Operand.const (Value.int IntKind.i64 0)) 3, type := 4, pos := "law.go:146", after := #[{ on := 15, ground := Ground.data }, { on := 13, ground := Ground.guard }], guard := some (13, true) }) (v := .bool true) rfl (by kernel_rfl) (by kernel_rfl) (by kernel_rfl) (fun _ _ _ h => h) (Or.inl ⟨by rfl, fun w hS => by go_simp⟩) hHeld3 ?_
          try simp only [Act.put, List.setIfInBounds_toArray, List.set_cons_zero, List.set_cons_succ]
          refine wpAnyH_take (i := 17) (oi := { dst := some 106, op := Op.pick (Operand.tmp 102) (Operand.tmp 105) (Operand.const (Value.bool false)), type := 4, pos := "law.go:146", after := #[{ on := 13, ground := Ground.data }, { on := 16, ground := Ground.data }], guard := none }) (v := .bool true) rfl (by kernel_rfl) (by kernel_rfl) (by kernel_rfl) (fun _ _ _ h => h) (Or.inl ⟨by rfl, fun w hS => by go_simp⟩) hHeld3 ?_
          try simp only [Act.put, List.setIfInBounds_toArray, List.set_cons_zero, List.set_cons_succ]
          refine wpAnyH_take (i := 18) (oi := { dst := some 107, op := Op.move (Operand.tmp 106), type := 4, pos := "law.go:146", after := #[{ on := 17, ground := Ground.data }, { on := 15, ground := Ground.chain }], guard := none }) (v := .bool true) rfl (by kernel_rfl) (by kernel_rfl) (by kernel_rfl) (fun _ _ _ h => h) (Or.inl ⟨by rfl, fun w hS => by go_simp⟩) hHeld3 ?_
          try simp only [Act.put, List.setIfInBounds_toArray, List.set_cons_zero, List.set_cons_succ]
          refine wpAnyH_ready (rs := [19]) (by kernel_rfl) (by simp) ?_
          refine AllReadyH.cons (o := { dst := some 108, op := Op.call { callee := Callee.value (Operand.func 32), args := #[], argTypes := #[] }, type := 4, pos := "law.go:146", after := #[{ on := 18, ground := Ground.chain }, { on := 18, ground := Ground.guard }], guard := some (18, true) }) rfl (fun K hK => ?_) AllReadyH.nil
          rw [if_pos (by rfl)]
          go_simp
          refine (awake6_any _).mono ?_
          rintro e w13 ⟨rfl, hb13⟩
          have HB13 := Lib.hid (below_next HB12.out hb13)
          go_wp2_with fail
          clear hb13
          refine hK.out _ _ HB13.out (fun hHeld4 => ?_)
          clear hK K
          try simp only [Act.put, List.setIfInBounds_toArray, List.set_cons_zero, List.set_cons_succ]
          refine wpAnyH_take (i := 20) (oi := { dst := some 109, op := Op.pick (Operand.tmp 107) (Operand.tmp 108) (Operand.const (Value.bool false)), type := 4, pos := "law.go:146", after := #[{ on := 18, ground := Ground.data }, { on := 19, ground := Ground.data }], guard := none }) (v := .bool true) rfl (by kernel_rfl) (by kernel_rfl) (by kernel_rfl) (fun _ _ _ h => h) (Or.inl ⟨by rfl, fun w hS => by go_simp⟩) hHeld4 ?_
          try simp only [Act.put, List.setIfInBounds_toArray, List.set_cons_zero, List.set_cons_succ]
          refine wpAnyH_take (i := 21) (oi := { dst := some 6, op := Op.assign (Operand.tmp 109), type := 4, pos := "law.go:146", after := #[{ on := 20, ground := Ground.data }, { on := 19, ground := Ground.chain }, { on := 0, ground := Ground.phase }, { on := 1, ground := Ground.phase }, { on := 2, ground := Ground.phase }, { on := 3, ground := Ground.phase }, { on := 4, ground := Ground.phase }, { on := 5, ground := Ground.phase }, { on := 6, ground := Ground.phase }, { on := 7, ground := Ground.phase }, { on := 8, ground := Ground.phase }, { on := 9, ground := Ground.phase }, { on := 10, ground := Ground.phase }, { on := 11, ground := Ground.phase }, { on := 12, ground := Ground.phase }, { on := 13, ground := Ground.phase }, { on := 14, ground := Ground.phase }, { on := 15, ground := Ground.phase }, { on := 16, ground := Ground.phase }, { on := 17, ground := Ground.phase }, { on := 18, ground := Ground.phase }, { on := 19, ground := Ground.phase }, { on := 20, ground := Ground.phase }], guard := none }) (v := .bool true) rfl (by kernel_rfl) (by kernel_rfl) (by kernel_rfl) (fun _ _ _ h => h) (Or.inl ⟨by rfl, fun w hS => by go_simp⟩) hHeld4 ?_
          try simp only [Act.put, List.setIfInBounds_toArray, List.set_cons_zero, List.set_cons_succ]
          refine wpAnyH_done (by kernel_rfl) ?_ _
          have HEnd := Lib.hid (HO9.out.later HB13.out).bel
          go_wp2_with fail
          go_ret
          exact ⟨rfl, HEnd.out⟩
    · have q1 : decide ((i : Int) < (len : Int)) = false := by rw [decide_eq_false_iff_not]; omega
      have HL0 := Lib.hid hlo
      go_wp2_with fail
      refine (Flush_any HO.out.disk (by omega)).mono ?_
      intro e w5 h5
      obtain ⟨rfl, F5, hop5⟩ := HO.out.did h5
      have HO5 := Lib.hid hop5
      clear h5 hop5
      obtain ⟨x0, x1, x2, x3, x4, x5⟩ := HO5.out.x.cells
      go_wp2_with fail
      refine (RefFlush_any HO5.out.ok HO5.out.ref (by omega)).mono ?_
      intro e w7 h7
      obtain ⟨fA', fc', aA', ac', wA', wc', rfl, hb7, hop7⟩ := HO5.out.ask HO5.out.ok.flushD HO5.out.tru.flushD h7
      have HO7 := Lib.hid hop7
      have HX7 := Lib.hid (HO5.out.x.below hb7 (heap_lt HO5.out.x))
      have HCf := Lib.hid HC.out.flush
      clear x0 x1 x2 x3 x4 x5
      obtain ⟨x0, x1, x2, x3, x4, x5⟩ := HX7.out.cells
      generalize d.flushD = d2 at *
      generalize d.flushE = E2 at *
      clear h7 hop7 hb7
      go_wp2_with fail
      clear x0 x1 x2 x3 x4 x5
      generalize ((((w7.setCell ⟨X, 0, none⟩ (.slice fA' d2.firm.length fc')).setCell ⟨X, 1, none⟩ (.slice aA' d2.loose.length ac')).setCell ⟨X, 2, none⟩ (.slice wA' d2.loose.length wc')).setCell ⟨X, 3, none⟩ (.int .i64 d2.leftR)).setCell ⟨X, 4, none⟩ (.bool d2.off) = w8 at *
      have HFl : Hid (d2.firm.length = k) := Lib.hid (HO7.out.ok.len.trans HCf.out.1.size)
      cases hf : fitsE k slot with
      | false =>
        have HNo := Lib.hid (Open_nofit HO7.out.disk slot (by rw [HCf.out.1.size]; exact hf))
        have HFit := Lib.hid (fun w' => by
          have t := DocFits_any (k : Int) slot w'
          rw [fits_same hk2, hf] at t
          exact t)
        clear hf
        refine HNo.out.mono ?_
        rintro e w9 ⟨b, rfl, hfb, hb9⟩
        have HO9 := Lib.hid (HO7.out.later hb9)
        have HFb := Lib.hid hfb
        clear hfb hb9
        obtain ⟨x0, x1, x2, x3, x4, x5⟩ := HO9.out.x.cells
        rw [HFl.out] at x0
        go_wp2_with fail
        refine (HFit.out _).mono ?_
        rintro e w' ⟨rfl, rfl⟩
        go_wp2_with fail
        refine (num_fault b openW 1 (HGg.out.below HO9.out.bel HGg.out.pos) HFb.out).mono ?_
        rintro e w10 ⟨rfl, hb10⟩
        have HB10 := Lib.hid (HO9.out.bel.trans (hb10.mono HO9.out.bel.size))
        clear hb10
        go_wp2_with fail
        refine (awake6_any _).mono ?_
        rintro e w11 ⟨rfl, hb11⟩
        have HB11 := Lib.hid (HB10.out.trans (hb11.mono HB10.out.size))
        clear hb11
        go_wp2_with fail
        go_ret
        exact ⟨rfl, HB11.out⟩
      | true =>
        have HFit := Lib.hid (fun w' => by
          have t := DocFits_any (k : Int) slot w'
          rw [fits_same hk2, hf] at t
          exact t)
        unfold fitsE at hf
        rw [decide_eq_true_iff] at hf
        obtain ⟨s, rfl⟩ := Int.eq_ofNat_of_zero_le (show 0 ≤ slot by omega)
        have hs2 : 2 ≤ s := by omega
        have hsf : 2 * s + 3 ≤ d2.seen.length := by rw [HCf.out.1.size]; omega
        have HX32 := Lib.hid (seen_32 HO7.out.disk)
        have HOpen := Lib.hid (Open_ok HO7.out.disk s HCf.out.1.off hs2 hsf)
        have HFind := Lib.hid (fun w' F' fA'' fc'' aA'' ac'' wA'' wc'' (ho : OpSt W w' F' a X d2 d2 fA'' fc'' aA'' ac'' wA'' wc'') => DocFind_any (fc := fc'') (ac := ac'') (wc := wc'') ho.ok ho.tru ho.ref (by rw [HCf.out.2]; simp) d2.leftR s hs2 hsf HCf.out.1.off HX32.out)
        clear hf hsf
        refine HOpen.out.mono ?_
        rintro e w9 ⟨b, A9, c9, rfl, hl9, _, hlog9, hb9, _⟩
        have HO9 := Lib.hid (HO7.out.later hb9)
        have HL9 := Lib.hid hl9
        have HLog9 := Lib.hid hlog9
        clear hl9 hlog9 hb9
        obtain ⟨x0, x1, x2, x3, x4, x5⟩ := HO9.out.x.cells
        rw [HFl.out] at x0
        go_wp2_with fail
        refine (HFit.out _).mono ?_
        rintro e w' ⟨rfl, rfl⟩
        go_wp2_with fail
        have HDk := Lib.hid (fun w' (hb : Below w9.heap.size w9 w') => by
          have t := (HO9.out.x.below hb (heap_lt HO9.out.x)).cells
          rw [HFl.out] at t
          exact t)
        have HRl : Hid ((openR a d2 s).length ≤ 9223372036854775807) := Lib.hid (by have t := scan_len d2.seen d2.seen.length (slotV a d2 s); have e := HCf.out.1.size; unfold openR; omega)
        obtain ⟨eR, eG, eN, eX, eU, eS⟩ := open_disk a d2 s
        have HO10 := Lib.hid (HO9.out.later (Below.refl _ _).drew)
        have HF10 := HFind.out w9.drew F5 fA' fc' aA' ac' wA' wc' HO10.out
        rw [HFl.out] at HF10
        unfold FindEnd at HF10
        rw [eR, eG, eN, eX, eU] at HF10
        have HF10h := Lib.hid HF10
        have HES := Lib.hid eS
        clear HF10 eR eG eN eX eU eS HFind x0 x1 x2 x3 x4 x5
        obtain ⟨LR, hLR⟩ : ∃ LR, openR a d2 s = LR := ⟨_, rfl⟩
        obtain ⟨OV, hOV⟩ : ∃ OV, openV a d2 s = OV := ⟨_, rfl⟩
        obtain ⟨OS, hOS⟩ : ∃ OS, str (openS d2 s) = OS := ⟨_, rfl⟩
        rw [hLR] at HF10h HRl HL9 ⊢
        rw [hOV] at HF10h HES HLog9
        rw [hOS] at HF10h ⊢
        clear hLR hOV hOS
        have hb10 : Below w9.heap.size w9 w9.drew := (Below.refl _ _).drew
        refine wp_region_held_drew (S := fun w' => Below w9.heap.size w9 w') (by kernel_rfl) hb10 (fun hHeld => ?_)
        have HB10 := Lib.hid hb10
        clear hb10
        generalize w9.drew = w10 at *
        refine wpAnyH_take (i := 0) (oi := { dst := some 89, op := Op.move (Operand.tmp 13), type := 34, pos := "law.go:146", after := #[], guard := none }) (v := .nilIface) rfl (by kernel_rfl) (by kernel_rfl) (by kernel_rfl) (fun _ _ _ h => h) (Or.inl ⟨by rfl, fun w hS => by go_simp⟩) hHeld ?_
        try simp only [Act.put, List.setIfInBounds_toArray, List.set_cons_zero, List.set_cons_succ]
        refine wpAnyH_take (i := 1) (oi := { dst := some 90, op := Op.binOp BinOp.eql 34 (Operand.tmp 89) (Operand.const Value.nilIface) 34, type := 4, pos := "law.go:146", after := #[{ on := 0, ground := Ground.data }], guard := none }) (v := .bool true) rfl (by kernel_rfl) (by kernel_rfl) (by kernel_rfl) (fun _ _ _ h => h) (Or.inl ⟨by rfl, fun w hS => by go_simp⟩) hHeld ?_
        try simp only [Act.put, List.setIfInBounds_toArray, List.set_cons_zero, List.set_cons_succ]
        refine wpAnyH_take (i := 2) (oi := { dst := some 91, op := Op.move (Operand.tmp 90), type := 4, pos := "law.go:146", after := #[{ on := 1, ground := Ground.data }], guard := none }) (v := .bool true) rfl (by kernel_rfl) (by kernel_rfl) (by kernel_rfl) (fun _ _ _ h => h) (Or.inl ⟨by rfl, fun w hS => by go_simp⟩) hHeld ?_
        try simp only [Act.put, List.setIfInBounds_toArray, List.set_cons_zero, List.set_cons_succ]
        refine wpAnyH_take (i := 3) (oi := { dst := some 92, op := Op.move (Operand.tmp 10), type := 32, pos := "law.go:146", after := #[{ on := 2, ground := Ground.guard }], guard := some (2, true) }) (v := .pointer (some ⟨b, 0, none⟩)) rfl (by kernel_rfl) (by kernel_rfl) (by kernel_rfl) (fun _ _ _ h => h) (Or.inl ⟨by rfl, fun w hS => by go_simp⟩) hHeld ?_
        try simp only [Act.put, List.setIfInBounds_toArray, List.set_cons_zero, List.set_cons_succ]
        refine wpAnyH_take (i := 4) (oi := { dst := some 93, op := Op.move (Operand.tmp 11), type := 9, pos := "law.go:146", after := #[{ on := 2, ground := Ground.guard }], guard := some (2, true) }) (v := .string OS) rfl (by kernel_rfl) (by kernel_rfl) (by kernel_rfl) (fun _ _ _ h => h) (Or.inl ⟨by rfl, fun w hS => by go_simp⟩) hHeld ?_
        try simp only [Act.put, List.setIfInBounds_toArray, List.set_cons_zero, List.set_cons_succ]
        refine wpAnyH_take (i := 5) (oi := { dst := some 94, op := Op.move (Operand.tmp 12), type := 27, pos := "law.go:146", after := #[{ on := 2, ground := Ground.guard }], guard := some (2, true) }) (v := .slice A9 LR.length c9) rfl (by kernel_rfl) (by kernel_rfl) (by kernel_rfl) (fun _ _ _ h => h) (Or.inl ⟨by rfl, fun w hS => by go_simp⟩) hHeld ?_
        try simp only [Act.put, List.setIfInBounds_toArray, List.set_cons_zero, List.set_cons_succ]
        refine wpAnyH_take (i := 6) (oi := { dst := some 95, op := Op.load 30 (Operand.tmp 8), type := 30, pos := "law.go:146", after := #[{ on := 2, ground := Ground.guard }], guard := some (2, true) }) (v := .agg #[.slice fA' k fc', .slice aA' d2.loose.length ac', .slice wA' d2.loose.length wc', .int .i64 d2.leftR, .bool d2.off]) rfl (by kernel_rfl) (by kernel_rfl) (by kernel_rfl) (fun _ _ _ h => h) (Or.inl ⟨by rfl, fun w hS => by obtain ⟨s0, s1, s2, s3, s4, _⟩ := HDk.out w hS; go_simp⟩) hHeld ?_
        try simp only [Act.put, List.setIfInBounds_toArray, List.set_cons_zero, List.set_cons_succ]
        refine wpAnyH_take (i := 7) (oi := { dst := some 96, op := Op.move (Operand.tmp 1), type := 3, pos := "law.go:146", after := #[{ on := 2, ground := Ground.guard }], guard := some (2, true) }) (v := .int .i64 s) rfl (by kernel_rfl) (by kernel_rfl) (by kernel_rfl) (fun _ _ _ h => h) (Or.inl ⟨by rfl, fun w hS => by go_simp⟩) hHeld ?_
        try simp only [Act.put, List.setIfInBounds_toArray, List.set_cons_zero, List.set_cons_succ]
        refine wpAnyH_take (i := 9) (oi := { dst := some 98, op := Op.load 30 (Operand.tmp 8), type := 30, pos := "law.go:146", after := #[{ on := 2, ground := Ground.guard }], guard := some (2, true) }) (v := .agg #[.slice fA' k fc', .slice aA' d2.loose.length ac', .slice wA' d2.loose.length wc', .int .i64 d2.leftR, .bool d2.off]) rfl (by kernel_rfl) (by kernel_rfl) (by kernel_rfl) (fun _ _ _ h => h) (Or.inl ⟨by rfl, fun w hS => by obtain ⟨s0, s1, s2, s3, s4, _⟩ := HDk.out w hS; go_simp⟩) hHeld ?_
        try simp only [Act.put, List.setIfInBounds_toArray, List.set_cons_zero, List.set_cons_succ]
        refine wpAnyH_take (i := 10) (oi := { dst := some 99, op := Op.move (Operand.tmp 1), type := 3, pos := "law.go:146", after := #[{ on := 2, ground := Ground.guard }], guard := some (2, true) }) (v := .int .i64 s) rfl (by kernel_rfl) (by kernel_rfl) (by kernel_rfl) (fun _ _ _ h => h) (Or.inl ⟨by rfl, fun w hS => by go_simp⟩) hHeld ?_
        try simp only [Act.put, List.setIfInBounds_toArray, List.set_cons_zero, List.set_cons_succ]
        refine wpAnyH_ready (rs := [8]) (by kernel_rfl) (by simp) ?_
        refine AllReadyH.cons (o := { dst := some 97, op := Op.call { callee := Callee.value (Operand.func 13), args := #[Operand.tmp 95, Operand.tmp 96], argTypes := #[30, 3] }, type := 38, pos := "law.go:146", after := #[{ on := 6, ground := Ground.data }, { on := 7, ground := Ground.data }, { on := 2, ground := Ground.chain }, { on := 2, ground := Ground.guard }], guard := some (2, true) }) rfl (fun K hK => ?_) AllReadyH.nil
        rw [if_pos (by rfl)]
        go_simp
        refine HF10h.out.mono ?_
        rintro e w11 ⟨Af, cf, rfl, hlf, hbf⟩
        have HB11 := Lib.hid (below_next HB10.out hbf)
        have HLf := Lib.hid hlf
        go_wp2_with fail
        clear hlf hbf
        refine hK.out _ _ HB11.out (fun hHeld1 => ?_)
        clear hK K
        try simp only [Act.put, List.setIfInBounds_toArray, List.set_cons_zero, List.set_cons_succ]
        refine wpAnyH_ready (rs := [11]) (by kernel_rfl) (by simp) ?_
        refine AllReadyH.cons (o := { dst := some 100, op := Op.call { callee := Callee.value (Operand.func 14), args := #[Operand.tmp 92, Operand.tmp 93, Operand.tmp 94, Operand.tmp 97, Operand.tmp 98, Operand.tmp 99], argTypes := #[32, 9, 27, 38, 30, 3] }, type := 4, pos := "law.go:146", after := #[{ on := 3, ground := Ground.data }, { on := 4, ground := Ground.data }, { on := 5, ground := Ground.data }, { on := 8, ground := Ground.data }, { on := 9, ground := Ground.data }, { on := 10, ground := Ground.data }, { on := 8, ground := Ground.chain }, { on := 2, ground := Ground.guard }], guard := some (2, true) }) rfl (fun K hK => ?_) AllReadyH.nil
        rw [if_pos (by rfl)]
        go_simp
        have hfo := Found_yes (c1 := c9) (c2 := cf) (fc := fc') (HLog9.out.later HB11.out) OS (HL9.out.next HB11.out) HLf.out HRl.out (.slice aA' d2.loose.length ac') (.slice wA' d2.loose.length wc') (.int .i64 d2.leftR) (.bool d2.off) (fA := fA')
        rw [HES.out, HCf.out.1.size] at hfo
        refine hfo.mono ?_
        rintro e w12 ⟨rfl, hb12⟩
        have HB12 := Lib.hid (below_next HB11.out hb12)
        go_wp2_with fail
        clear hb12 hfo
        refine hK.out _ _ HB12.out (fun hHeld2 => ?_)
        clear hK K
        try simp only [Act.put, List.setIfInBounds_toArray, List.set_cons_zero, List.set_cons_succ]
        refine wpAnyH_take (i := 12) (oi := { dst := some 101, op := Op.pick (Operand.tmp 91) (Operand.tmp 100) (Operand.const (Value.bool false)), type := 4, pos := "law.go:146", after := #[{ on := 2, ground := Ground.data }, { on := 11, ground := Ground.data }], guard := none }) (v := .bool true) rfl (by kernel_rfl) (by kernel_rfl) (by kernel_rfl) (fun _ _ _ h => h) (Or.inl ⟨by rfl, fun w hS => by go_simp⟩) hHeld2 ?_
        try simp only [Act.put, List.setIfInBounds_toArray, List.set_cons_zero, List.set_cons_succ]
        refine wpAnyH_take (i := 13) (oi := { dst := some 102, op := Op.move (Operand.tmp 101), type := 4, pos := "law.go:146", after := #[{ on := 12, ground := Ground.data }, { on := 11, ground := Ground.chain }], guard := none }) (v := .bool true) rfl (by kernel_rfl) (by kernel_rfl) (by kernel_rfl) (fun _ _ _ h => h) (Or.inl ⟨by rfl, fun w hS => by go_simp⟩) hHeld2 ?_
        try simp only [Act.put, List.setIfInBounds_toArray, List.set_cons_zero, List.set_cons_succ]
        refine wpAnyH_take (i := 14) (oi := { dst := some 103, op := Op.move (Operand.tmp 7), type := 25, pos := "law.go:146", after := #[{ on := 13, ground := Ground.guard }], guard := some (13, true) }) (v := .pointer (some ⟨a, 0, none⟩)) rfl (by kernel_rfl) (by kernel_rfl) (by kernel_rfl) (fun _ _ _ h => h) (Or.inl ⟨by rfl, fun w hS => by go_simp⟩) hHeld2 ?_
        try simp only [Act.put, List.setIfInBounds_toArray, List.set_cons_zero, List.set_cons_succ]
        refine wpAnyH_ready (rs := [15]) (by kernel_rfl) (by simp) ?_
        refine AllReadyH.cons (o := { dst := some 104, op := Op.call { callee := Callee.value (Operand.func 38), args := #[Operand.tmp 103], argTypes := #[25] }, type := 3, pos := "law.go:146", after := #[{ on := 14, ground := Ground.data }, { on := 13, ground := Ground.chain }, { on := 13, ground := Ground.guard }], guard := some (13, true) }) rfl (fun K hK => ?_) AllReadyH.nil
        rw [if_pos (by rfl)]
        go_simp
        have hlo2 := Loose_any (HO9.out.later HB12.out).disk
        rw [HCf.out.2] at hlo2
        refine hlo2.mono ?_
        rintro e w' ⟨rfl, rfl⟩
        go_wp2_with fail
        clear hlo2
        refine hK.out _ _ hHeld2 (fun hHeld3 => ?_)
        clear hK K
        try simp only [Act.put, List.setIfInBounds_toArray, List.set_cons_zero, List.set_cons_succ]
        refine wpAnyH_take (i := 16) (oi := { dst := some 105, op := Op.binOp BinOp.eql 3 (Operand.tmp 104) (Operand.const (Value.int IntKind.i64 0)) 3, type := 4, pos := "law.go:146", after := #[{ on := 15, ground := Ground.data }, { on := 13, ground := Ground.guard }], guard := some (13, true) }) (v := .bool true) rfl (by kernel_rfl) (by kernel_rfl) (by kernel_rfl) (fun _ _ _ h => h) (Or.inl ⟨by rfl, fun w hS => by go_simp⟩) hHeld3 ?_
        try simp only [Act.put, List.setIfInBounds_toArray, List.set_cons_zero, List.set_cons_succ]
        refine wpAnyH_take (i := 17) (oi := { dst := some 106, op := Op.pick (Operand.tmp 102) (Operand.tmp 105) (Operand.const (Value.bool false)), type := 4, pos := "law.go:146", after := #[{ on := 13, ground := Ground.data }, { on := 16, ground := Ground.data }], guard := none }) (v := .bool true) rfl (by kernel_rfl) (by kernel_rfl) (by kernel_rfl) (fun _ _ _ h => h) (Or.inl ⟨by rfl, fun w hS => by go_simp⟩) hHeld3 ?_
        try simp only [Act.put, List.setIfInBounds_toArray, List.set_cons_zero, List.set_cons_succ]
        refine wpAnyH_take (i := 18) (oi := { dst := some 107, op := Op.move (Operand.tmp 106), type := 4, pos := "law.go:146", after := #[{ on := 17, ground := Ground.data }, { on := 15, ground := Ground.chain }], guard := none }) (v := .bool true) rfl (by kernel_rfl) (by kernel_rfl) (by kernel_rfl) (fun _ _ _ h => h) (Or.inl ⟨by rfl, fun w hS => by go_simp⟩) hHeld3 ?_
        try simp only [Act.put, List.setIfInBounds_toArray, List.set_cons_zero, List.set_cons_succ]
        refine wpAnyH_ready (rs := [19]) (by kernel_rfl) (by simp) ?_
        refine AllReadyH.cons (o := { dst := some 108, op := Op.call { callee := Callee.value (Operand.func 32), args := #[], argTypes := #[] }, type := 4, pos := "law.go:146", after := #[{ on := 18, ground := Ground.chain }, { on := 18, ground := Ground.guard }], guard := some (18, true) }) rfl (fun K hK => ?_) AllReadyH.nil
        rw [if_pos (by rfl)]
        go_simp
        refine (awake6_any _).mono ?_
        rintro e w13 ⟨rfl, hb13⟩
        have HB13 := Lib.hid (below_next HB12.out hb13)
        go_wp2_with fail
        clear hb13
        refine hK.out _ _ HB13.out (fun hHeld4 => ?_)
        clear hK K
        try simp only [Act.put, List.setIfInBounds_toArray, List.set_cons_zero, List.set_cons_succ]
        refine wpAnyH_take (i := 20) (oi := { dst := some 109, op := Op.pick (Operand.tmp 107) (Operand.tmp 108) (Operand.const (Value.bool false)), type := 4, pos := "law.go:146", after := #[{ on := 18, ground := Ground.data }, { on := 19, ground := Ground.data }], guard := none }) (v := .bool true) rfl (by kernel_rfl) (by kernel_rfl) (by kernel_rfl) (fun _ _ _ h => h) (Or.inl ⟨by rfl, fun w hS => by go_simp⟩) hHeld4 ?_
        try simp only [Act.put, List.setIfInBounds_toArray, List.set_cons_zero, List.set_cons_succ]
        refine wpAnyH_take (i := 21) (oi := { dst := some 6, op := Op.assign (Operand.tmp 109), type := 4, pos := "law.go:146", after := #[{ on := 20, ground := Ground.data }, { on := 19, ground := Ground.chain }, { on := 0, ground := Ground.phase }, { on := 1, ground := Ground.phase }, { on := 2, ground := Ground.phase }, { on := 3, ground := Ground.phase }, { on := 4, ground := Ground.phase }, { on := 5, ground := Ground.phase }, { on := 6, ground := Ground.phase }, { on := 7, ground := Ground.phase }, { on := 8, ground := Ground.phase }, { on := 9, ground := Ground.phase }, { on := 10, ground := Ground.phase }, { on := 11, ground := Ground.phase }, { on := 12, ground := Ground.phase }, { on := 13, ground := Ground.phase }, { on := 14, ground := Ground.phase }, { on := 15, ground := Ground.phase }, { on := 16, ground := Ground.phase }, { on := 17, ground := Ground.phase }, { on := 18, ground := Ground.phase }, { on := 19, ground := Ground.phase }, { on := 20, ground := Ground.phase }], guard := none }) (v := .bool true) rfl (by kernel_rfl) (by kernel_rfl) (by kernel_rfl) (fun _ _ _ h => h) (Or.inl ⟨by rfl, fun w hS => by go_simp⟩) hHeld4 ?_
        try simp only [Act.put, List.setIfInBounds_toArray, List.set_cons_zero, List.set_cons_succ]
        refine wpAnyH_done (by kernel_rfl) ?_ _
        have HEnd := Lib.hid (HO9.out.later HB13.out).bel
        go_wp2_with fail
        go_ret
        exact ⟨rfl, HEnd.out⟩
end Go.Proofs.YtjeabnlmanfplaaGreatDoor

namespace Go.Proofs.YtjeabnlmanfplaaGreatDoor
open Go.RowKit

set_option maxHeartbeats 1600000 in
set_option maxRecDepth 100000 in
theorem Open_nil (slot : Int) (w : World) : Calls Tryz.prog 12 #[.pointer none, .int .i64 slot] w (OpenNo 1 w) := by
  have HFit : Hid (fitsE 0 slot = false) := Lib.hid (by unfold fitsE; rw [decide_eq_false_iff_not]; omega)
  go_enter Tryz.func12, Tryz.ntmps12
  go_wp2_with fail
  refine (Size_nil _).mono ?_
  rintro e w' ⟨rfl, rfl⟩
  go_wp2_with fail
  refine (fits_any 0 _ _ (by omega)).mono ?_
  rw [HFit.out]
  rintro e w' ⟨rfl, rfl⟩
  go_wp2_with fail
  refine (fault_no openW 1 (by decide) _).mono ?_
  rintro e w2 ⟨rfl, hw2⟩
  have HE : Hid (OpenNo 1 w (.returned (.tuple #[.pointer none, .string ByteArray.empty, .slice none 0 0, .iface 74 (.pointer (some ⟨w.heap.size, 0, none⟩))])) w2) := Lib.hid ⟨w.heap.size, rfl, by rw [hw2]; exact heap_alloc_new _ _, by rw [hw2]; exact (Below.refl _ _).alloc (Nat.le_refl _) _⟩
  clear hw2
  go_wp2_with fail
  (try simp only [Exit.inBlock, Exit.then])
  exact bodyPost_ret (v := .tuple #[.pointer none, .string ByteArray.empty, .slice none 0 0, .iface 74 (.pointer (some ⟨w.heap.size, 0, none⟩))]) (by simp [results, Tryz.results12, go_sem]; rfl) rfl HE.out

theorem RefFlush_void (L : Int) (w : World) : Calls Tryz.prog 36 #[.agg #[.slice none 0 0, .slice none 0 0, .slice none 0 0, .int .i64 L, .bool false]] w fun e w' => e = .returned (.tuple #[.agg #[.slice none 0 0, .slice none 0 0, .slice none 0 0, .int .i64 L, .bool false], .int .i64 7]) ∧ Below w.heap.size w w' := by
  go_enter Tryz.func36, Tryz.ntmps36
  go_wp2
  exact bodyPost_ret (v := .tuple #[.agg #[.slice none 0 0, .slice none 0 0, .slice none 0 0, .int .i64 L, .bool false], .int .i64 7]) (by simp [results, Tryz.results36, go_sem]) rfl ⟨rfl, ((Below.refl _ _).alloc (Nat.le_refl _) _).alloc (by simp) _⟩

theorem docFits_void (slot : Int) : docFits 0 slot = false := by
  unfold docFits
  rw [Bool.eq_false_iff]
  intro h
  simp at h
  omega

set_option maxHeartbeats 8000000 in
set_option maxRecDepth 100000 in
theorem WalOpens_void {W : World} (hg : ErrCell W) (n slot : Int) (hn : n < 1) (A : Option Addr) (len cap : Nat) :
    Calls Tryz.prog 4 #[.int .i64 n, .int .i64 slot, .slice A len cap] W fun e w' => e = .returned (.bool true) ∧ Below W.heap.size W w' := by
  have HGg := Lib.hid hg
  have hn24 : decide ((24 : Int) < n) = false := by rw [decide_eq_false_iff_not]; omega
  have q2 : decide ((0 : Int) < n) = false := by rw [decide_eq_false_iff_not]; omega
  have HNew := Lib.hid (fun w' => New_no n w' (.inl hn))
  have HRN := Lib.hid (fun w' => RefNew_no n w' (.inl hn))
  have HFit := Lib.hid (fun w' => by
    have t := DocFits_any 0 slot w'
    rw [docFits_void] at t
    exact t)
  clear hg hn
  by_cases hl0 : 0 < len
  · have q1 : decide ((0 : Int) < (len : Int)) = true := by rw [decide_eq_true_iff]; omega
    go_enter Tryz.func4, Tryz.ntmps4
    go_wp2_with fail
    refine (HNew.out _).mono ?_
    rintro e w' ⟨rfl, rfl⟩
    go_wp2_with fail
    refine (HRN.out _).mono ?_
    rintro e w2 ⟨rfl, hb2⟩
    have HF := Lib.hid (Five.new w2 (.slice none 0 0) (.slice none 0 0) (.slice none 0 0) (.int .i64 (-1)) (.bool false))
    have HB := Lib.hid ((hb2).alloc hb2.size (.cells #[.slice none 0 0, .slice none 0 0, .slice none 0 0, .int .i64 (-1), .bool false] 30))
    have hXW : W.heap.size ≤ w2.heap.size := hb2.size
    clear hb2
    go_wp2_with fail
    generalize w2.alloc (.cells #[.slice none 0 0, .slice none 0 0, .slice none 0 0, .int .i64 (-1), .bool false] 30) = w3 at *
    generalize w2.heap.size = X at *
    refine wp_loop_rounds 1 ?_
    rw [rounds_succ]
    go_wp2_with fail
    refine (Flush_nil _).mono ?_
    rintro e w' ⟨rfl, rfl⟩
    obtain ⟨x0, x1, x2, x3, x4, x5⟩ := HF.out.cells
    go_wp2_with fail
    refine (RefFlush_void (-1) _).mono ?_
    rintro e w5 ⟨rfl, hb5⟩
    have HF5 := Lib.hid (HF.out.below hb5 (heap_lt HF.out))
    have HB5 := Lib.hid (HB.out.trans (hb5.mono HB.out.size))
    clear hb5 x0 x1 x2 x3 x4 x5
    obtain ⟨x0, x1, x2, x3, x4, x5⟩ := HF5.out.cells
    have HF6 := Lib.hid (((((HF5.out.set0 (.slice none 0 0)).set1 (.slice none 0 0)).set2 (.slice none 0 0)).set3 (.int .i64 (-1))).set4 (.bool false))
    have HB6 := Lib.hid (((((HB5.out.setCell (p := ⟨X, 0, none⟩) hXW (.slice none 0 0)).setCell (p := ⟨X, 1, none⟩) hXW (.slice none 0 0)).setCell (p := ⟨X, 2, none⟩) hXW (.slice none 0 0)).setCell (p := ⟨X, 3, none⟩) hXW (.int .i64 (-1))).setCell (p := ⟨X, 4, none⟩) hXW (.bool false))
    go_wp2_with fail
    clear x0 x1 x2 x3 x4 x5
    generalize ((((w5.setCell ⟨X, 0, none⟩ (.slice none 0 0)).setCell ⟨X, 1, none⟩ (.slice none 0 0)).setCell ⟨X, 2, none⟩ (.slice none 0 0)).setCell ⟨X, 3, none⟩ (.int .i64 (-1))).setCell ⟨X, 4, none⟩ (.bool false) = w6 at *
    refine (Open_nil slot _).mono ?_
    rintro e w9 ⟨b, rfl, hfb, hb9⟩
    have HF9 := Lib.hid (HF6.out.below hb9 (heap_lt HF6.out))
    have HB9 := Lib.hid (HB6.out.trans (hb9.mono HB6.out.size))
    have HFb := Lib.hid hfb
    clear hfb hb9
    obtain ⟨x0, x1, x2, x3, x4, x5⟩ := HF9.out.cells
    go_wp2_with fail
    refine (HFit.out _).mono ?_
    rintro e w' ⟨rfl, rfl⟩
    go_wp2_with fail
    refine (num_fault b openW 1 (HGg.out.below HB9.out HGg.out.pos) HFb.out).mono ?_
    rintro e w10 ⟨rfl, hb10⟩
    have HB10 := Lib.hid (HB9.out.trans (hb10.mono HB9.out.size))
    clear hb10
    go_wp2_with fail
    refine (awake6_any _).mono ?_
    rintro e w11 ⟨rfl, hb11⟩
    have HB11 := Lib.hid (HB10.out.trans (hb11.mono HB10.out.size))
    clear hb11
    go_wp2_with fail
    go_ret
    exact ⟨rfl, HB11.out⟩
  · have q1 : decide ((0 : Int) < (len : Int)) = false := by rw [decide_eq_false_iff_not]; omega
    go_enter Tryz.func4, Tryz.ntmps4
    go_wp2_with fail
    refine (HNew.out _).mono ?_
    rintro e w' ⟨rfl, rfl⟩
    go_wp2_with fail
    refine (HRN.out _).mono ?_
    rintro e w2 ⟨rfl, hb2⟩
    have HF := Lib.hid (Five.new w2 (.slice none 0 0) (.slice none 0 0) (.slice none 0 0) (.int .i64 (-1)) (.bool false))
    have HB := Lib.hid ((hb2).alloc hb2.size (.cells #[.slice none 0 0, .slice none 0 0, .slice none 0 0, .int .i64 (-1), .bool false] 30))
    have hXW : W.heap.size ≤ w2.heap.size := hb2.size
    clear hb2
    go_wp2_with fail
    generalize w2.alloc (.cells #[.slice none 0 0, .slice none 0 0, .slice none 0 0, .int .i64 (-1), .bool false] 30) = w3 at *
    generalize w2.heap.size = X at *
    refine wp_loop_rounds 1 ?_
    rw [rounds_succ]
    go_wp2_with fail
    refine (Flush_nil _).mono ?_
    rintro e w' ⟨rfl, rfl⟩
    obtain ⟨x0, x1, x2, x3, x4, x5⟩ := HF.out.cells
    go_wp2_with fail
    refine (RefFlush_void (-1) _).mono ?_
    rintro e w5 ⟨rfl, hb5⟩
    have HF5 := Lib.hid (HF.out.below hb5 (heap_lt HF.out))
    have HB5 := Lib.hid (HB.out.trans (hb5.mono HB.out.size))
    clear hb5 x0 x1 x2 x3 x4 x5
    obtain ⟨x0, x1, x2, x3, x4, x5⟩ := HF5.out.cells
    have HF6 := Lib.hid (((((HF5.out.set0 (.slice none 0 0)).set1 (.slice none 0 0)).set2 (.slice none 0 0)).set3 (.int .i64 (-1))).set4 (.bool false))
    have HB6 := Lib.hid (((((HB5.out.setCell (p := ⟨X, 0, none⟩) hXW (.slice none 0 0)).setCell (p := ⟨X, 1, none⟩) hXW (.slice none 0 0)).setCell (p := ⟨X, 2, none⟩) hXW (.slice none 0 0)).setCell (p := ⟨X, 3, none⟩) hXW (.int .i64 (-1))).setCell (p := ⟨X, 4, none⟩) hXW (.bool false))
    go_wp2_with fail
    clear x0 x1 x2 x3 x4 x5
    generalize ((((w5.setCell ⟨X, 0, none⟩ (.slice none 0 0)).setCell ⟨X, 1, none⟩ (.slice none 0 0)).setCell ⟨X, 2, none⟩ (.slice none 0 0)).setCell ⟨X, 3, none⟩ (.int .i64 (-1))).setCell ⟨X, 4, none⟩ (.bool false) = w6 at *
    refine (Open_nil slot _).mono ?_
    rintro e w9 ⟨b, rfl, hfb, hb9⟩
    have HF9 := Lib.hid (HF6.out.below hb9 (heap_lt HF6.out))
    have HB9 := Lib.hid (HB6.out.trans (hb9.mono HB6.out.size))
    have HFb := Lib.hid hfb
    clear hfb hb9
    obtain ⟨x0, x1, x2, x3, x4, x5⟩ := HF9.out.cells
    go_wp2_with fail
    refine (HFit.out _).mono ?_
    rintro e w' ⟨rfl, rfl⟩
    go_wp2_with fail
    refine (num_fault b openW 1 (HGg.out.below HB9.out HGg.out.pos) HFb.out).mono ?_
    rintro e w10 ⟨rfl, hb10⟩
    have HB10 := Lib.hid (HB9.out.trans (hb10.mono HB9.out.size))
    clear hb10
    go_wp2_with fail
    refine (awake6_any _).mono ?_
    rintro e w11 ⟨rfl, hb11⟩
    have HB11 := Lib.hid (HB10.out.trans (hb11.mono HB10.out.size))
    clear hb11
    go_wp2_with fail
    go_ret
    exact ⟨rfl, HB11.out⟩
theorem WalOpens_walk {W : World} (hg : ErrCell W) (n slot : Int) {A : Option Addr} {cap : Nat} {ts : List ByteArray} (hA : Lies W W.heap.size A (ts.map Value.string)) (hz : ∀ t ∈ ts, t.size ≤ 9223372036854775807) :
    Calls Tryz.prog 4 #[.int .i64 n, .int .i64 slot, .slice A ts.length cap] W fun e w' => e = .returned (.bool true) ∧ Below W.heap.size W w' := by
  by_cases h1 : n < 1
  · exact WalOpens_void hg n slot h1 A ts.length cap
  · by_cases h2 : 24 < n
    · have hn24 : decide ((24 : Int) < n) = true := decide_eq_true h2
      clear hA hz h1 h2
      go_enter Tryz.func4, Tryz.ntmps4
      go_wp2_with fail
      refine (awake6_any _).mono ?_
      rintro e w4 ⟨rfl, hb4⟩
      replace hb4 := Lib.hid hb4
      go_wp2_with fail
      go_ret
      exact ⟨rfl, hb4.out⟩
    · obtain ⟨k, rfl⟩ := Int.eq_ofNat_of_zero_le (show 0 ≤ n by omega)
      exact WalOpens_some hg k slot (by omega) (by omega) hA hz
end Go.Proofs.YtjeabnlmanfplaaGreatDoor

namespace Go.Proofs.YtjeabnlmanfplaaGreatDoor
open Go.ChangeShapes Go.WideShapes Go.RowKit

theorem laid6_et : Tryz.prog.globalNamed "errors.errorType" = some 0 := by kernel_rfl
theorem laid6_rt : (Tryz.prog.cutTypes.find? (·.1 == "internal/reflectlite.rtype")).map (·.2) = some 156 := by kernel_rfl
theorem laid6_oneRow : ((List.range 238).filter fun t => Tryz.prog.rowNamed t [101, 114, 114, 111, 114]) = [34] := by kernel_rfl
theorem laid6_size : Tryz.prog.types.size = 238 := by kernel_rfl

/-- The variable's one cell, out of the condition. -/
theorem errCell_of_laid {W : World} (h : laidMetH Tryz.prog Rows.walFaultsRow.laid W) : ErrCell W := by
  have h' : laidMet Tryz.prog (Rows.walFaultsRow.laid.filter fun x => x.2.handleName?.isNone) W ∧ handlesMet Tryz.prog [("errors.errorType", Rows.laid_errors_errorType)] W := h
  obtain ⟨name, u, ty, e1, e2, e3, e4, e5⟩ := h'.2 _ (List.mem_singleton.2 rfl)
  have en : name = [101, 114, 114, 111, 114] := (Option.some.inj e1).symm
  subst en
  obtain rfl := Option.some.inj (laid6_rt.symm.trans e2)
  have hm : ty ∈ (List.range 238).filter fun t => Tryz.prog.rowNamed t [101, 114, 114, 111, 114] := List.mem_filter.2 ⟨List.mem_range.2 (by rw [← laid6_size]; exact e3), e4⟩
  rw [laid6_oneRow] at hm
  obtain rfl := List.mem_singleton.1 hm
  have hh : typeHandle Tryz.prog 34 = .pointer (some ⟨4, 34, none⟩) := by kernel_rfl
  rw [hh] at e5
  show W.cell? ⟨0, 0, none⟩ = _
  simpa using World.var?_cell laid6_et e5 0

/-- The settled world, the handle laid. -/
noncomputable def handWorld (os : Os) : World :=
  let w0 := World.holding Tryz.prog os ⟨#[], #[], []⟩
  { w0 with heap := w0.heap.modify 0 fun
      | .cells _ t frozen => .cells #[.iface 156 (.agg #[.pointer (some ⟨4, 34, none⟩)])] t frozen
      | o => o }
/-- The two tables. -/
def tables6 : List (String × DataW Unit) := Rows.walFaultsRow.laid.filter fun x => x.2.handleName?.isNone
/-- A world that meets the condition. -/
noncomputable def laidWorld6 (os : Os) : World := (handWorld os).layVars Tryz.prog tables6
theorem laidWorld6_os (os : Os) : (laidWorld6 os).os = os := World.layVars_os _ _ _

theorem laid_all_of {P : Program} {w0 w' : World} {laid : List (String × DataW Unit)} (hh : w'.heap = (w0.layVars P laid).heap) (hf : w0.layFits P laid [] = true) (hi : w0.layIfaces P laid w' = true) : laidMet P laid w' := by
  have e1 : (laid.filter fun x => (laid.map (·.1)).contains x.1) = laid := List.filter_eq_self.2 fun x hx => List.contains_iff_mem.2 (List.mem_map.2 ⟨x, hx, rfl⟩)
  have e2 : (laid.filter fun x => !(laid.map (·.1)).contains x.1) = [] := List.filter_eq_nil_iff.2 fun x hx => by rw [List.contains_iff_mem.2 (List.mem_map.2 ⟨x, hx, rfl⟩)]; simp
  exact laidMet_layVars (laid.map (·.1)) [] (by rw [e1]; exact hh) (by rw [e1]; exact hf) (by rw [e1]; exact hi) (by rw [e2]; exact LaidIn.none)

theorem laidWorld6_met (os : Os) (args : Array Value) : laidMetH Tryz.prog Rows.walFaultsRow.laid ((laidWorld6 os).forCall (fun _ _ => 0) ⟨#[], args, []⟩).memory := by
  refine laidMetH_of_parts ?_ ?_
  · have h : laidMet Tryz.prog tables6 (laidWorld6 os) := laid_all_of rfl (by kernel_rfl) (by kernel_rfl)
    exact h.of_heap (by simp [World.memory, World.forCall, Input.heap])
  · kernel_rfl
end Go.Proofs.YtjeabnlmanfplaaGreatDoor
namespace Go.Proofs.YtjeabnlmanfplaaGreatDoor
open Go.ChangeShapes Go.WideShapes Go.ChangeAt Go.RowKit
open Go.ChangeMaps (open_string shut_string)
set_option linter.unusedVariables false

section
variable {H : Type} {enc : TypeId × Value → H} {w : World}
theorem open_texts {n : Nat} {A : Option Addr} {len cap : Nat} {y : DataW H × List MemPlace} (h : DataW.trod enc Tryz.prog w 0 (fun _ => true) true n 27 [.slice A len cap] = some y) :
    len ≤ 9223372036854775807 ∧ ∃ bs : List ByteArray, bs.length = len ∧ Lies w w.heap.size A (bs.map Value.string) ∧ ∀ t ∈ bs, t.size ≤ 9223372036854775807 := by
  rcases open_strings Tryz.underlying27 Tryz.underlying9 (by kernel_rfl) h with ⟨hcs, _⟩ | ⟨x, l, c, ss, hcs, _, hl, hm, hz, hx, hcell, hws⟩
  · simp only [List.cons.injEq, Value.slice.injEq, and_true] at hcs
    obtain ⟨rfl, rfl, rfl⟩ := hcs
    exact ⟨by omega, [], rfl, .inl rfl, by simp⟩
  · simp only [List.cons.injEq, Value.slice.injEq, and_true] at hcs
    obtain ⟨rfl, rfl, rfl⟩ := hcs
    have hz' : ss.length = cap := by simpa using hz
    refine ⟨by unfold maxLen at hm; omega, ss.take len, by rw [List.length_take]; omega, ?_, fun t ht => by have := hws t (List.mem_of_mem_take ht); unfold maxLen at this; omega⟩
    by_cases h0 : len = 0
    · subst h0; exact .inl (by simp)
    · have h1 := hcell 0 (by omega)
      have ha : x.add 0 = x := by cases x; simp [Addr.add]
      rw [ha] at h1
      have e := plain_addr h1
      refine .inr ⟨x.block, x.off, by rw [← e], World.block_lt_of_cell? w _ h1, fun i hi => ?_⟩
      have hi' : i < len ∧ i < ss.length := by rw [List.length_map, List.length_take] at hi; omega
      have h2 := hcell i hi'.2
      rw [e, WideShapes.add_plain] at h2
      rw [h2]
      simp [List.getD, List.getElem?_eq_getElem hi'.2]
end

theorem walOpens_own : ownKnob Tryz.prog.godebug = none := by kernel_rfl
theorem walOpens_laidOut : laidOutB Tryz.prog = true := by kernel_rfl

set_option maxRecDepth 100000 in
theorem walOpens_lifted (os : Os) (started : os.Started) (H : Type) (enc : TypeId × Value → H) :
    ReturnsInHanded {} Tryz.checked os 4 .any (fun w args => (Rows.walOpensSpec.pre enc Tryz.prog Tryz.f4 Rows.walOpensRow.domain false w args ∧ laidMetH Tryz.prog Rows.walOpensRow.laid w) ∧ sizedMet enc Tryz.prog Tryz.f4 (OpenSpec.ofChange Rows.walOpensSpec) false w args)
      (Rows.walOpensSpec.post enc Tryz.prog Tryz.f4 false true false false) := by
  refine returnsInHanded_of_change_and (C := Tryz.checked) (X := fun w _ => laidMetH Tryz.prog Rows.walOpensRow.laid w) (fun _ _ _ hh h => h.of_heap hh) walOpens_own started (by kernel_rfl) Tryz.func4
    (ChangeSpec.witness_shaped (enc := enc) (C := Tryz.checked) (os := os) (X := fun w _ => laidMetH Tryz.prog Rows.walOpensRow.laid w) false (laidWorld6 os) #[.int .i64 0, .int .i64 0, .slice none 0 0] 8 (laidWorld6_os _)
      (World.shaped_of_ZipB (by kernel_rfl) (by kernel_rfl)) (by kernel_rfl) (by kernel_rfl) (by kernel_rfl)
      (laidWorld6_met os _)) ?_
  intro W base args ds gs before hval0 hW hcnd hsz0 hL _
  have hval : ∀ (j : Nat) t v, Tryz.f4.params[j]? = some t → args[j]? = some v → Value.okWide Tryz.prog W .any base t v := hval0
  have hW' := hW
  obtain ⟨p, q, hA0, hV, rfl, hfz, hnd⟩ := hW
  have hA : DataW.TrodAll enc Tryz.prog W 0 (fun _ => true) true Tryz.f4.params.toList args.toList ds p := hA0
  rw [Tryz.params4] at hA hval
  obtain ⟨v0, vs0, d0, ds0, p0, q0, hargs, rfl, rfl, h0, r0⟩ := trodAll_cons hA
  obtain ⟨v1, vs1, d1, ds1, p1, q1, rfl, rfl, rfl, h1, r1⟩ := trodAll_cons r0
  obtain ⟨v2, vs2, d2, ds2, p2, q2, rfl, rfl, rfl, h2, r2⟩ := trodAll_cons r1
  obtain ⟨rfl, rfl, rfl⟩ := trodAll_nil r2
  obtain rfl : args = #[v0, v1, v2] := by cases args; simp_all
  obtain ⟨rfl, rfl⟩ := trodVars_none hV
  obtain ⟨a0, rfl, rfl, rfl, w0⟩ := open_int Tryz.underlying3 (hval 0 3 v0 rfl rfl) h0
  obtain ⟨a1, rfl, rfl, rfl, w1⟩ := open_int Tryz.underlying3 (hval 1 3 v1 rfl rfl) h1
  obtain ⟨a2, len2, cap2, rfl⟩ := okWide_slice Tryz.underlying27 (hval 2 27 v2 rfl rfl)
  have k2 := h2
  have lt2 : ∀ x ∈ p2, x.block < W.heap.size := by obtain ⟨m, hm⟩ := k2; exact DataW.trod_lt m _ _ _ hm
  obtain ⟨fuel2, hf2⟩ := h2
  obtain ⟨y2, z2, e2, u2, x2⟩ := open_texts hf2
  subst e2
  have hg := errCell_of_laid hL
  clear hA0 hval0 hsz0
  refine (WalOpens_walk hg a0 a1 u2 x2).mono fun e W' ⟨he, bel⟩ => ?_
  subst he
  exact ⟨_, rfl, _, _, _, [], _, [], hW', trodAll_mk1 (shut_bool Tryz.underlying4 _), (trodAll_cons_mk (shut_int Tryz.underlying3 w0) (trodAll_cons_mk (shut_int Tryz.underlying3 w1) (trodAll_cons_mk (Below.trod walOpens_laidOut (by kernel_rfl) (of_decide_eq_true (by kernel_rfl)) k2 bel lt2) trodAll_mk0))), rfl, bel.frame _, fun h => by cases h⟩

/-- The row. -/
theorem walOpens_holds : Rows.WalOpensSaid :=
  OpenClaim.holds_of_wide 4 Tryz.f4 rfl rfl rfl rfl rfl rfl rfl ⟨rfl, rfl, rfl, rfl, rfl⟩ rfl rfl rfl rfl rfl (by kernel_rfl) Tryz.func4 (by kernel_rfl)
    (of_decide_eq_true (by kernel_rfl)) (by unfold Func.isWrapper; first | (rw [if_pos (by decide +kernel)]; kernel_rfl) | (rw [if_neg (by decide +kernel)]; exact ⟨rfl, rfl⟩))
    (fun os started H enc _ => walOpens_lifted os started H enc)
/-- The statement: the tied card. -/
theorem walOpens_card : Rows.WalOpensCardSaid :=
  Claim7.holds_tied_plain_at .later [] [.data, .handle, .pinned] true (Rows.walOpensCard.stood.harness) true walOpens_holds (fun _ h => by cases h) (by kernel_rfl) (fun _ h => by cases h) walOpens_row_tie rfl ⟨rfl, rfl⟩ (by kernel_rfl) rfl
    (fun f fn hf hfn => by
      obtain rfl : f = 4 := Option.some.inj ((show Tryz.prog.funcNamed "counterfoil/counterfoillaw06.WalOpens" = some 4 by kernel_rfl).symm.trans hf) |>.symm
      obtain rfl : fn = Tryz.f4 := (Option.some.inj (Tryz.func4.symm.trans hfn)).symm
      exact ⟨by kernel_rfl, fun j t ht => by
        rw [Tryz.params4] at ht
        have hm : t ∈ [3, 3, 27] := by simpa using Array.mem_of_getElem? ht
        have hall : ([3, 3, 27].all fun u => !Tryz.prog.wantsStandIn u) = true := by kernel_rfl
        exact (show Tryz.prog.wantsStandIn t = false by simpa using List.all_eq_true.1 hall t hm)⟩)
    (by kernel_rfl)
end Go.Proofs.YtjeabnlmanfplaaGreatDoor
