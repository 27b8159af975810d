/- Contracts of Check and Apply of the package vols. -/
import Derived.Test.YtpmllckfijfehaaVolT
import Derived.Test.YtpmllckfijfehaaVolV
import Derived.StillTailTactics
namespace Go.Proofs.Ytpmllckfijfehaa
open Go.RowKit

set_option maxHeartbeats 1600000 in
theorem Check_any {w : World} {A A2 : Option Addr} {c c2 : Nat} {vs : List Vl} {ws : List Wr} (h : VolsAt w w.heap.size A vs) (hf : VolsFit vs) (h2 : WrsAt w w.heap.size A2 ws) (hl2 : ws.length ≤ 9223372036854775807) :
    Calls Try.prog 45 #[.slice A vs.length c, .slice A2 ws.length c2] w fun e w' => e = .returned (.int .i64 (checkE vs ws)) ∧ Below w.heap.size w w' := by
  have HV := Lib.hid h
  have HF := Lib.hid hf
  have HW := Lib.hid h2
  have hl := hf.1
  cases hr : rightB vs with
  | false =>
    rw [show checkE vs ws = 1 from by unfold checkE; rw [hr]; rfl]
    have HR := Lib.hid hr
    clear h hf hr h2
    go_enter Try.func45, Try.ntmps45
    go_wp2_with (go_at_call 48; refine (Right_any HV.out HF.out).mono ?_; rw [HR.out]; rintro e w1 ⟨rfl, hb⟩; replace hb := Lib.hid hb)
    go_ret
    exact ⟨rfl, hb.out⟩
  | true =>
    rw [checkE_right hr]
    have HR := Lib.hid hr
    have HG : Hid (∀ vol block, gotE vs vol block = locE vs vol block) := Lib.hid (fun vol block => gotE_loc (rightB_good hr) vol block)
    obtain ⟨m, hm⟩ : ∃ m, ws.length = m := ⟨_, rfl⟩
    have HM := Lib.hid hm
    rw [hm] at hl2 ⊢
    clear h hf hr h2 hm
    go_enter Try.func45, Try.ntmps45
    go_wp2_with (go_at_call 48; refine (Right_any HV.out HF.out).mono ?_; rw [HR.out]; rintro e w1 ⟨rfl, hb⟩; replace hb := Lib.hid hb)
    go_loopw [14] (fun i wr => ∃ k : Nat, k ≤ m ∧ i = .int .i64 k ∧ Hid (chk vs ws = chk vs (ws.drop k)) ∧ Hid (Below w.heap.size w wr)) (fun i _ => m - (intOf i).toNat)
    case atStart => exact ⟨0, Nat.zero_le _, rfl, Lib.hid rfl, hb⟩
    case round =>
      clear hb
      obtain ⟨k, hk, rfl, HK, HB⟩ := hrel
      by_cases hlt : k < m
      · have hkl : k < ws.length := by rw [HM.out]; exact hlt
        obtain ⟨b, off, hA, hbl, x1, x2, x3⟩ := HW.out.at_ HB.out hkl
        have hwz : w.heap.size ≤ wr.heap.size := HB.out.size
        have hbw : b < wr.heap.size := by omega
        subst hA
        have HStep : Hid (chk vs ws = if locE vs ws[k].vol ws[k].block = 0 then (if shortB ws[k].data = true then chk vs (ws.drop (k + 1)) else 5) else locE vs ws[k].vol ws[k].block) := Lib.hid (by
          rw [HK.out, drop_at hkl, chk, HG.out])
        obtain ⟨x, hx⟩ : ∃ x, ws[k] = x := ⟨_, rfl⟩
        rw [hx] at x1 x2 x3 HStep
        clear hx hkl HK
        obtain ⟨vol, block, data⟩ := x
        simp only at x1 x2 x3 HStep
        have HSz := Lib.hid (HB.out.alloc hwz (.cells #[.int .i64 vol, .int .i64 block, .string data] 61))
        have HLC : Hid (∀ c, Calls Try.prog 56 #[.slice A vs.length c, .int .i64 vol, .int .i64 block] (wr.alloc (.cells #[.int .i64 vol, .int .i64 block, .string data] 61)) fun e w' => e = .returned (.tuple #[.int .i64 (locI vs vol block), .int .i64 (locE vs vol block)]) ∧ Below (wr.alloc (.cells #[.int .i64 vol, .int .i64 block, .string data] 61)).heap.size (wr.alloc (.cells #[.int .i64 vol, .int .i64 block, .string data] 61)) w') := Lib.hid (fun c => locate_any (HV.out.next HSz.out) hl vol block)
        have hx3 : Hid (∀ w2, Below (wr.alloc (.cells #[.int .i64 vol, .int .i64 block, .string data] 61)).heap.size (wr.alloc (.cells #[.int .i64 vol, .int .i64 block, .string data] 61)) w2 → w2.cell? ⟨wr.heap.size, 2, none⟩ = some (.string data)) := Lib.hid (fun w2 hb => by
          rw [hb.cell (p := ⟨wr.heap.size, 2, none⟩) (by simp), Lib.cell_of_heap (heap_alloc_new _ _)]; rfl)
        by_cases h0 : locE vs vol block = 0
        · rw [h0] at HLC HStep
          clear h0
          cases hs : shortB data with
          | true =>
            have HS := Lib.hid hs
            rw [hs] at HStep
            clear hs
            go_wp2_with (first
              | (go_at_call 56; refine (HLC.out _).mono ?_; rintro e w2 ⟨rfl, hb2⟩; have hx4 := hx3.out w2 hb2; have HB2 := Lib.hid (below_next HSz.out hb2); clear hb2)
              | (go_at_call 57; refine (isTooLong_any _ _).mono ?_; rw [HS.out]; rintro e w' ⟨rfl, rfl⟩))
            go_roundw
            case rel => exact ⟨k + 1, by omega, by go_num, Lib.hid (by rw [HStep.out]; rfl), HB2⟩
            case measure => simp [intOf]; omega
          | false =>
            have HS := Lib.hid hs
            rw [hs] at HStep
            clear hs
            go_wp2_with (first
              | (go_at_call 56; refine (HLC.out _).mono ?_; rintro e w2 ⟨rfl, hb2⟩; have hx4 := hx3.out w2 hb2; have HB2 := Lib.hid (below_next HSz.out hb2); clear hb2)
              | (go_at_call 57; refine (isTooLong_any _ _).mono ?_; rw [HS.out]; rintro e w' ⟨rfl, rfl⟩))
            go_ret
            exact ⟨by rw [HStep.out]; rfl, HB2.out⟩
        · have h0' : (locE vs vol block != 0) = true := by rw [bne_iff_ne]; exact h0
          rw [if_neg h0] at HStep
          clear h0
          obtain ⟨e8, he8⟩ : ∃ e8, locE vs vol block = e8 := ⟨_, rfl⟩
          rw [he8] at HLC h0' HStep
          clear he8
          go_wp2_with (go_at_call 56; refine (HLC.out _).mono ?_; rintro e w2 ⟨rfl, hb2⟩; have HB2 := Lib.hid (below_next HSz.out hb2); clear hb2)
          go_ret
          exact ⟨by rw [HStep.out]; rfl, HB2.out⟩
      · have HE : Hid (chk vs ws = 0) := Lib.hid (by rw [HK.out, List.drop_of_length_le (by rw [HM.out]; omega)]; rfl)
        go_wp2_with fail
        go_ret
        exact ⟨by rw [HE.out]; rfl, HB.out⟩

/-! ### Apply -/

/-- What the loop of Apply keeps. -/
structure ApplySt (w wr : World) (base : Nat) (v : Value) (vs : List Vl) : Prop where
  own : ∃ us, OwnV wr base v vs us
  bel : Below w.heap.size w wr
  low : w.heap.size ≤ base

theorem put1_at {vs : List Vl} {x : Wr} {k : Nat} (hk : findAt vs x.vol = k) (hlt : k < vs.length) : put1 vs x = vs.set k (vs[k].1, vs[k].2.set x.block.toNat x.data) := by
  unfold put1
  rw [hk]
  apply List.ext_getElem
  · simp
  · intro i h1 h2
    rw [List.getElem_modify, List.getElem_set]
    split
    · rename_i e; subst e; rfl
    · rfl

/-- One block of one volume is stored. -/
theorem OwnV.store {w : World} {base : Nat} {v : Value} {vs : List Vl} {us : List Value} (h : OwnV w base v vs us) {k j gu cu : Nat} (hk : k < vs.length) (hku : k < us.length) (hu : us[k] = .slice (some ⟨gu, 0, none⟩) vs[k].2.length cu) (s : ByteArray) :
    OwnV (w.setCell ⟨gu, j, none⟩ (.string s)) base v (vs.set k (vs[k].1, vs[k].2.set j s)) us := by
  have hown := h.each k hk hku
  rw [hu] at hown
  have hst := hown.stored j (.string s)
  have hgr := hst.2
  have hvg : v.ownBlock ≠ some gu := h.gap k hku gu (by rw [hu]; rfl)
  refine ⟨by simp [h.len], ?_, fun i h1 h2 => ?_, h.gap, h.apart⟩
  · have h1 := h.row.kept hgr (Or.inr hvg)
    have h2 := volCells_id h.len k (vs[k].1, vs[k].2.set j s)
    have h3 : (volCells vs us).set (k * 2) (.int .i64 vs[k].1) = volCells vs us := by
      apply List.ext_getElem?
      intro i
      by_cases e : k * 2 = i
      · subst e
        rw [volCells_fst h.len hk, List.getElem?_set_self (by rw [volCells_length h.len]; omega)]
      · rw [List.getElem?_set_ne e]
    simp only at h2
    rw [h3] at h2
    rw [← h2, List.length_set]
    exact h1
  · have h1' : i < vs.length := by simpa using h1
    by_cases e : k = i
    · subst e
      rw [List.getElem_set_self]
      simp only
      rw [hu, List.length_set, List.map_set]
      exact hst.1
    · rw [List.getElem_set_ne e]
      refine (h.each i h1' h2).kept hgr ?_
      cases hq : us[i].ownBlock with
      | none => exact Or.inl rfl
      | some b => exact Or.inr (fun e2 => by cases e2; exact h.apart k i hku h2 gu e (by rw [hu]; rfl) hq)

theorem ApplySt.step {w wr w2 : World} {base : Nat} {v : Value} {vs : List Vl} {us : List Value} (h : OwnV wr base v vs us) (hb : Below wr.heap.size wr w2) (hbel : Below w.heap.size w wr) (hlow : w.heap.size ≤ base) {k j gu cu : Nat} (hk : k < vs.length) (hku : k < us.length) (hu : us[k] = .slice (some ⟨gu, 0, none⟩) vs[k].2.length cu) (s : ByteArray) :
    ApplySt w (w2.setCell ⟨gu, j, none⟩ (.string s)) base v (vs.set k (vs[k].1, vs[k].2.set j s)) := by
  have h2 : OwnV w2 base v vs us := ⟨h.len, own_kept h.row hb, fun i h1 h2 => own_kept (h.each i h1 h2) hb, h.gap, h.apart⟩
  refine ⟨⟨us, h2.store hk hku hu s⟩, ?_, hlow⟩
  have hg := (h.each k hk hku).lt gu (by rw [hu]; rfl)
  exact (hbel.trans (hb.mono hbel.size)).setCell (by show w.heap.size ≤ gu; omega) _

set_option maxHeartbeats 4000000 in
set_option maxRecDepth 100000 in
theorem Apply_any {w : World} {A A2 : Option Addr} {c c2 : Nat} {vs : List Vl} {ws : List Wr} (h : VolsAt w w.heap.size A vs) (hf : VolsFit vs) (h2 : WrsAt w w.heap.size A2 ws) (hl2 : ws.length ≤ 9223372036854775807) :
    Calls Try.prog 30 #[.slice A vs.length c, .slice A2 ws.length c2] w (VolsEnd (applyV vs ws) (checkE vs ws) w) := by
  have HV := Lib.hid h
  have HF := Lib.hid hf
  have HW := Lib.hid h2
  have hl := hf.1
  have HCk : Hid (∀ c c2, Calls Try.prog 45 #[.slice A vs.length c, .slice A2 ws.length c2] w fun e w' => e = .returned (.int .i64 (checkE vs ws)) ∧ Below w.heap.size w w') := Lib.hid (fun c c2 => Check_any h hf h2 hl2)
  by_cases h0 : checkE vs ws = 0
  · obtain ⟨hr, hck, _⟩ := right_apply h0
    rw [applyV_ok h0, h0]
    rw [h0] at HCk
    obtain ⟨hs4, hs32⟩ := right_small hr
    have HCl : Hid (∀ w2 c, Below w.heap.size w w2 → Calls Try.prog 46 #[.slice A vs.length c] w2 (CloneEnd vs w2)) := Lib.hid (fun w2 c hb => clone_any (h.next hb) (by omega) (fun v hv => by have := hs32 v hv; omega))
    have HG := Lib.hid (rightB_good hr)
    have HCK := Lib.hid hck
    obtain ⟨m, hm⟩ : ∃ m, ws.length = m := ⟨_, rfl⟩
    have HM := Lib.hid hm
    rw [hm] at hl2 HCk ⊢
    clear h hf h2 h0 hr hck hs32 hm
    go_enter Try.func30, Try.ntmps30
    go_wp2_with (first
      | (go_at_call 45; refine (HCk.out _ _).mono ?_; rintro e w1 ⟨rfl, hb⟩; replace hb := Lib.hid hb)
      | (go_at_call 46; refine (HCl.out _ _ hb.out).mono ?_; rintro e w3 ⟨v, us, rfl, hO, hb3⟩; have HS0 := Lib.hid (ApplySt.mk (w := w) ⟨us, hO⟩ (below_next hb.out hb3) hb.out.size); obtain ⟨A1, c1, hv, hxx⟩ := own_lies hO.row; clear hO hb3 hxx us; subst hv))
    clear HCk HCl
    obtain ⟨base, hbase⟩ : ∃ base, w1.heap.size = base := ⟨_, rfl⟩
    rw [hbase] at HS0
    clear hbase hb
    obtain ⟨n, hn⟩ : ∃ n, vs.length = n := ⟨_, rfl⟩
    have HN := Lib.hid hn
    rw [hn] at hl hs4 HS0 ⊢
    clear hn
    go_loopw [22] (fun i wr => ∃ k : Nat, k ≤ m ∧ i = .int .i64 k ∧ Hid (ApplySt w wr base (.slice A1 n c1) ((ws.take k).foldl put1 vs))) (fun i _ => m - (intOf i).toNat)
    case atStart => exact ⟨0, Nat.zero_le _, rfl, HS0⟩
    case round =>
      clear HS0
      obtain ⟨k, hk, rfl, HS⟩ := hrel
      by_cases hlt : k < m
      · have hkl : k < ws.length := by rw [HM.out]; exact hlt
        obtain ⟨b, off, hA, hbl, x1, x2, x3⟩ := HW.out.at_ HS.out.bel hkl
        have hwz : w.heap.size ≤ wr.heap.size := HS.out.bel.size
        have hbw : b < wr.heap.size := by omega
        subst hA
        have hgot := chk_take HCK.out hkl
        have hfold : (ws.take (k + 1)).foldl put1 vs = put1 ((ws.take k).foldl put1 vs) ws[k] := by
          rw [List.take_succ_eq_append_getElem hkl, List.foldl_append]; rfl
        have HFold := Lib.hid hfold
        have hsh := shapes_foldl (ws.take k) vs
        have hloc : locE vs ws[k].vol ws[k].block = 0 := by rw [← gotE_loc HG.out]; exact hgot.1
        obtain ⟨x, hx⟩ : ∃ x, ws[k] = x := ⟨_, rfl⟩
        rw [hx] at x1 x2 x3 HFold hloc
        clear hx hkl hfold hgot
        obtain ⟨vol, block, data⟩ := x
        simp only at x1 x2 x3 hloc
        obtain ⟨cur, hcur⟩ : ∃ cur, (ws.take k).foldl put1 vs = cur := ⟨_, rfl⟩
        rw [hcur] at HS HFold hsh
        clear hcur
        have hlen : cur.length = n := by rw [shapes_length hsh, HN.out]
        obtain ⟨hhas, hfl, hb0, hb1⟩ := locE_zero hloc
        have hfs := findAt_shapes hsh vol
        have hhc : hasAt cur vol = true := by rw [hfs.2]; exact hhas
        obtain ⟨q, hq⟩ : ∃ q, findAt cur vol = q := ⟨_, rfl⟩
        have hqv : findAt vs vol = q := by rw [← hfs.1]; exact hq
        have hqc : q < cur.length := by rw [← hq]; exact hasAt_lt hhc
        have hbl2 : block < cur[q].2.length := by
          have e : (shapes cur)[q]? = (shapes vs)[q]? := by rw [hsh]
          have hqvl : q < vs.length := by rw [← shapes_length hsh]; exact hqc
          simp only [shapes, List.getElem?_map, List.getElem?_eq_getElem hqc, List.getElem?_eq_getElem hqvl, Option.map_some, Option.some.injEq, Prod.mk.injEq] at e
          rw [e.2]
          subst hqv
          exact hb1
        obtain ⟨j, rfl⟩ := Int.eq_ofNat_of_zero_le hb0
        have hS := HS.out
        obtain ⟨us, hO⟩ := hS.own
        rw [← hlen] at hO
        have hqu : q < us.length := by rw [hO.len]; exact hqc
        obtain ⟨gu, cu, hgu, _, hgw⟩ := (hO.each q hqc hqu).form (by omega)
        obtain ⟨g, cg, hv, _, hgw2⟩ := hO.row.form (by omega)
        simp only [Value.slice.injEq] at hv
        obtain ⟨rfl, _, rfl⟩ := hv
        have HSt : Hid (∀ w2, Below wr.heap.size wr w2 → ApplySt w (w2.setCell ⟨gu, j, none⟩ (.string data)) base (.slice (some ⟨g, 0, none⟩) n c1) ((ws.take (k + 1)).foldl put1 vs)) := Lib.hid (fun w2 hb => by
          have := ApplySt.step hO hb hS.bel hS.low hqc hqu hgu (j := j) data
          rw [hlen] at this
          rw [HFold.out, put1_at hq hqc, Int.toNat_natCast]
          exact this)
        have HCell : Hid (∀ w2, Below wr.heap.size wr w2 → w2.cell? ⟨g, q * 2 + 1, none⟩ = some (.slice (some ⟨gu, 0, none⟩) cur[q].2.length cu) ∧ (∃ old, w2.cell? ⟨gu, j, none⟩ = some old) ∧ w2.frozen? ⟨gu, j, none⟩ = false) := Lib.hid (fun w2 hb => by
          have r1 := own_kept hO.row hb
          have r2 := own_kept (hO.each q hqc hqu) hb
          rw [hgu] at r2
          refine ⟨?_, ?_, r2.frozenAt _⟩
          · rw [r1.cellAt _ (by omega), volCells_snd hO.len hqc, List.getElem?_eq_getElem hqu, hgu]
          · rw [r2.cellAt _ (by omega), List.getElem?_map, List.getElem?_eq_getElem (by omega)]
            exact ⟨_, rfl⟩)
        obtain ⟨A9, c9, hv9, hvol9⟩ := hO.vols
        rw [hlen] at hv9
        simp only [Value.slice.injEq] at hv9
        obtain ⟨rfl, _, rfl⟩ := hv9
        have HFind : Hid (∀ w2, Below wr.heap.size wr w2 → Calls Try.prog 47 #[.slice (some ⟨g, 0, none⟩) n c1, .int .i64 vol] w2 fun e w' => e = .returned (.tuple #[.int .i64 q, .bool true]) ∧ Below w2.heap.size w2 w') := Lib.hid (fun w2 hb => by
          have := find_any (c := c1) (hvol9.next hb) (by rw [hlen]; exact hl) vol
          rw [hlen, hq, hhc] at this
          exact this)
        obtain ⟨p, hp⟩ : ∃ p, cur[q].2.length = p := ⟨_, rfl⟩
        rw [hp] at HCell hbl2
        have hqn : q < n := by rw [← hlen]; exact hqc
        have hjp : j < p := by omega
        clear hp hb1 hb0 hloc hsh hlen hhas hfl hfs hhc hq hqv hO hS hqu hgu hvol9 hqc HFold HS us cur
        have HB1 : Hid (Below wr.heap.size wr (wr.alloc (.cells #[.int .i64 vol, .int .i64 j, .string data] 61))) := Lib.hid ((Below.refl _ _).alloc (Nat.le_refl _) _)
        have HX : Hid (∀ w2, Below (wr.alloc (.cells #[.int .i64 vol, .int .i64 j, .string data] 61)).heap.size (wr.alloc (.cells #[.int .i64 vol, .int .i64 j, .string data] 61)) w2 → w2.cell? ⟨wr.heap.size, 1, none⟩ = some (.int .i64 j) ∧ w2.cell? ⟨wr.heap.size, 2, none⟩ = some (.string data)) := Lib.hid (fun w2 hb => by
          rw [hb.cell (p := ⟨wr.heap.size, 1, none⟩) (by simp), hb.cell (p := ⟨wr.heap.size, 2, none⟩) (by simp), Lib.cell_of_heap (heap_alloc_new _ _), Lib.cell_of_heap (heap_alloc_new _ _)]; exact ⟨rfl, rfl⟩)
        go_wp2_with (go_at_call 47; refine (HFind.out _ HB1.out).mono ?_; rintro e w2 ⟨rfl, hb2⟩; obtain ⟨y1, y2⟩ := HX.out w2 hb2; have HB2 := Lib.hid (below_next HB1.out hb2); clear hb2; obtain ⟨z1, ⟨old, z2⟩, z3⟩ := HCell.out w2 HB2.out)
        have HS2 := Lib.hid (HSt.out w2.drew (⟨HB2.out.os, HB2.out.tape, HB2.out.output, HB2.out.size, HB2.out.block⟩))
        clear HFind HX HCell HSt HB1 HB2 x1 x2 x3
        have hq0 : (0 : Int) ≤ (q : Int) := Int.natCast_nonneg _
        have hq8 : (q : Int) < (n : Int) := by omega
        have hj0 : (0 : Int) ≤ (j : Int) := Int.natCast_nonneg _
        have hj8 : (j : Int) < (p : Int) := by omega
        go_still_tail 10, (by kernel_rfl)
        change wpList _ _ _ _ _ w2.drew
        have z2' : w2.drew.cell? ⟨gu, j, none⟩ = some old := z2
        have z3' : w2.drew.frozen? ⟨gu, j, none⟩ = false := z3
        clear y1 y2 z1 z2 z3
        generalize w2.drew = W2 at *
        go_wp2_with fail
        go_roundw
        case rel => exact ⟨k + 1, by omega, by go_num, HS2⟩
        case measure => simp [intOf]; omega
      · have HE : Hid (VolsEnd (ws.foldl put1 vs) 0 w (.returned (.tuple #[.slice A1 n c1, .int .i64 0])) wr) := Lib.hid (by
          have hS := HS.out
          rw [List.take_of_length_le (by rw [HM.out]; omega)] at hS
          obtain ⟨us, hO⟩ := hS.own
          have hlen : (ws.foldl put1 vs).length = n := by rw [shapes_length (shapes_foldl ws vs), HN.out]
          obtain ⟨A9, c9, hv9, hvol9⟩ := hO.vols
          rw [hlen] at hv9
          simp only [Value.slice.injEq] at hv9
          obtain ⟨rfl, _, rfl⟩ := hv9
          exact ⟨_, _, by rw [hlen], hvol9, hS.bel⟩)
        go_wp2_with fail
        go_ret2
        exact HE.out
  · rw [applyV_no h0]
    have h0' : (checkE vs ws != 0) = true := by rw [bne_iff_ne]; exact h0
    clear h hf h2 h0
    obtain ⟨e8, he8⟩ : ∃ e8, checkE vs ws = e8 := ⟨_, rfl⟩
    rw [he8] at HCk h0' ⊢
    clear he8
    go_enter Try.func30, Try.ntmps30
    go_wp2_with (go_at_call 45; refine (HCk.out _ _).mono ?_; rintro e w1 ⟨rfl, hb⟩; replace hb := Lib.hid hb)
    go_ret2
    exact VolsEnd.none_ _ hb.out
end Go.Proofs.Ytpmllckfijfehaa
