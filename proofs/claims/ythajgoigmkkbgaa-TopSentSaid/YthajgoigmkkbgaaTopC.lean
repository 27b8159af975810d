/- The laws through the layers: what stays where a list grows in place. Volumes that a call made lie in rows of their own. -/
import Derived.Test.YthajgoigmkkbgaaTopA
import Derived.Test.YthajgoigmkkbgaaVolsPartsW
import Derived.Maps.AppendAt
namespace Go.Proofs.Ythajgoigmkkbgaa
open Go.Shelf Go.RowKit Go.Lib Go.Sort

/-- A later world in which one row may have turned. -/
structure OffB (w w' : World) (g : Option Nat) : Prop where
  os : w'.os = w.os
  tape : w'.tape = w.tape
  output : w'.output = w.output
  size : w.heap.size ≤ w'.heap.size
  block : ∀ k, k < w.heap.size → some k ≠ g → w'.heap[k]? = w.heap[k]?
theorem OffB.of_grown {w w' : World} {g : Option Nat} (h : w.grownBy w' g) : OffB w w' g := ⟨h.os, h.tape, h.output, h.size, h.block⟩
theorem OffB.to_grown {w w' : World} {g : Option Nat} (h : OffB w w' g) : w.grownBy w' g := ⟨h.os, h.tape, h.output, h.size, h.block⟩
theorem OffB.of_below {w w' : World} {g : Option Nat} (h : Below w.heap.size w w') : OffB w w' g := ⟨h.os, h.tape, h.output, h.size, fun k hk _ => h.block k hk⟩
theorem OffB.below {w w' : World} (h : OffB w w' none) : Below w.heap.size w w' := ⟨h.os, h.tape, h.output, h.size, fun k hk => h.block k hk (by simp)⟩
theorem OffB.trans {w w2 w3 : World} {g : Option Nat} (h : OffB w w2 g) (h2 : OffB w2 w3 g) : OffB w w3 g :=
  ⟨h2.os.trans h.os, h2.tape.trans h.tape, h2.output.trans h.output, Nat.le_trans h.size h2.size, fun k hk hg => (h2.block k (Nat.lt_of_lt_of_le hk h.size) hg).trans (h.block k hk hg)⟩
/-- A row that is new at the second world, or the same. -/
theorem OffB.join {w w2 w3 : World} {g g2 : Option Nat} (h : OffB w w2 g) (h2 : OffB w2 w3 g2) (hn : g2 = g ∨ g2 = some w.heap.size) : OffB w w3 g :=
  ⟨h2.os.trans h.os, h2.tape.trans h.tape, h2.output.trans h.output, Nat.le_trans h.size h2.size, fun k hk hg => (h2.block k (Nat.lt_of_lt_of_le hk h.size) (by
    rcases hn with rfl | rfl
    · exact hg
    · intro e; simp only [Option.some.injEq] at e; omega)).trans (h.block k hk hg)⟩

/-- The volumes stay where they lie, whatever becomes of the row g. -/
def VolsOff (w : World) (g : Option Nat) (A : Option Addr) (vs : List Vl) : Prop := ∀ w', OffB w w' g → VolsAt w' w'.heap.size A vs
theorem VolsOff.at_ {w : World} {g : Option Nat} {A : Option Addr} {vs : List Vl} (h : VolsOff w g A vs) : VolsAt w w.heap.size A vs := h w (OffB.of_below (Below.refl _ _))
theorem VolsOff.none_ {w : World} {A : Option Addr} {vs : List Vl} (h : VolsAt w w.heap.size A vs) : VolsOff w none A vs := fun _ hb => h.next hb.below
theorem VolsOff.later {w w2 : World} {g : Option Nat} {A : Option Addr} {vs : List Vl} (h : VolsOff w g A vs) (hb : Below w.heap.size w w2) : VolsOff w2 g A vs := fun w' h' => h w' ((OffB.of_below hb).trans h')
theorem VolsOff.grown {w w2 : World} {g g2 : Option Nat} {A : Option Addr} {vs : List Vl} (h : VolsOff w g A vs) (hb : w.grownBy w2 g) (hn : g2 = g ∨ g2 = some w.heap.size) : VolsOff w2 g2 A vs :=
  fun w' h' => h w' ((OffB.of_grown hb).join h' hn)
theorem VolsOff.old {w w2 : World} {g : Option Nat} {A : Option Addr} {vs : List Vl} (h : VolsAt w w.heap.size A vs) (hb : Below w.heap.size w w2) (hg : ∀ k, g = some k → w.heap.size ≤ k) : VolsOff w2 g A vs :=
  fun w' h' => h.next ⟨h'.os.trans hb.os, h'.tape.trans hb.tape, h'.output.trans hb.output, Nat.le_trans hb.size h'.size, fun k hk => (h'.block k (Nat.lt_of_lt_of_le hk hb.size) (by
    intro e
    have := hg k e.symm
    omega)).trans (hb.block k hk)⟩
theorem OwnV.base_ {w : World} {base base' : Nat} {v : Value} {vs : List Vl} {us : List Value} (h : OwnV w base v vs us) (hb : base' ≤ base) : OwnV w base' v vs us :=
  ⟨h.len, own_base h.row hb, fun i h1 h2 => own_base (h.each i h1 h2) hb, h.gap, h.apart⟩
theorem own_off {w w' : World} {base : Nat} {g : Option Nat} {t : TypeId} {size : Nat} {v : Value} {n : Nat} {xs : List Value} (h : w.ownsRow base t size v n xs) (hb : OffB w w' g) (hg : ∀ k, g = some k → k < base) : w'.ownsRow base t size v n xs :=
  h.kept hb.to_grown (by
    cases hv : v.ownBlock with
    | none => exact Or.inl rfl
    | some k =>
      refine Or.inr (fun e => ?_)
      have h1 := (h.lt k hv).1
      have h2 := hg k e.symm
      omega)
theorem VolsOff.own {w : World} {base : Nat} {g : Option Nat} {A : Option Addr} {c : Nat} {vs : List Vl} {us : List Value} (h : OwnV w base (.slice A vs.length c) vs us) (hg : ∀ k, g = some k → k < base) : VolsOff w g A vs := fun w' hb => by
  have h2 : OwnV w' base (.slice A vs.length c) vs us := ⟨h.len, own_off h.row hb hg, fun i h1 h2 => own_off (h.each i h1 h2) hb hg, h.gap, h.apart⟩
  obtain ⟨A9, c9, e, hv⟩ := h2.vols
  simp only [Value.slice.injEq] at e
  obtain ⟨rfl, _, _⟩ := e
  exact hv

/-- An append of a slice that may be nil, and where the row lies then. -/
theorem wpList_append_rows_at {P : Program} {w : World} {ops : Array Oper} {rest : List Oper} {o : Oper} {a : Act} {Q : Exit → Act → World → Prop} (hgd : o.guard = none) (s x : Operand) (t : TypeId)
    (ho : o.op = .call { callee := .builtin .append, args := #[s, x], argTypes := #[t, t] })
    (base : Nat) (e : TypeId) (i : TypeInfo) (z : Value) (size bytes : Nat) (ht : P.underlying t = some (.slice e)) (hi : P.info? e = some i) (hz : i.zero = some z)
    (hsize : i.size = size) (hby : i.bytes = bytes) (hzs : z.cells.size = size) (hsz : 0 < size)
    (v : Value) (n : Nat) (xs : List Value) (hs : a.eval s = v) (hown : w.ownsRow base e size v n xs)
    (A : Option Addr) (m c : Nat) (news : List Value) (hx : a.eval x = .slice A m c) (hl : news.length = m * size) (B : Nat) (hlies : Lies w B A news) (hnil : A = none → c = 0) (h1 : ∀ u ∈ news, u.oneCell' = true)
    (h63 : n + m ≤ maxLen) (hbytes : (n + m) * bytes ≤ 140737488355328) (hbase : base ≤ w.heap.size)
    (h : ∀ v' w', w'.ownsRow base e size v' (n + m) (xs ++ news) → w.grownBy w' v.ownBlock → (v'.ownBlock = v.ownBlock ∨ v'.ownBlock = some w.heap.size) → wpList P ops Q rest (a.put o.dst v') w') : wpList P ops Q (o :: rest) a w := by
  cases A with
  | none =>
    have hne : news = [] := by
      rcases hlies with h | ⟨b, off, hA, _⟩
      · exact h
      · cases hA
    subst hne
    have hm0 : m = 0 := by
      have : m * size = 0 := by simpa using hl.symm
      rcases Nat.mul_eq_zero.1 this with h | h
      · exact h
      · omega
    subst hm0
    have hc := hnil rfl
    subst hc
    have hrun := run_append_owned_none (P := P) (w := w) base t o.type e i size ht hi v n xs hown
    refine wpList_plain hgd fun K hK => ?_
    unfold Oper.wp
    simp [execOp, ho, resolve, invoke, builtin, hs, hx, hrun, Result.andThen]
    exact hK _ _ (h v w (by simpa using hown) (grown_refl _ _) (Or.inl rfl))
  | some ad =>
    refine wpList_append_own_at w hgd s x t ho base e i z size bytes ht hi hz hsize hby hzs hsz v n xs hs hown ad m c news hx hl ?_ h1 h63 hbytes hbase (fun v' w' h2 h3 _ h5 => h v' w' h2 h3 h5)
    intro j u hu
    rcases hlies with h | ⟨b, off, hA, _, hc⟩
    · rw [h] at hu; simp at hu
    · cases hA
      obtain ⟨hj1, hj2⟩ := List.getElem?_eq_some_iff.1 hu
      rw [WideShapes.add_plain, hc j hj1, hj2]

/-- Volumes that a call made. -/
def VolsOwn (vs : List Vl) (n : Int) (w : World) (e : Ending) (w' : World) : Prop :=
  ∃ A c us, e = .returned (.tuple #[.slice A vs.length c, .int .i64 n]) ∧ OwnV w' w.heap.size (.slice A vs.length c) vs us ∧ Below w.heap.size w w'
set_option maxHeartbeats 4000000 in
set_option maxRecDepth 100000 in
theorem Apply_own {w : World} {A A2 : Option Addr} {c c2 : Nat} {vs : List Vl} {ws : List Wr} (h : VolsAt w w.heap.size A vs) (hf : VolsFit vs) (h2 : WrsAt w w.heap.size A2 ws) (hl2 : ws.length ≤ 9223372036854775807) (h0 : checkE vs ws = 0) :
    Calls Try.prog 22 #[.slice A vs.length c, .slice A2 ws.length c2] w (VolsOwn (applyV vs ws) 0 w) := by
  have HV := Lib.hid h
  have HF := Lib.hid hf
  have HW := Lib.hid h2
  have hl := hf.1
  have HCk : Hid (∀ c c2, Calls Try.prog 47 #[.slice A vs.length c, .slice A2 ws.length c2] w fun e w' => e = .returned (.int .i64 (checkE vs ws)) ∧ Below w.heap.size w w') := Lib.hid (fun c c2 => Check_any h hf h2 hl2)
  · obtain ⟨hr, hck, _⟩ := right_apply h0
    rw [applyV_ok h0]
    rw [h0] at HCk
    obtain ⟨hs4, hs32⟩ := right_small hr
    have HCl : Hid (∀ w2 c, Below w.heap.size w w2 → Calls Try.prog 48 #[.slice A vs.length c] w2 (CloneEnd vs w2)) := Lib.hid (fun w2 c hb => clone_any (h.next hb) (by omega) (fun v hv => by have := hs32 v hv; omega))
    have HG := Lib.hid (rightB_good hr)
    have HCK := Lib.hid hck
    obtain ⟨m, hm⟩ : ∃ m, ws.length = m := ⟨_, rfl⟩
    have HM := Lib.hid hm
    rw [hm] at hl2 HCk ⊢
    clear h hf h2 h0 hr hck hs32 hm
    go_enter Try.func22, Try.ntmps22
    go_wp2_with (first
      | (go_at_call 47; refine (HCk.out _ _).mono ?_; rintro e w1 ⟨rfl, hb⟩; replace hb := Lib.hid hb)
      | (go_at_call 48; refine (HCl.out _ _ hb.out).mono ?_; rintro e w3 ⟨v, us, rfl, hO, hb3⟩; have HS0 := Lib.hid (ApplySt.mk (w := w) ⟨us, hO⟩ (below_next hb.out hb3) hb.out.size); obtain ⟨A1, c1, hv, hxx⟩ := own_lies hO.row; clear hO hb3 hxx us; subst hv))
    clear HCk HCl
    obtain ⟨base, hbase⟩ : ∃ base, w1.heap.size = base := ⟨_, rfl⟩
    rw [hbase] at HS0
    clear hbase hb
    obtain ⟨n, hn⟩ : ∃ n, vs.length = n := ⟨_, rfl⟩
    have HN := Lib.hid hn
    rw [hn] at hl hs4 HS0 ⊢
    clear hn
    go_loopw [22] (fun i wr => ∃ k : Nat, k ≤ m ∧ i = .int .i64 k ∧ Hid (ApplySt w wr base (.slice A1 n c1) ((ws.take k).foldl put1 vs))) (fun i _ => m - (intOf i).toNat)
    case atStart => exact ⟨0, Nat.zero_le _, rfl, HS0⟩
    case round =>
      clear HS0
      obtain ⟨k, hk, rfl, HS⟩ := hrel
      by_cases hlt : k < m
      · have hkl : k < ws.length := by rw [HM.out]; exact hlt
        obtain ⟨b, off, hA, hbl, x1, x2, x3⟩ := HW.out.at_ HS.out.bel hkl
        have hwz : w.heap.size ≤ wr.heap.size := HS.out.bel.size
        have hbw : b < wr.heap.size := by omega
        subst hA
        have hgot := chk_take HCK.out hkl
        have hfold : (ws.take (k + 1)).foldl put1 vs = put1 ((ws.take k).foldl put1 vs) ws[k] := by
          rw [List.take_succ_eq_append_getElem hkl, List.foldl_append]; rfl
        have HFold := Lib.hid hfold
        have hsh := shapes_foldl (ws.take k) vs
        have hloc : locE vs ws[k].vol ws[k].block = 0 := by rw [← gotE_loc HG.out]; exact hgot.1
        obtain ⟨x, hx⟩ : ∃ x, ws[k] = x := ⟨_, rfl⟩
        rw [hx] at x1 x2 x3 HFold hloc
        clear hx hkl hfold hgot
        obtain ⟨vol, block, data⟩ := x
        simp only at x1 x2 x3 hloc
        obtain ⟨cur, hcur⟩ : ∃ cur, (ws.take k).foldl put1 vs = cur := ⟨_, rfl⟩
        rw [hcur] at HS HFold hsh
        clear hcur
        have hlen : cur.length = n := by rw [shapes_length hsh, HN.out]
        obtain ⟨hhas, hfl, hb0, hb1⟩ := locE_zero hloc
        have hfs := findAt_shapes hsh vol
        have hhc : hasAt cur vol = true := by rw [hfs.2]; exact hhas
        obtain ⟨q, hq⟩ : ∃ q, findAt cur vol = q := ⟨_, rfl⟩
        have hqv : findAt vs vol = q := by rw [← hfs.1]; exact hq
        have hqc : q < cur.length := by rw [← hq]; exact hasAt_lt hhc
        have hbl2 : block < cur[q].2.length := by
          have e : (shapes cur)[q]? = (shapes vs)[q]? := by rw [hsh]
          have hqvl : q < vs.length := by rw [← shapes_length hsh]; exact hqc
          simp only [shapes, List.getElem?_map, List.getElem?_eq_getElem hqc, List.getElem?_eq_getElem hqvl, Option.map_some, Option.some.injEq, Prod.mk.injEq] at e
          rw [e.2]
          subst hqv
          exact hb1
        obtain ⟨j, rfl⟩ := Int.eq_ofNat_of_zero_le hb0
        have hS := HS.out
        obtain ⟨us, hO⟩ := hS.own
        rw [← hlen] at hO
        have hqu : q < us.length := by rw [hO.len]; exact hqc
        obtain ⟨gu, cu, hgu, _, hgw⟩ := (hO.each q hqc hqu).form (by omega)
        obtain ⟨g, cg, hv, _, hgw2⟩ := hO.row.form (by omega)
        simp only [Value.slice.injEq] at hv
        obtain ⟨rfl, _, rfl⟩ := hv
        have HSt : Hid (∀ w2, Below wr.heap.size wr w2 → ApplySt w (w2.setCell ⟨gu, j, none⟩ (.string data)) base (.slice (some ⟨g, 0, none⟩) n c1) ((ws.take (k + 1)).foldl put1 vs)) := Lib.hid (fun w2 hb => by
          have := ApplySt.step hO hb hS.bel hS.low hqc hqu hgu (j := j) data
          rw [hlen] at this
          rw [HFold.out, put1_at hq hqc, Int.toNat_natCast]
          exact this)
        have HCell : Hid (∀ w2, Below wr.heap.size wr w2 → w2.cell? ⟨g, q * 2 + 1, none⟩ = some (.slice (some ⟨gu, 0, none⟩) cur[q].2.length cu) ∧ (∃ old, w2.cell? ⟨gu, j, none⟩ = some old) ∧ w2.frozen? ⟨gu, j, none⟩ = false) := Lib.hid (fun w2 hb => by
          have r1 := own_kept hO.row hb
          have r2 := own_kept (hO.each q hqc hqu) hb
          rw [hgu] at r2
          refine ⟨?_, ?_, r2.frozenAt _⟩
          · rw [r1.cellAt _ (by omega), volCells_snd hO.len hqc, List.getElem?_eq_getElem hqu, hgu]
          · rw [r2.cellAt _ (by omega), List.getElem?_map, List.getElem?_eq_getElem (by omega)]
            exact ⟨_, rfl⟩)
        obtain ⟨A9, c9, hv9, hvol9⟩ := hO.vols
        rw [hlen] at hv9
        simp only [Value.slice.injEq] at hv9
        obtain ⟨rfl, _, rfl⟩ := hv9
        have HFind : Hid (∀ w2, Below wr.heap.size wr w2 → Calls Try.prog 49 #[.slice (some ⟨g, 0, none⟩) n c1, .int .i64 vol] w2 fun e w' => e = .returned (.tuple #[.int .i64 q, .bool true]) ∧ Below w2.heap.size w2 w') := Lib.hid (fun w2 hb => by
          have := find_any (c := c1) (hvol9.next hb) (by rw [hlen]; exact hl) vol
          rw [hlen, hq, hhc] at this
          exact this)
        obtain ⟨p, hp⟩ : ∃ p, cur[q].2.length = p := ⟨_, rfl⟩
        rw [hp] at HCell hbl2
        have hqn : q < n := by rw [← hlen]; exact hqc
        have hjp : j < p := by omega
        clear hp hb1 hb0 hloc hsh hlen hhas hfl hfs hhc hq hqv hO hS hqu hgu hvol9 hqc HFold HS us cur
        have HB1 : Hid (Below wr.heap.size wr (wr.alloc (.cells #[.int .i64 vol, .int .i64 j, .string data] 74))) := Lib.hid ((Below.refl _ _).alloc (Nat.le_refl _) _)
        have HX : Hid (∀ w2, Below (wr.alloc (.cells #[.int .i64 vol, .int .i64 j, .string data] 74)).heap.size (wr.alloc (.cells #[.int .i64 vol, .int .i64 j, .string data] 74)) w2 → w2.cell? ⟨wr.heap.size, 1, none⟩ = some (.int .i64 j) ∧ w2.cell? ⟨wr.heap.size, 2, none⟩ = some (.string data)) := Lib.hid (fun w2 hb => by
          rw [hb.cell (p := ⟨wr.heap.size, 1, none⟩) (by simp), hb.cell (p := ⟨wr.heap.size, 2, none⟩) (by simp), Lib.cell_of_heap (heap_alloc_new _ _), Lib.cell_of_heap (heap_alloc_new _ _)]; exact ⟨rfl, rfl⟩)
        go_wp2_with (go_at_call 49; refine (HFind.out _ HB1.out).mono ?_; rintro e w2 ⟨rfl, hb2⟩; obtain ⟨y1, y2⟩ := HX.out w2 hb2; have HB2 := Lib.hid (below_next HB1.out hb2); clear hb2; obtain ⟨z1, ⟨old, z2⟩, z3⟩ := HCell.out w2 HB2.out)
        have HS2 := Lib.hid (HSt.out w2.drew (⟨HB2.out.os, HB2.out.tape, HB2.out.output, HB2.out.size, HB2.out.block⟩))
        clear HFind HX HCell HSt HB1 HB2 x1 x2 x3
        have hq0 : (0 : Int) ≤ (q : Int) := Int.natCast_nonneg _
        have hq8 : (q : Int) < (n : Int) := by omega
        have hj0 : (0 : Int) ≤ (j : Int) := Int.natCast_nonneg _
        have hj8 : (j : Int) < (p : Int) := by omega
        go_still_tail 10, (by kernel_rfl)
        change wpList _ _ _ _ _ w2.drew
        have z2' : w2.drew.cell? ⟨gu, j, none⟩ = some old := z2
        have z3' : w2.drew.frozen? ⟨gu, j, none⟩ = false := z3
        clear y1 y2 z1 z2 z3
        generalize w2.drew = W2 at *
        go_wp2_with fail
        go_roundw
        case rel => exact ⟨k + 1, by omega, by go_num, HS2⟩
        case measure => simp [intOf]; omega
      · have HE : Hid (VolsOwn (ws.foldl put1 vs) 0 w (.returned (.tuple #[.slice A1 n c1, .int .i64 0])) wr) := Lib.hid (by
          have hS := HS.out
          rw [List.take_of_length_le (by rw [HM.out]; omega)] at hS
          obtain ⟨us, hO⟩ := hS.own
          have hlen : (ws.foldl put1 vs).length = n := by rw [shapes_length (shapes_foldl ws vs), HN.out]
          exact ⟨A1, c1, us, by rw [hlen], by rw [hlen]; exact hO.base_ hS.low, hS.bel⟩)
        go_wp2_with fail
        go_ret2
        exact HE.out
end Go.Proofs.Ythajgoigmkkbgaa
