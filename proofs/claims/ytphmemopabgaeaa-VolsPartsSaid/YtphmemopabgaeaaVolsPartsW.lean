/- The walk of VolsParts. -/
import Derived.Test.YtphmemopabgaeaaVolU
namespace Go.Proofs.Ytphmemopabgaeaa
open Go.RowKit

/-! ### Rows of writes -/

def wrCells : List Wr → List Value
  | [] => []
  | x :: ws => .int .i64 x.vol :: .int .i64 x.block :: .string x.data :: wrCells ws
theorem wrCells_length (ws : List Wr) : (wrCells ws).length = ws.length * 3 := by
  induction ws with
  | nil => rfl
  | cons x ws ih => simp [wrCells, ih]; omega
theorem wrCells_append (a b : List Wr) : wrCells (a ++ b) = wrCells a ++ wrCells b := by
  induction a with
  | nil => rfl
  | cons x a ih => simp [wrCells, ih]
theorem wrCells_at {ws : List Wr} {k : Nat} (hk : k < ws.length) : (wrCells ws)[k * 3]? = some (.int .i64 ws[k].vol) ∧ (wrCells ws)[k * 3 + 1]? = some (.int .i64 ws[k].block) ∧ (wrCells ws)[k * 3 + 2]? = some (.string ws[k].data) := by
  induction ws generalizing k with
  | nil => simp at hk
  | cons x ws ih =>
    cases k with
    | zero => exact ⟨rfl, rfl, rfl⟩
    | succ k =>
      have := ih (k := k) (by simpa using hk)
      rw [show (k + 1) * 3 = k * 3 + 1 + 1 + 1 from by omega]
      simpa [wrCells] using this
theorem wrCells_one (ws : List Wr) : ∀ u ∈ wrCells ws, u.oneCell' = true := by
  induction ws with
  | nil => intro u hu; simp [wrCells] at hu
  | cons x ws ih =>
    intro u hu
    simp only [wrCells, List.mem_cons] at hu
    rcases hu with rfl | rfl | rfl | hu
    · rfl
    · rfl
    · rfl
    · exact ih u hu
theorem WrsAt.lies {w : World} {B : Nat} {A : Option Addr} {ws : List Wr} (h : WrsAt w B A ws) : Lies w B A (wrCells ws) := by
  rcases h with rfl | ⟨b, off, hA, hlt, hc⟩
  · exact .inl rfl
  · refine .inr ⟨b, off, hA, hlt, fun i hi => ?_⟩
    rw [wrCells_length] at hi
    have hk : i / 3 < ws.length := by omega
    obtain ⟨h1, h2, h3⟩ := hc (i / 3) hk
    obtain ⟨g1, g2, g3⟩ := wrCells_at hk
    have e : (wrCells ws)[i]? = some (wrCells ws)[i] := List.getElem?_eq_getElem _
    have hm : i % 3 = 0 ∨ i % 3 = 1 ∨ i % 3 = 2 := by omega
    rcases hm with h0 | h0 | h0
    · rw [show i / 3 * 3 = i from by omega, e] at g1
      rw [show off + i = off + i / 3 * 3 from by omega, h1, ← g1]
    · rw [show i / 3 * 3 + 1 = i from by omega, e] at g2
      rw [show off + i = off + i / 3 * 3 + 1 from by omega, h2, ← g2]
    · rw [show i / 3 * 3 + 2 = i from by omega, e] at g3
      rw [show off + i = off + i / 3 * 3 + 2 from by omega, h3, ← g3]
theorem WrsAt.of_lies {w : World} {B : Nat} {A : Option Addr} {ws : List Wr} (h : Lies w B A (wrCells ws)) : WrsAt w B A ws := by
  rcases h with h | ⟨b, off, hA, hlt, hc⟩
  · have := wrCells_length ws
    rw [h] at this
    exact .inl (List.eq_nil_of_length_eq_zero (by simp at this; omega))
  · refine .inr ⟨b, off, hA, hlt, fun k hk => ?_⟩
    have hl := wrCells_length ws
    obtain ⟨g1, g2, g3⟩ := wrCells_at hk
    rw [List.getElem?_eq_getElem (by omega)] at g1 g2 g3
    refine ⟨?_, ?_, ?_⟩
    · rw [hc (k * 3) (by omega)]; exact g1
    · rw [Nat.add_assoc, hc (k * 3 + 1) (by omega)]; exact g2
    · rw [Nat.add_assoc, hc (k * 3 + 2) (by omega)]; exact g3

theorem Try.infoWr : (Try.prog.info? 53).map (fun i => (i.zero, i.size, i.bytes)) = some (some (.agg #[.int .i64 0, .int .i64 0, .string ByteArray.empty]), 3, 32) := by kernel_rfl

/-- append of a whole slice, nil or not, onto a row of the call's own. -/
theorem wpList_append_rows {P : Program} {w : World} {ops : Array Oper} {rest : List Oper} {o : Oper} {a : Act} {Q : Exit → Act → World → Prop} (hgd : o.guard = none) (s x : Operand) (t : TypeId)
    (ho : o.op = .call { callee := .builtin .append, args := #[s, x], argTypes := #[t, t] })
    (base : Nat) (e : TypeId) (i : TypeInfo) (z : Value) (size bytes : Nat) (ht : P.underlying t = some (.slice e)) (hi : P.info? e = some i) (hz : i.zero = some z)
    (hsize : i.size = size) (hby : i.bytes = bytes) (hzs : z.cells.size = size) (hsz : 0 < size)
    (v : Value) (n : Nat) (xs : List Value) (hs : a.eval s = v) (hown : w.ownsRow base e size v n xs)
    (A : Option Addr) (m c : Nat) (news : List Value) (hx : a.eval x = .slice A m c) (hl : news.length = m * size) (B : Nat) (hlies : Lies w B A news) (hnil : A = none → c = 0) (h1 : ∀ u ∈ news, u.oneCell' = true)
    (h63 : n + m ≤ maxLen) (hbytes : (n + m) * bytes ≤ 140737488355328) (hbase : base ≤ w.heap.size)
    (h : ∀ v' w', w'.ownsRow base e size v' (n + m) (xs ++ news) → w.grownBy w' v.ownBlock → wpList P ops Q rest (a.put o.dst v') w') : wpList P ops Q (o :: rest) a w := by
  cases A with
  | none =>
    have hne : news = [] := by
      rcases hlies with h | ⟨b, off, hA, _⟩
      · exact h
      · cases hA
    subst hne
    have hm0 : m = 0 := by
      have : m * size = 0 := by simpa using hl.symm
      rcases Nat.mul_eq_zero.1 this with h | h
      · exact h
      · omega
    subst hm0
    have hc := hnil rfl
    subst hc
    have hrun := run_append_owned_none (P := P) (w := w) base t o.type e i size ht hi v n xs hown
    refine wpList_plain hgd fun K hK => ?_
    unfold Oper.wp
    simp [execOp, ho, resolve, invoke, builtin, hs, hx, hrun, Result.andThen]
    exact hK _ _ (h v w (by simpa using hown) (grown_refl _ _))
  | some ad =>
    refine wpList_append_own w hgd s x t ho base e i z size bytes ht hi hz hsize hby hzs hsz v n xs hs hown ad m c news hx hl ?_ h1 h63 hbytes hbase (fun v' w' h2 h3 _ => h v' w' h2 h3)
    intro j u hu
    rcases hlies with h | ⟨b, off, hA, _, hc⟩
    · rw [h] at hu; simp at hu
    · cases hA
      obtain ⟨hj1, hj2⟩ := List.getElem?_eq_some_iff.1 hu
      rw [WideShapes.add_plain, hc j hj1, hj2]

/-! ### Writes in two parts -/

theorem parts_ok {vs : List Vl} {a b : List Wr} (h : checkE vs a = 0) : checkE (applyV vs a) b = checkE vs (a ++ b) ∧ applyV (applyV vs a) b = applyV vs (a ++ b) := by
  obtain ⟨hr, hc, hr2⟩ := right_apply h
  have e1 : applyV vs a = a.foldl put1 vs := applyV_ok h
  have e2 : checkE (applyV vs a) b = chk vs b := by rw [e1, checkE_right hr2, chk_shapes (shapes_foldl a vs)]
  have e3 : checkE vs (a ++ b) = chk vs b := by rw [checkE_right hr, chk_append, if_pos hc]
  refine ⟨by rw [e2, e3], ?_⟩
  by_cases h0 : chk vs b = 0
  · have f1 : applyV (applyV vs a) b = b.foldl put1 (applyV vs a) := applyV_ok (by rw [e2]; exact h0)
    have f2 : applyV vs (a ++ b) = (a ++ b).foldl put1 vs := applyV_ok (by rw [e3]; exact h0)
    rw [f1, f2, e1, List.foldl_append]
  · have f1 : applyV (applyV vs a) b = [] := applyV_no (by rw [e2]; exact h0)
    have f2 : applyV vs (a ++ b) = [] := applyV_no (by rw [e3]; exact h0)
    rw [f1, f2]
theorem fit_apply {vs : List Vl} {ws : List Wr} : VolsFit (applyV vs ws) := by
  by_cases h : checkE vs ws = 0
  · rw [applyV_ok h]; exact right_fit (right_apply h).2.2
  · rw [applyV_no h]; exact ⟨by simp, by simp⟩

set_option maxHeartbeats 4000000 in
set_option maxRecDepth 100000 in
theorem VolsParts_walk {w : World} {A A1 A2 : Option Addr} {c c1 c2 : Nat} {vs : List Vl} {xs ys : List Wr} (h : VolsAt w w.heap.size A vs) (hf : VolsFit vs) (h1 : WrsAt w w.heap.size A1 xs) (hx : xs.length ≤ 9223372036854775807 ∧ (A1 = none → c1 = 0)) (h2 : WrsAt w w.heap.size A2 ys) (hy : ys.length ≤ 9223372036854775807 ∧ (A2 = none → c2 = 0)) :
    Calls Try.prog 9 #[.slice A vs.length c, .slice A1 xs.length c1, .slice A2 ys.length c2] w fun e w' => e = .returned (.bool true) ∧ Below w.heap.size w w' := by
  have HV := Lib.hid h
  have HF := Lib.hid hf
  have H1 := Lib.hid h1
  have H2 := Lib.hid h2
  have HX := Lib.hid hx
  have HY := Lib.hid hy
  clear h hf h1 h2 hx hy
  cases hs1 : smallB vs xs.length with
  | false =>
    have HS := Lib.hid hs1
    clear hs1
    go_enter Try.func9, Try.ntmps9
    go_wp2_with fail
    refine (Small_any HV.out HF.out _ _ _).mono ?_
    rw [HS.out]
    rintro e w' ⟨rfl, rfl⟩
    go_wp2_with fail
    refine (awake_any _).mono ?_
    rintro e w1 ⟨rfl, hb⟩
    replace hb := Lib.hid hb
    go_wp2_with fail
    go_ret
    exact ⟨rfl, hb.out⟩
  | true =>
    have HS1 := Lib.hid hs1
    have hsm1 := ((smallB_iff _ _).1 hs1).2.1
    clear hs1
    cases hs2 : smallB vs ys.length with
    | false =>
      have HS := Lib.hid hs2
      clear hs2
      go_enter Try.func9, Try.ntmps9
      go_wp2_with fail
      refine (Small_any HV.out HF.out _ _ _).mono ?_
      rw [HS1.out]
      rintro e w' ⟨rfl, rfl⟩
      go_wp2_with fail
      refine (Small_any HV.out HF.out _ _ _).mono ?_
      rw [HS.out]
      rintro e w' ⟨rfl, rfl⟩
      go_wp2_with fail
      refine (awake_any _).mono ?_
      rintro e w1 ⟨rfl, hb⟩
      replace hb := Lib.hid hb
      go_wp2_with fail
      go_ret
      exact ⟨rfl, hb.out⟩
    | true =>
      have HS2 := Lib.hid hs2
      have hsm2 := ((smallB_iff _ _).1 hs2).2.1
      clear hs2
      by_cases h0 : checkE vs xs = 0
      · have HP := Lib.hid (parts_ok (b := ys) h0)
        have H0 := Lib.hid h0
        clear h0
        have HFa : Hid (VolsFit (applyV vs xs)) := Lib.hid fit_apply
        have HFb : Hid (VolsFit (applyV vs (xs ++ ys))) := Lib.hid fit_apply
        have HLen : Hid ((xs ++ ys).length = xs.length + ys.length) := Lib.hid List.length_append
        obtain ⟨X, hX⟩ : ∃ X, applyV vs xs = X := ⟨_, rfl⟩
        have HXe := Lib.hid hX
        rw [hX] at HP HFa
        clear hX
        obtain ⟨Z, hZ⟩ : ∃ Z, applyV vs (xs ++ ys) = Z := ⟨_, rfl⟩
        have HZe := Lib.hid hZ
        rw [hZ] at HP HFb
        clear hZ
        obtain ⟨E, hE⟩ : ∃ E, checkE vs (xs ++ ys) = E := ⟨_, rfl⟩
        have HEe := Lib.hid hE
        rw [hE] at HP
        clear hE
        obtain ⟨i0, hi0, hz0, hz1, hz2⟩ := info_parts Try.infoWr
        have heq : Hid (eqB Z Z = true) := Lib.hid (by simp [eqB])
        go_enter Try.func9, Try.ntmps9
        go_wp2_with fail
        refine (Small_any HV.out HF.out _ _ _).mono ?_
        rw [HS1.out]
        rintro e w' ⟨rfl, rfl⟩
        go_wp2_with fail
        refine (Small_any HV.out HF.out _ _ _).mono ?_
        rw [HS2.out]
        rintro e w' ⟨rfl, rfl⟩
        go_wp2_with fail
        refine (Apply_any HV.out HF.out H1.out HX.out.1).mono ?_
        rw [HXe.out, H0.out]
        rintro e w1 ⟨B1, d1, rfl, hv1, hb1⟩
        have HV1 := Lib.hid hv1
        have HB1 := Lib.hid hb1
        clear hv1 hb1
        go_wp2_with fail
        refine (Apply_any HV1.out HFa.out (H2.out.next HB1.out) HY.out.1).mono ?_
        rw [HP.out.1, HP.out.2]
        rintro e w2 ⟨B2, d2, rfl, hv2, hb2⟩
        have HV2 := Lib.hid hv2
        have HB2 := Lib.hid (below_next HB1.out hb2)
        clear hv2 hb2
        go_wp2_with (at_builtin; refine wpList_append_rows rfl (.tmp 47) (.tmp 48) 39 rfl w2.heap.size 53 i0 (.agg #[.int .i64 0, .int .i64 0, .string ByteArray.empty]) 3 32 Try.underlying39 hi0 hz0 hz1 hz2 rfl (by decide) (.slice none 0 0) 0 [] rfl (World.ownsRow_nil _ _ _ _) A1 xs.length c1 (wrCells xs) rfl (wrCells_length _) w2.heap.size (H1.out.next HB2.out).lies HX.out.2 (wrCells_one _) ?c1 ?c2 (Nat.le_refl _) ?_)
        case c1 => unfold maxLen; omega
        case c2 => omega
        intro v3 w3 ho3 hg3
        have HB3 : Hid (Below w2.heap.size w2 w3) := Lib.hid ((Below.refl _ _).grown hg3 (Nat.le_refl _) (fun k hk => by simp [Value.ownBlock] at hk))
        have HO3 := Lib.hid ho3
        obtain ⟨A3, d3, hv3, hxx⟩ := own_lies ho3
        clear hxx ho3 hg3
        subst hv3
        go_wp2_with (at_builtin; refine wpList_append_rows rfl (.tmp 49) (.tmp 50) 39 rfl w2.heap.size 53 i0 (.agg #[.int .i64 0, .int .i64 0, .string ByteArray.empty]) 3 32 Try.underlying39 hi0 hz0 hz1 hz2 rfl (by decide) (.slice A3 xs.length d3) xs.length (wrCells xs) rfl HO3.out A2 ys.length c2 (wrCells ys) rfl (wrCells_length _) w3.heap.size (H2.out.next (below_next HB2.out HB3.out)).lies HY.out.2 (wrCells_one _) ?c3 ?c4 HB3.out.size ?_)
        case c3 => unfold maxLen; omega
        case c4 => omega
        intro v4 w4 ho4 hg4
        have HB4 : Hid (Below w2.heap.size w2 w4) := Lib.hid (HB3.out.grown hg4 HB3.out.size (fun k hk => (HO3.out.lt k hk).1))
        rw [← wrCells_append, ← HLen.out] at ho4
        obtain ⟨A4, d4, hv4, _, hl4⟩ := own_lies ho4
        have H4 := Lib.hid (WrsAt.of_lies hl4)
        have HBW : Hid (Below w.heap.size w w4) := Lib.hid (below_next HB2.out HB4.out)
        have HAp : Hid (∀ c d, Calls Try.prog 24 #[.slice A vs.length c, .slice A4 (xs.length + ys.length) d] w4 (VolsEnd Z E w4)) := Lib.hid (fun c d => by
          have := Apply_any (c := c) (c2 := d) (HV.out.next HBW.out) HF.out H4.out (by rw [HLen.out]; omega)
          rw [HZe.out, HEe.out, HLen.out] at this
          exact this)
        rw [HLen.out] at hv4
        clear ho4 hg4 hl4 H4
        subst hv4
        go_wp2_with fail
        with_reducible refine (HAp.out _ _).mono ?_
        rintro e w5 ⟨B5, d5, rfl, hv5, hb5⟩
        have HV5 := Lib.hid hv5
        have HB5 := Lib.hid (below_next HBW.out hb5)
        have HV25 : Hid (VolsAt w5 w5.heap.size B2 Z) := Lib.hid (HV2.out.next (below_next HB4.out hb5))
        clear hv5 hb5
        go_wp2_with fail
        refine (RefEqual_any HV25.out HV5.out HFb.out HFb.out).mono ?_
        rw [heq.out]
        rintro e w6 ⟨rfl, hb6⟩
        have HB6 := Lib.hid (below_next HB5.out hb6)
        clear hb6
        go_wp2_with fail
        refine (awake_any _).mono ?_
        rintro e w7 ⟨rfl, hb7⟩
        have HB7 := Lib.hid (below_next HB6.out hb7)
        clear hb7
        go_wp2_with fail
        go_ret
        exact ⟨rfl, HB7.out⟩
      · have HNo := Lib.hid (applyV_no h0)
        have h0' : (checkE vs xs != 0) = true := by rw [bne_iff_ne]; exact h0
        clear h0
        obtain ⟨E, hE⟩ : ∃ E, checkE vs xs = E := ⟨_, rfl⟩
        rw [hE] at h0'
        have HE := Lib.hid hE
        clear hE
        go_enter Try.func9, Try.ntmps9
        go_wp2_with fail
        refine (Small_any HV.out HF.out _ _ _).mono ?_
        rw [HS1.out]
        rintro e w' ⟨rfl, rfl⟩
        go_wp2_with fail
        refine (Small_any HV.out HF.out _ _ _).mono ?_
        rw [HS2.out]
        rintro e w' ⟨rfl, rfl⟩
        go_wp2_with fail
        refine (Apply_any HV.out HF.out H1.out HX.out.1).mono ?_
        rw [HNo.out, HE.out]
        rintro e w1 ⟨B1, d1, rfl, hv1, hb1⟩
        have HB1 := Lib.hid hb1
        clear hv1 hb1
        simp only [List.length_nil]
        go_wp2_with fail
        refine (awake_any _).mono ?_
        rintro e w2 ⟨rfl, hb2⟩
        have HB2 := Lib.hid (below_next HB1.out hb2)
        clear hb2
        go_wp2_with fail
        go_ret
        exact ⟨rfl, HB2.out⟩
end Go.Proofs.Ytphmemopabgaeaa
