/- Folded writes: the contract of the document's Fold. -/
import Derived.Test.YtpmllckfijfehaaFoldG
import Derived.Test.YtpmllckfijfehaaFoldR
namespace Go.Proofs.Ytpmllckfijfehaa
open Go.Shelf Go.RowKit Go.Lib Go.Sort

theorem below_grown (w : World) (q : Nat) (os : Array Obj) : Below w.heap.size w (grow (w.drewN q) os) :=
  ⟨rfl, rfl, rfl, by rw [size_grow]; exact Nat.le_add_right _ _, fun i hi => by
    show (w.heap ++ os)[i]? = _
    rw [Array.getElem?_append_left hi]⟩
/-- One write of a row, in every world of the class. -/
theorem WrsAt.grown_at {w wr : World} {B : Nat} {A : Option Addr} {ws : List Wr} (h : WrsAt w B A ws) (hb : Below B w wr) (hB : B ≤ wr.heap.size) {i : Nat} (hi : i < ws.length) :
    ∃ b off, A = some ⟨b, off, none⟩ ∧ (∀ q os, (grow (wr.drewN q) os).cell? ⟨b, off + i * 3, none⟩ = some (.int .i64 ws[i].vol)) ∧ (∀ q os, (grow (wr.drewN q) os).cell? ⟨b, off + i * 3 + 1, none⟩ = some (.int .i64 ws[i].block)) ∧ (∀ q os, (grow (wr.drewN q) os).cell? ⟨b, off + i * 3 + 2, none⟩ = some (.string ws[i].data)) := by
  obtain ⟨b, off, hA, hlt, h1, h2, h3⟩ := h.at_ hb hi
  exact ⟨b, off, hA, fun q os => cell_grown (by show b < _; omega) h1 q os, fun q os => cell_grown (by show b < _; omega) h2 q os, fun q os => cell_grown (by show b < _; omega) h3 q os⟩

set_option maxHeartbeats 8000000 in
set_option maxRecDepth 100000 in
theorem RefFold_any {w : World} {A : Option Addr} {c : Nat} {ws : List Wr} (h : WrsAt w w.heap.size A ws) (hn : ws.length ≤ 4000) :
    Calls Try.prog 26 #[.slice A ws.length c] w (WrsEnd (foldW ws) w) := by
  have HV := Lib.hid h
  have mixed : Try.prog.follows .mixedOrders = true := by kernel_rfl
  obtain ⟨i0, hi0, hz0, hz1, hz2⟩ := info_parts Try.infoWr
  obtain ⟨n, hnn⟩ : ∃ n, ws.length = n := ⟨_, rfl⟩
  have HN := Lib.hid hnn
  rw [hnn] at hn ⊢
  clear h hnn
  go_enter Try.func26, Try.ntmps26
  go_wp2
  go_loopg [3] (n + 1) (fun kx s3 wr => ∃ (m lf : Nat) (out : List Wr), out.length = m ∧ m + lf ≤ n ∧ lf + 1 ≤ kx ∧ Hid (leftB ws out = lf) ∧ Hid (OutAt ws out) ∧ Hid (wr.ownsRow w.heap.size 61 3 s3 m (wrCells out)) ∧ Hid (Below w.heap.size w wr))
  case atStart => exact ⟨0, n, [], rfl, by omega, Nat.le_refl _, Lib.hid (by rw [← HN.out]; unfold leftB; rw [show candB [] = fun _ => true from rfl]; simp), Lib.hid (out_start _), Lib.hid (World.ownsRow_nil _ _ _ _), Lib.hid (Below.refl _ _)⟩
  case round =>
    obtain ⟨m, lf, out, hm, hml, hkx, HL, HOut, HO, HB⟩ := hrel
    obtain ⟨A4, c4, h4, hxx, hlies⟩ := own_lies HO.out
    have HAo : Hid (WrsAt wr wr.heap.size A4 out) := Lib.hid (WrsAt.of_lies hlies)
    clear hxx hlies
    subst h4
    have hwz : w.heap.size ≤ wr.heap.size := HB.out.size
    obtain ⟨W0, hW0⟩ : ∃ W0, W0 = wr := ⟨_, rfl⟩
    subst hW0
    generalize hm1 : (-1 : Int) = m1
    have HM1 : Hid (m1 = -1) := Lib.hid hm1.symm
    have hm1' : m1 < 0 := by omega
    clear hm1
    go_wp2_with fail
    go_loopg [4, 5] n (fun kx s4 s5 wr => ∃ (i : Nat) (best : Int), s4 = .int .i64 best ∧ s5 = .int .i64 i ∧ i ≤ n ∧ n - i ≤ kx ∧ -1 ≤ best ∧ best < (i : Int) + 1 ∧ Hid (BestAt ws out i best) ∧ Hid (Below W0.heap.size W0 wr))
    case atStart => exact ⟨0, m1, rfl, rfl, Nat.zero_le _, by omega, by have := HM1.out; omega, by omega, Lib.hid (by rw [HM1.out]; exact best_start _ _), Lib.hid (Below.refl _ _)⟩
    case round =>
      obtain ⟨i, best, rfl, rfl, hi, hkx2, hb1, hb2, HBe, HB1⟩ := hrel
      by_cases hlt : i < n
      · have hltz : (i : Int) < (n : Int) := by omega
        have hil : i < ws.length := by rw [HN.out]; exact hlt
        by_cases hm0 : m = 0
        · have hmz : ¬ (0 : Int) < (m : Int) := by omega
          have hmz' : decide (0 < m) = false := decide_eq_false (by omega)
          have hout : out = [] := List.eq_nil_of_length_eq_zero (by omega)
          have HCand : Hid (candB out ws[i] = true) := Lib.hid (by rw [hout]; rfl)
          have HB5 : Hid (Below W0.heap.size W0 wr.drew) := Lib.hid HB1.out.drew
          clear hout hm0
          go_wp2_with fail
          go_big_region_o
          generalize wr.drew = w5 at HB5 ⊢
          go_wp2_with fail
          by_cases hb0 : best < 0
          · have hbz : decide (best < 0) = true := decide_eq_true hb0
            have HB9 : Hid (BestAt ws out (i + 1) (i : Int)) := Lib.hid (best_take HBe.out hil HCand.out (fun b hb e => by omega))
            have HB6 : Hid (Below W0.heap.size W0 w5.drew) := Lib.hid HB5.out.drew
            go_wp2_with fail
            go_big_region_o
            generalize w5.drew = w6 at HB6 ⊢
            go_wp2_with fail
            go_roundg (n - (i + 1))
            case measure => omega
            case rel => exact ⟨i + 1, i, rfl, by go_num, by omega, Nat.le_refl _, by omega, by omega, HB9, HB6⟩
          · have hbz : decide (best < 0) = false := decide_eq_false hb0
            obtain ⟨b, hbl, rfl, hbi, _, _⟩ := HBe.out.some_ (by omega)
            have hlt2 := fun q os => less_any ws[b] ws[i] (grow (w5.drewN q) os)
            have hbw5 : Below w.heap.size w w5 := HB.out.trans (HB5.out.mono hwz)
            obtain ⟨bb, oo, hA1, z0, z1, z2⟩ := HV.out.grown_at hbw5 hbw5.size hil
            obtain ⟨bb', oo', hA2, y0, y1, y2⟩ := HV.out.grown_at hbw5 hbw5.size hbl
            first | subst hA1 | cases hA1
            cases hA2
            have p0 : (0 : Int) ≤ (b : Int) := Int.natCast_nonneg _
            have p1 : (b : Int) < (n : Int) := by omega
            have p2 : (0 : Int) ≤ (i : Int) := Int.natCast_nonneg _
            have p3 : (i : Int) < (n : Int) := by omega
            cases hL : ltW ws[b] ws[i] with
            | true =>
              have HB9 : Hid (BestAt ws out (i + 1) (b : Int)) := Lib.hid (best_keep HBe.out hil hbl hL)
              rw [hL] at hlt2
              generalize ws[b] = xb at hlt2 y0 y1 y2
              generalize ws[i] = xi at hlt2 z0 z1 z2
              clear hbw5 HCand HBe hL
              go_wp2_with fail
              go_quiet_grown (first | (go_at_call 44; refine Calls.grown_of (hlt2 _ _)))
              have HB6 : Hid (Below W0.heap.size W0 (grow (w5.drewN nq) osq)) := Lib.hid (HB5.out.trans ((below_grown _ nq osq).mono HB5.out.size))
              clear z0 z1 z2 y0 y1 y2 hlt2
              generalize grow (w5.drewN nq) osq = w6 at HB6 ⊢
              go_wp2_with fail
              go_roundg (n - (i + 1))
              case measure => omega
              case rel => exact ⟨i + 1, b, rfl, by go_num, by omega, Nat.le_refl _, by omega, by omega, HB9, HB6⟩
            | false =>
              have HB9 : Hid (BestAt ws out (i + 1) (i : Int)) := Lib.hid (best_take HBe.out hil HCand.out (fun b' hb e => by
                obtain rfl : b' = b := by omega
                exact hL))
              rw [hL] at hlt2
              generalize ws[b] = xb at hlt2 y0 y1 y2
              generalize ws[i] = xi at hlt2 z0 z1 z2
              clear hbw5 HCand HBe hL
              go_wp2_with fail
              go_quiet_grown (first | (go_at_call 44; refine Calls.grown_of (hlt2 _ _)))
              have HB6 : Hid (Below W0.heap.size W0 (grow (w5.drewN nq) osq)) := Lib.hid (HB5.out.trans ((below_grown _ nq osq).mono HB5.out.size))
              clear z0 z1 z2 y0 y1 y2 hlt2
              generalize grow (w5.drewN nq) osq = w6 at HB6 ⊢
              go_wp2_with fail
              go_roundg (n - (i + 1))
              case measure => omega
              case rel => exact ⟨i + 1, i, rfl, by go_num, by omega, Nat.le_refl _, by omega, by omega, HB9, HB6⟩
        · obtain ⟨mp, rfl⟩ : ∃ mp, m = mp + 1 := ⟨m - 1, by omega⟩
          have hmz : (0 : Int) < ((mp + 1 : Nat) : Int) := by omega
          have hmz' : decide (0 < mp + 1) = true := decide_eq_true (by omega)
          have hol : mp < out.length := by omega
          have hgl : out.getLast? = some out[mp] := by
            rw [List.getLast?_eq_getElem?, hm, Nat.add_sub_cancel, List.getElem?_eq_getElem hol]
          have hcb := candB_last hgl ws[i]
          have hlt2 := fun q os => less_any out[mp] ws[i] (grow (wr.drewN q) os)
          have hbw : Below w.heap.size w wr := HB.out.trans (HB1.out.mono hwz)
          obtain ⟨bb, oo, hA1, z0, z1, z2⟩ := HV.out.grown_at hbw hbw.size hil
          obtain ⟨bb', oo', hA2, y0, y1, y2⟩ := HAo.out.grown_at HB1.out HB1.out.size hol
          subst hA1
          subst hA2
          have p0 : (0 : Int) ≤ (mp : Int) := Int.natCast_nonneg _
          have p1 : (mp : Int) < ((mp + 1 : Nat) : Int) := by omega
          have p1' : (mp : Int) < (mp : Int) + 1 := by omega
          have p2 : (0 : Int) ≤ (i : Int) := Int.natCast_nonneg _
          have p3 : (i : Int) < (n : Int) := by omega
          have p4 : IntKind.i64.wrap (mp : Int) = (mp : Int) := by rw [IntKind.wrap_i64]; omega
          have p5 : IntKind.i64.wrap (((mp + 1 : Nat) : Int) - 1) = (mp : Int) := by rw [IntKind.wrap_i64]; omega
          have p6 : IntKind.i64.wrap ((mp : Int) + 1 - 1) = (mp : Int) := by rw [IntKind.wrap_i64]; omega
          cases hL : ltW out[mp] ws[i] with
          | true =>
            have HCand : Hid (candB out ws[i] = true) := Lib.hid (by rw [hcb]; exact hL)
            rw [hL] at hlt2
            generalize out[mp] = xb at hlt2 y0 y1 y2
            have hlt3 : ∀ xi, ws[i] = xi → True := fun _ _ => trivial
            obtain ⟨xi, hxi⟩ : ∃ xi, ws[i] = xi := ⟨_, rfl⟩
            rw [hxi] at hlt2 z0 z1 z2
            have HXi := Lib.hid hxi
            clear hbw hL hcb hgl hlt3 hxi
            go_wp2_with fail
            go_quiet_grown (first | (go_at_call 44; refine Calls.grown_of (hlt2 _ _)))
            have HB5 : Hid (Below W0.heap.size W0 (grow (wr.drewN nq) osq)) := Lib.hid (HB1.out.trans ((below_grown _ nq osq).mono HB1.out.size))
            clear z0 z1 z2 y0 y1 y2 hlt2 p0 p1 p1' p2 p3 p4 p5 p6
            generalize grow (wr.drewN nq) osq = w5 at HB5 ⊢
            clear nq osq
            go_wp2_with fail
            by_cases hb0 : best < 0
            · have hbz : decide (best < 0) = true := decide_eq_true hb0
              have HB9 : Hid (BestAt ws out (i + 1) (i : Int)) := Lib.hid (best_take HBe.out hil HCand.out (fun b hb e => by omega))
              have HB6 : Hid (Below W0.heap.size W0 w5.drew) := Lib.hid HB5.out.drew
              go_wp2_with fail
              go_big_region_o
              generalize w5.drew = w6 at HB6 ⊢
              go_wp2_with fail
              go_roundg (n - (i + 1))
              case measure => omega
              case rel => exact ⟨i + 1, i, rfl, by go_num, by omega, Nat.le_refl _, by omega, by omega, HB9, HB6⟩
            · have hbz : decide (best < 0) = false := decide_eq_false hb0
              obtain ⟨b, hbl, rfl, hbi, _, _⟩ := HBe.out.some_ (by omega)
              have hlt2 := fun q os => less_any ws[b] ws[i] (grow (w5.drewN q) os)
              have hbw5 : Below w.heap.size w w5 := HB.out.trans (HB5.out.mono hwz)
              obtain ⟨bb, oo, hA1, z0, z1, z2⟩ := HV.out.grown_at hbw5 hbw5.size hil
              obtain ⟨bb', oo', hA2, y0, y1, y2⟩ := HV.out.grown_at hbw5 hbw5.size hbl
              first | subst hA1 | cases hA1
              cases hA2
              have p0 : (0 : Int) ≤ (b : Int) := Int.natCast_nonneg _
              have p1 : (b : Int) < (n : Int) := by omega
              have p2 : (0 : Int) ≤ (i : Int) := Int.natCast_nonneg _
              have p3 : (i : Int) < (n : Int) := by omega
              cases hL : ltW ws[b] ws[i] with
              | true =>
                have HB9 : Hid (BestAt ws out (i + 1) (b : Int)) := Lib.hid (best_keep HBe.out hil hbl hL)
                rw [hL] at hlt2
                generalize ws[b] = xb at hlt2 y0 y1 y2
                generalize ws[i] = xi at hlt2 z0 z1 z2
                clear hbw5 HCand HBe hL
                go_wp2_with fail
                go_quiet_grown (first | (go_at_call 44; refine Calls.grown_of (hlt2 _ _)))
                have HB6 : Hid (Below W0.heap.size W0 (grow (w5.drewN nq) osq)) := Lib.hid (HB5.out.trans ((below_grown _ nq osq).mono HB5.out.size))
                clear z0 z1 z2 y0 y1 y2 hlt2
                generalize grow (w5.drewN nq) osq = w6 at HB6 ⊢
                go_wp2_with fail
                go_roundg (n - (i + 1))
                case measure => omega
                case rel => exact ⟨i + 1, b, rfl, by go_num, by omega, Nat.le_refl _, by omega, by omega, HB9, HB6⟩
              | false =>
                have HB9 : Hid (BestAt ws out (i + 1) (i : Int)) := Lib.hid (best_take HBe.out hil HCand.out (fun b' hb e => by
                  obtain rfl : b' = b := by omega
                  exact hL))
                rw [hL] at hlt2
                generalize ws[b] = xb at hlt2 y0 y1 y2
                generalize ws[i] = xi at hlt2 z0 z1 z2
                clear hbw5 HCand HBe hL
                go_wp2_with fail
                go_quiet_grown (first | (go_at_call 44; refine Calls.grown_of (hlt2 _ _)))
                have HB6 : Hid (Below W0.heap.size W0 (grow (w5.drewN nq) osq)) := Lib.hid (HB5.out.trans ((below_grown _ nq osq).mono HB5.out.size))
                clear z0 z1 z2 y0 y1 y2 hlt2
                generalize grow (w5.drewN nq) osq = w6 at HB6 ⊢
                go_wp2_with fail
                go_roundg (n - (i + 1))
                case measure => omega
                case rel => exact ⟨i + 1, i, rfl, by go_num, by omega, Nat.le_refl _, by omega, by omega, HB9, HB6⟩
          | false =>
            have HB9 : Hid (BestAt ws out (i + 1) best) := Lib.hid (best_skip HBe.out hil (by rw [hcb]; exact hL))
            rw [hL] at hlt2
            generalize out[mp] = xb at hlt2 y0 y1 y2
            generalize ws[i] = xi at hlt2 z0 z1 z2
            clear hbw hL hcb hgl
            go_wp2_with fail
            go_quiet_grown (first | (go_at_call 44; refine Calls.grown_of (hlt2 _ _)))
            have HB5 : Hid (Below W0.heap.size W0 (grow (wr.drewN nq) osq)) := Lib.hid (HB1.out.trans ((below_grown _ nq osq).mono HB1.out.size))
            clear z0 z1 z2 y0 y1 y2 hlt2 p0 p1 p1' p2 p3 p4 p5 p6
            generalize grow (wr.drewN nq) osq = w5 at HB5 ⊢
            clear nq osq
            go_wp2_with fail
            go_roundg (n - (i + 1))
            case measure => omega
            case rel => exact ⟨i + 1, best, rfl, by go_num, by omega, Nat.le_refl _, by omega, by omega, HB9, HB5⟩
      · have hltz : ¬ (i : Int) < (n : Int) := by omega
        have hin : ws.length = i := by rw [HN.out]; omega
        have HBe2 : Hid (BestAt ws out ws.length best) := Lib.hid (by rw [hin]; exact HBe.out)
        clear hin HBe
        have hbw : Below w.heap.size w wr := HB.out.trans (HB1.out.mono hwz)
        by_cases hb0 : best < 0
        · have HE : Hid (out = foldW ws) := Lib.hid (out_end HOut.out (fun t ht => HBe2.out.none_ hb0 t ht ht))
          have HO1 : Hid (wr.ownsRow w.heap.size 61 3 (.slice A4 m c4) m (wrCells out)) := Lib.hid (own_kept HO.out HB1.out)
          have HBW := Lib.hid hbw
          clear hbw
          go_wp2_with fail
          go_ret
          have hO := HO1.out
          rw [← hm] at hO
          have := own_end hO HBW.out
          rw [hm, HE.out] at this
          exact this
        · have hbz : ¬ best < 0 := hb0
          obtain ⟨b, hbl, rfl, hbi, hcb, _⟩ := HBe2.out.some_ (by omega)
          have HO2 : Hid (OutAt ws (out ++ [ws[b]])) := Lib.hid (out_step HOut.out HBe2.out hbl)
          have HL2 : Hid (leftB ws (out ++ [ws[b]]) < lf) := Lib.hid (by have := left_less hbl hcb; rw [HL.out] at this; exact this)
          have HO1 : Hid (wr.ownsRow w.heap.size 61 3 (.slice A4 m c4) m (wrCells out)) := Lib.hid (own_kept HO.out HB1.out)
          obtain ⟨bb, oo, hA1, hbb, x1, x2, x3⟩ := HV.out.at_ hbw hbl
          subst hA1
          have HBW := Lib.hid hbw
          have hwz2 : w.heap.size ≤ wr.heap.size := hbw.size
          have hbbw : bb < wr.heap.size := by omega
          have p0 : (0 : Int) ≤ (b : Int) := Int.natCast_nonneg _
          have p1 : (b : Int) < (n : Int) := by have := HN.out; omega
          obtain ⟨x, hx⟩ : ∃ x, ws[b] = x := ⟨_, rfl⟩
          rw [hx] at x1 x2 x3 HO2 HL2
          clear hx hcb hbw HBe2
          obtain ⟨vol, block, data⟩ := x
          simp only at x1 x2 x3
          go_wp2_with (at_builtin; refine wpList_append_own _ rfl (.tmp 47) (.tmp 52) 23 rfl w.heap.size 61 i0 (.agg #[.int .i64 0, .int .i64 0, .string ByteArray.empty]) 3 32 Try.underlying23 hi0 hz0 hz1 hz2 rfl (by decide) (.slice A4 m c4) m (wrCells out) rfl (HO1.out.alloc _) ⟨wr.heap.size, 0, none⟩ 1 1 [.int .i64 vol, .int .i64 block, .string data] rfl rfl (cell_three_new _ _ _ _ _) (by intro u hu; simp at hu; rcases hu with rfl | rfl | rfl <;> rfl) ?c4 ?c5 ?c6 ?_)
          case c4 => unfold maxLen; omega
          case c5 => omega
          case c6 => first | (simp; omega) | omega
          intro v6 w6 hown hg _
          have HO6 : Hid (w6.ownsRow w.heap.size 61 3 v6 (m + 1) (wrCells (out ++ [⟨vol, block, data⟩]))) := Lib.hid (by rw [wrCells_append]; exact hown)
          have HB6 : Hid (Below w.heap.size w w6) := Lib.hid ((HBW.out.alloc HBW.out.size _).grown hg (by have := HBW.out.size; simp; omega) (fun q hq => (HO1.out.lt q hq).1))
          clear hown hg x1 x2 x3 HO1
          go_wp2_with fail
          go_roundg (leftB ws (out ++ [⟨vol, block, data⟩]) + 1)
          case measure => have := HL2.out; omega
          case rel => exact ⟨m + 1, leftB ws (out ++ [⟨vol, block, data⟩]), out ++ [⟨vol, block, data⟩], by rw [List.length_append, hm]; rfl, by have := HL2.out; omega, Nat.le_refl _, Lib.hid rfl, HO2, HO6, HB6⟩
end Go.Proofs.Ytpmllckfijfehaa
