/- The laws through the layers: the fixed answer. -/
import Derived.Test.YthajgoigmkkbgaaTopA
import Derived.Test.YthajgoigmkkbgaaLagC
namespace Go.Proofs.Ythajgoigmkkbgaa
open Go.Shelf Go.RowKit Go.Lib Go.Sort

def stX : Wr := ⟨1, 0, ⟨#[97]⟩⟩
def stQ : Qu := ⟨[], [stX], 0, 1⟩
theorem stX_new : newQ 0 = quNew 0 ∧ newE 0 = 0 := new_zero
theorem stX_ok0 : quRight (quNew 0) = true := (quRight_iff _).2 (new_ok (by rw [okN_iff]; omega))
theorem stX_add : quAdd (quNew 0) [stX] = stQ := by
  unfold quAdd quNew stQ
  simp [foldW, insW]
theorem stX_ok1 : quRight stQ = true := by
  rw [← stX_add]
  exact (quRight_iff _).2 (add_ok (new_ok (by rw [okN_iff]; omega)) (by show (0 : Int) < 1099511627776; omega) _)
theorem stX_all : qAll stQ = [stX] := by
  unfold qAll; rw [if_pos stX_ok1]; rfl
theorem stA_add : addV [] 1 2 = [(1, blankB 2)] ∧ addE [] 1 2 = 0 := ⟨by decide, by decide⟩
theorem stA_app : applyV [(1, blankB 2)] [stX] = [(1, [⟨#[97]⟩, ByteArray.empty])] ∧ checkE [(1, blankB 2)] [stX] = 0 := ⟨by decide, by decide⟩
theorem stA_get : gtS [(1, [⟨#[97]⟩, ByteArray.empty])] 1 0 = ⟨#[97]⟩ ∧ gtE [(1, [⟨#[97]⟩, ByteArray.empty])] 1 0 = 0 := ⟨by decide, by decide⟩
def stBd : Bd := ⟨1, 9, true⟩
theorem stX_judge : judgeB stBd stQ [] = 2 := by
  rw [judge_out (by decide) stX_ok1 (fun k => by have h : (1 : Int) - 0 + 1 ≤ 1 := k.1; omega)]; rfl

set_option maxHeartbeats 8000000 in
set_option maxRecDepth 100000 in
theorem stored_any (w : World) : Calls Try.prog 21 #[] w fun e w' => e = .returned (.bool true) ∧ Below w.heap.size w w' := by
  have HA0 : Hid (Calls Try.prog 45 #[.slice none 0 0, .int .i64 1, .int .i64 2] w (VolsEnd [(1, blankB 2)] 0 w)) := Lib.hid (by
    have := Add_any (w := w) (A := none) (c := 0) (vs := []) (.inl rfl) ⟨by simp, by simp⟩ 1 2
    rw [stA_add.1, stA_add.2] at this
    exact this)
  have HFa : Hid (VolsFit [(1, blankB 2)]) := Lib.hid (right_fit (by decide))
  have HFb : Hid (VolsFit [(1, [(⟨#[97]⟩ : ByteArray), ByteArray.empty])]) := Lib.hid (right_fit (by decide))
  go_enter Try.func21, Try.ntmps21
  go_wp2_with fail
  refine HA0.out.mono ?_
  rintro e w0 ⟨Av, cv, rfl, hv, hb0⟩
  simp only [List.length_singleton]
  have HVv := Lib.hid hv
  have HB0 := Lib.hid hb0
  clear hv hb0
  go_wp2_with fail
  refine (QNew_any 0 w0).mono ?_
  rw [stX_new.1, stX_new.2]
  rintro e w1 ⟨q1, hq1, rfl, hA1, hb1⟩
  obtain ⟨A, c, A2, c2, rfl⟩ := quv_bare hq1
  simp only [QuV.val, List.length_nil] at *
  clear hq1
  have HA1 := Lib.hid hA1
  have HB1 := Lib.hid (below_next HB0.out hb1)
  replace HVv := Lib.hid (HVv.out.next hb1)
  clear hA1 hb1
  go_wp2_with fail
  obtain ⟨V1, hV1⟩ : ∃ V1, V1 = w1.alloc (.cells #[.slice A 0 c, .slice A2 0 c2, .int .i64 0, .int .i64 0] 27 (0, 0)) := ⟨_, rfl⟩
  obtain ⟨V, hV⟩ : ∃ V, V = V1.alloc (.cells #[.int .i64 1, .int .i64 0, .string ⟨#[97]⟩] 74 (0, 0)) := ⟨_, rfl⟩
  have hs1 : V1.heap.size = w1.heap.size + 1 := by rw [hV1]; simp
  have hbv1 : Below w1.heap.size w1 V1 := by rw [hV1]; exact below_one _ _
  have hbv2 : Below V1.heap.size V1 V := by rw [hV]; exact below_one _ _
  have HF := Lib.hid (show Four V w1.heap.size (.slice A 0 c) (.slice A2 0 c2) (.int .i64 0) (.int .i64 0) 27 from ⟨by rw [hbv2.block _ (by omega), hV1]; exact heap_new _ _⟩)
  have HBV := Lib.hid (below_next hbv1 hbv2)
  have HW : Hid (WrsAt V V.heap.size (some ⟨w1.heap.size + 1, 0, none⟩) [stX]) := Lib.hid (by
    refine .inr ⟨w1.heap.size + 1, 0, rfl, by have := hbv2.size; rw [hV]; simp; omega, fun i hi => ?_⟩
    obtain rfl : i = 0 := by have : i < 1 := hi; omega
    have g := fun j u hj => cell_three_new V1 (.int .i64 1) (.int .i64 0) (.string ⟨#[97]⟩) 74 j u hj
    rw [hs1] at g
    simp only [WideShapes.add_plain, Nat.zero_add] at g
    rw [hV]
    exact ⟨g 0 _ rfl, g 1 _ rfl, g 2 _ rfl⟩)
  have HAdd : Hid (∀ c9, Calls Try.prog 15 #[.agg #[.slice A 0 c, .slice A2 0 c2, .int .i64 0, .int .i64 0], .slice (some ⟨w1.heap.size + 1, 0, none⟩) 1 c9] V (QuErr stQ 0 V)) := Lib.hid (fun c9 => by
    have := QAdd_any (q := ⟨A, c, [], A2, c2, [], 0, 0⟩) (c3 := c9) (HA1.out.next HBV.out) ⟨by simp, by simp, by simp⟩ HW.out (by simp) ⟨by simp, fun e => by cases e⟩
    rw [show (QuV.qu ⟨A, c, [], A2, c2, [], 0, 0⟩) = quNew 0 from rfl, (qadd_yes stX_ok0 (by decide) [stX]).1, (qadd_yes stX_ok0 (by decide) [stX]).2, stX_add] at this
    exact this)
  have HV : Hid ((w1.alloc (.cells #[.slice A 0 c, .slice A2 0 c2, .int .i64 0, .int .i64 0] 27 (0, 0))).alloc (.cells #[.int .i64 1, .int .i64 0, .string ⟨#[97]⟩] 74 (0, 0)) = V) := Lib.hid (by rw [hV, hV1])
  rw [HV.out]
  replace HVv := Lib.hid (HVv.out.next HBV.out)
  clear hs1 hbv1 hbv2 hV hV1 HV HW
  refine (HAdd.out _).mono ?_
  rintro e w3 ⟨q3, hq3, rfl, hA3, hb3⟩
  obtain ⟨A4, c4, A5, c5, rfl⟩ := quv_bare hq3
  simp only [QuV.val, List.length_nil, List.length_cons, Nat.zero_add] at *
  clear hq3
  have HA3 := Lib.hid hA3
  have HF3 := Lib.hid (show Four w3 w1.heap.size (.slice A 0 c) (.slice A2 0 c2) (.int .i64 0) (.int .i64 0) 27 from ⟨by rw [hb3.block _ (Array.getElem?_eq_some_iff.1 HF.out.blk).1]; exact HF.out.blk⟩)
  have HB3 := Lib.hid (show Below w.heap.size w w3 from HB1.out.trans ((HBV.out.trans (hb3.mono HBV.out.size)).mono HB1.out.size))
  replace HVv := Lib.hid (HVv.out.next hb3)
  clear hA3 hb3 HF HAdd HA1
  have HH : Hid (w.heap.size ≤ w1.heap.size) := Lib.hid HB1.out.size
  have x0 := HF3.out.c0
  have x1 := HF3.out.c1
  have x2 := HF3.out.c2
  have x3 := HF3.out.c3
  have xf := HF3.out.fr
  generalize w1.heap.size = B at x0 x1 x2 x3 xf HF3 HH HBV ⊢
  have HF4 := Lib.hid (HF3.out.set (.slice A4 0 c4) (.slice A5 1 c5) (.int .i64 0) (.int .i64 1))
  have HM4 := Lib.hid ((Moves.refl (fun k => k = B) w3).four (H := B) rfl (.slice A4 0 c4) (.slice A5 1 c5) (.int .i64 0) (.int .i64 1))
  obtain ⟨W4, hW4⟩ : ∃ W4, ((((w3.setCell ⟨B, 0, none⟩ (.slice A4 0 c4)).setCell ⟨B, 1, none⟩ (.slice A5 1 c5)).setCell ⟨B, 2, none⟩ (.int .i64 0)).setCell ⟨B, 3, none⟩ (.int .i64 1)) = W4 := ⟨_, rfl⟩
  rw [hW4] at HF4 HM4
  have k0 := HF4.out.c0
  have k1 := HF4.out.c1
  have k2 := HF4.out.c2
  have k3 := HF4.out.c3
  go_wp2_with fail
  clear x0 x1 x2 x3 xf k0 k1 k2 k3
  try rw [hW4]
  clear hW4
  have HB4 : Hid (Below w.heap.size w W4) := Lib.hid (HB3.out.trans (HM4.out.below HB3.out.size (by rintro k rfl; exact HH.out)))
  have HA4 := Lib.hid ((HA3.out.turned HM4.out (by rintro k rfl; exact QBlk.of HF3.out.blk)).more HM4.out.size)
  have HV4 := Lib.hid ((HVv.out.turned HM4.out (by rintro k rfl; exact QBlk.of HF3.out.blk)).more HM4.out.size)
  have HAl : Hid (Calls Try.prog 24 #[.agg #[.slice A4 0 c4, .slice A5 1 c5, .int .i64 0, .int .i64 1]] W4 (WrsEnd [stX] W4)) := Lib.hid (by
    have := QAll_any HA4.out ⟨by simp, by simp, by simp⟩ (by simp [joinS, plainS])
    rw [show (QuV.qu ⟨A4, c4, [], A5, c5, [stX], 0, 1⟩) = stQ from rfl, stX_all] at this
    exact this)
  refine HAl.out.mono ?_
  rintro e w5 ⟨Al, cl, rfl, hl, nl, hb5⟩
  simp only [List.length_singleton]
  have HA5 := Lib.hid (HA4.out.next hb5)
  have HV5 := Lib.hid (HV4.out.next hb5)
  have HF5 := Lib.hid (HF4.out.kept hb5)
  have HB5 := Lib.hid (below_next HB4.out hb5)
  have HL5 := Lib.hid hl
  clear hl nl hb5 HA4 HV4 HF4 HAl
  have HAp : Hid (Calls Try.prog 22 #[.slice Av 1 cv, .slice Al 1 cl] w5 (VolsEnd [(1, [⟨#[97]⟩, ByteArray.empty])] 0 w5)) := Lib.hid (by
    have := Apply_any (c := cv) (c2 := cl) HV5.out HFa.out HL5.out (by simp)
    rw [stA_app.1, stA_app.2] at this
    exact this)
  have k0 := HF5.out.c0
  have k1 := HF5.out.c1
  have k2 := HF5.out.c2
  have k3 := HF5.out.c3
  go_wp2_with fail
  refine HAp.out.mono ?_
  rintro e w6 ⟨An, cn, rfl, hn, hb6⟩
  simp only [List.length_singleton]
  have HA6 := Lib.hid (HA5.out.next hb6)
  have HF6 := Lib.hid (HF5.out.kept hb6)
  have HB6 := Lib.hid (below_next HB5.out hb6)
  have HN6 := Lib.hid hn
  clear hn hb6 HA5 HF5 k0 k1 k2 k3
  have HGt : Hid (Calls Try.prog 46 #[.slice An 1 cn, .int .i64 1, .int .i64 0] w6 fun e w' => e = .returned (.tuple #[.string ⟨#[97]⟩, .int .i64 0]) ∧ Below w6.heap.size w6 w') := Lib.hid (by
    have := Get_any (c := cn) HN6.out HFb.out 1 0
    rw [stA_get.1, stA_get.2] at this
    exact this)
  go_wp2_with fail
  refine HGt.out.mono ?_
  rintro e w7 ⟨rfl, hb7⟩
  have HA7 := Lib.hid (HA6.out.next hb7)
  have HF7 := Lib.hid (HF6.out.kept hb7)
  have HB7 := Lib.hid (below_next HB6.out hb7)
  clear hb7 HA6 HF6
  have HJ : Hid (Calls Try.prog 10 #[.agg #[.int .i64 1, .int .i64 9, .bool true], .agg #[.slice A4 0 c4, .slice A5 1 c5, .int .i64 0, .int .i64 1], .slice none 0 0] w7 fun e w' => e = .returned (.int .i64 2) ∧ Below w7.heap.size w7 w') := Lib.hid (by
    have := Judge_any (c3 := 0) stBd HA7.out (A3 := none) (ws := []) ⟨by simp, by simp, by simp⟩ (by simp [joinS, plainS]) (.inl rfl) (by simp) (by show bytesW (quJoined stQ) + bytesW [] ≤ _; decide)
    rw [show (QuV.qu ⟨A4, c4, [], A5, c5, [stX], 0, 1⟩) = stQ from rfl, stX_judge] at this
    exact this)
  have k0 := HF7.out.c0
  have k1 := HF7.out.c1
  have k2 := HF7.out.c2
  have k3 := HF7.out.c3
  go_wp2_with fail
  refine HJ.out.mono ?_
  rintro e w8 ⟨rfl, hb8⟩
  have HB8 := Lib.hid (below_next HB7.out hb8)
  clear hb8
  go_wp2_with fail
  go_ret
  exact ⟨rfl, HB8.out⟩
end Go.Proofs.Ythajgoigmkkbgaa
