/- The contract of seg.Feed. -/
import Derived.Test.YtlncedjgpndlpaaSegE
import Derived.Deep.CutRange
namespace Go.Proofs.Ytlncedjgpndlpaa
open Go.RowKit

/-- A box of two cells. -/
structure Two (w : World) (b : Nat) (x y : Value) (t : TypeId) : Prop where
  blk : w.heap[b]? = some (.cells #[x, y] t (0, 0))
theorem Two.c0 {w : World} {b : Nat} {x y : Value} {t : TypeId} (h : Two w b x y t) : w.cell? ⟨b, 0, none⟩ = some x := by rw [Lib.cell_of_heap h.blk]; rfl
theorem Two.c1 {w : World} {b : Nat} {x y : Value} {t : TypeId} (h : Two w b x y t) : w.cell? ⟨b, 1, none⟩ = some y := by rw [Lib.cell_of_heap h.blk]; rfl
theorem Two.fr {w : World} {b : Nat} {x y : Value} {t : TypeId} (h : Two w b x y t) (j : Nat) : w.frozen? ⟨b, j, none⟩ = false := Lib.frozen_of_heap h.blk j
theorem Two.lt {w : World} {b : Nat} {x y : Value} {t : TypeId} (h : Two w b x y t) : b < w.heap.size := heap_lt h.blk
theorem Two.new (w : World) (x y : Value) (t : TypeId) : Two (w.alloc (.cells #[x, y] t)) w.heap.size x y t := ⟨heap_alloc_new w _⟩
theorem Two.below {w w' : World} {b : Nat} {x y : Value} {t : TypeId} (h : Two w b x y t) (hb : Below w.heap.size w w') : Two w' b x y t := ⟨(hb.block b h.lt).trans h.blk⟩
theorem Two.set {w : World} {b : Nat} {x y : Value} {t : TypeId} (h : Two w b x y t) (x' y' : Value) : Two ((w.setCell ⟨b, 0, none⟩ x').setCell ⟨b, 1, none⟩ y') b x' y' t := ⟨row_set (row_set h.blk 0 _) 1 _⟩
theorem Two.set1 {w : World} {b : Nat} {x y : Value} {t : TypeId} (h : Two w b x y t) (y' : Value) : Two (w.setCell ⟨b, 1, none⟩ y') b x y' t := ⟨row_set h.blk 1 _⟩
theorem Two.far {w : World} {b : Nat} {x y : Value} {t : TypeId} (h : Two w b x y t) {p : Addr} (hp : b ≠ p.block) (v : Value) : Two (w.setCell p v) b x y t := ⟨(Below.heap_setCell _ _ _ _ hp).trans h.blk⟩
theorem below_two {w w' : World} {B : Nat} (h : Below B w w') {b : Nat} (hp : B ≤ b) (v0 v1 : Value) : Below B w ((w'.setCell ⟨b, 0, none⟩ v0).setCell ⟨b, 1, none⟩ v1) :=
  (h.setCell (p := ⟨b, 0, none⟩) hp _).setCell (p := ⟨b, 1, none⟩) hp _
theorem own_far {w : World} {B : Nat} {e : TypeId} {size n : Nat} {v : Value} {xs : List Value} (h : w.ownsRow B e size v n xs) {b : Nat} (hb : b < B) (j : Nat) (u : Value) : (w.setCell ⟨b, j, none⟩ u).ownsRow B e size v n xs :=
  h.kept (row := some b) ⟨rfl, rfl, rfl, by simp [World.setCell], fun k _ hk => Below.heap_setCell _ _ _ _ (fun e => hk (by simp [e]))⟩ (by
    rcases h.2 with ⟨rfl, _⟩ | ⟨g, cap, cur, rfl, hg, _⟩
    · simp [Value.ownBlock]
    · right; simp [Value.ownBlock]; omega)

/-- What Feed leaves. -/
def FeedEnd (f : Fed) (w : World) (e : Ending) (w' : World) : Prop :=
  ∃ A c, e = .returned (.tuple #[.agg #[.int .i64 f.of, .slice A f.hv.length c], .string (str f.tx), .bool f.ok, .int .i64 f.er]) ∧ Strs w' w'.heap.size A f.hv ∧ (A = none → c = 0) ∧ Below w.heap.size w w'
theorem feed_err {e : Int} {w w' : World} (hb : Below w.heap.size w w') : FeedEnd (fedE e) w (.returned (.tuple #[.agg #[.int .i64 0, .slice none 0 0], .string ⟨#[]⟩, .bool false, .int .i64 e])) w' :=
  ⟨none, 0, rfl, .inl rfl, fun _ => rfl, hb⟩
theorem feed_whole {tx : List UInt8} {w w' : World} (hb : Below w.heap.size w w') : FeedEnd ⟨0, [], tx, true, 0⟩ w (.returned (.tuple #[.agg #[.int .i64 0, .slice none 0 0], .string (str tx), .bool true, .int .i64 0])) w' :=
  ⟨none, 0, rfl, .inl rfl, fun _ => rfl, hb⟩
theorem feed_more {B n : Nat} {of : Int} {xs : List (List UInt8)} {v : Value} {w w' : World} (hn : xs.length = n) (hown : w'.ownsRow B 9 1 v n (xs.map txt)) (hb : Below w.heap.size w w') : FeedEnd ⟨of, xs, [], false, 0⟩ w (.returned (.tuple #[.agg #[.int .i64 of, v], .string ⟨#[]⟩, .bool false, .int .i64 0])) w' := by
  subst hn
  obtain ⟨A, c, rfl, _, hs⟩ := own_strs hown
  refine ⟨A, c, rfl, hs, ?_, hb⟩
  rintro rfl
  rcases hown.2 with ⟨h, _⟩ | ⟨g, cap, cur, h, _⟩
  · injection h
  · injection h with h1; cases h1


theorem Concat_part {WX : World} {A : Option Addr} {n c : Nat} {xs : List (List UInt8)} (P : List UInt8) (hn : xs.length = n) (h : Strs WX WX.heap.size A xs) (hx : n ≤ 10000) (hnil : A = none → c = 0) :
    Calls Try.prog 20 #[.slice (some ⟨WX.heap.size + 1, 0, none⟩) 2 2] ((WX.alloc (.cells #[.string (str P)] 9)).alloc (.cells #[.slice A n c, .slice (some ⟨WX.heap.size, 0, none⟩) 1 1] 23)) fun e w' =>
      ∃ v, e = .returned v ∧ w'.ownsRow (WX.heap.size + 2) 9 1 v (n + 1) ((xs ++ [P]).map txt) ∧ Below WX.heap.size WX w' := by
  subst hn
  have b1 := below_one WX (.cells #[.string (str P)] 9)
  have b2 := below_one (WX.alloc (.cells #[.string (str P)] 9)) (.cells #[.slice A xs.length c, .slice (some ⟨WX.heap.size, 0, none⟩) 1 1] 23)
  have hs1 : Strs (WX.alloc (.cells #[.string (str P)] 9)) (WX.alloc (.cells #[.string (str P)] 9)).heap.size (some ⟨WX.heap.size, 0, none⟩) [P] := .inr ⟨WX.heap.size, 0, rfl, by simp, fun j hj => by
    obtain rfl : j = 0 := by simp at hj; omega
    rw [Lib.cell_of_heap (heap_alloc_new WX _)]; rfl⟩
  have e1 : (WX.alloc (.cells #[.string (str P)] 9)).heap.size = WX.heap.size + 1 := by simp
  have hcell := fun j => Lib.cell_of_heap (heap_alloc_new (WX.alloc (.cells #[.string (str P)] 9)) (.cells #[.slice A xs.length c, .slice (some ⟨WX.heap.size, 0, none⟩) 1 1] 23)) j
  rw [e1] at hcell
  refine (ConcatS_two (c1 := c) (c2 := 1) (g := WX.heap.size + 1) ((h.next b1).next b2) (hs1.next b2) ⟨by omega, hnil⟩ ⟨by simp, fun h => by cases h⟩ (by simp) (by rw [hcell]; rfl) (by rw [hcell]; rfl)).mono ?_
  rintro e w' ⟨v, rfl, hown, hb⟩
  have e2 : ((WX.alloc (.cells #[.string (str P)] 9)).alloc (.cells #[.slice A xs.length c, .slice (some ⟨WX.heap.size, 0, none⟩) 1 1] 23)).heap.size = WX.heap.size + 2 := by simp
  rw [e2] at hown hb
  exact ⟨v, rfl, hown, (b1.trans (b2.mono (by simp))).trans (hb.mono (by omega))⟩

/-- The join of what a new row holds. -/
theorem Join_row {B n : Nat} {v : Value} {xs : List (List UInt8)} {W : World} (hown : W.ownsRow B 9 1 v n (xs.map txt)) (hn : n ≤ 100000) (ht : total xs ≤ 281474976710656) :
    ∃ A3 c3, v = .slice A3 n c3 ∧ Calls Try.prog 21 #[.slice A3 n c3, .string ⟨#[]⟩] W fun e w' => e = .returned (.string (str xs.flatten)) ∧ Below W.heap.size W w' := by
  obtain ⟨A3, c3, rfl, hl3, hs3⟩ := own_strs hown
  refine ⟨A3, c3, rfl, JoinS_any _ A3 _ c3 W hl3 ?_ hs3 hn ht⟩
  rcases hown.2 with ⟨h, _⟩ | ⟨g, cap, cur, h, _, _, h4, _⟩
  · injection h with _ h _; omega
  · injection h with _ _ h; omega

set_option maxHeartbeats 2000000 in
set_option maxRecDepth 100000 in
theorem Feed_any (of : Int) (hv : List (List UInt8)) (A : Option Addr) (n c : Nat) (s : ByteArray) (w : World) (hn : hv.length = n) (hA : Strs w w.heap.size A hv) (hnil : A = none → c = 0) (h1 : n ≤ 10000) (h2 : total hv + s.size ≤ 281474976710656) :
    Calls Try.prog 14 #[.agg #[.int .i64 of, .slice A n c], .string s] w (FeedEnd (fed of hv s.data.toList) w) := by
  have HN := Lib.hid hn
  have HA := Lib.hid hA
  have HNil := Lib.hid hnil
  obtain ⟨V, hV⟩ : ∃ V, V = (w.alloc (.cells #[.int .i64 of, .slice A n c] 35)).alloc (.cells #[.int .i64 0, .slice none 0 0] 35) := ⟨_, rfl⟩
  have HBV : Hid (Below w.heap.size w V) := Lib.hid (by rw [hV]; exact (below_one _ _).trans ((below_one _ _).mono (by simp)))
  have hV0 : Two V w.heap.size (.int .i64 of) (.slice A n c) 35 := by rw [hV]; exact (Two.new _ _ _ _).below (below_one _ _)
  have hV1 : Two V (w.heap.size + 1) (.int .i64 0) (.slice none 0 0) 35 := by
    rw [hV]; have := Two.new (w.alloc (.cells #[.int .i64 of, .slice A n c] 35)) (.int .i64 0) (.slice none 0 0) 35
    simpa using this
  have HV := Lib.hid hV
  have HO := Lib.hid (open_any s V (by omega))
  have HV0 := Lib.hid hV0
  have HV1 := Lib.hid hV1
  clear hV hn hA hnil hV0 hV1
  have hne : w.heap.size + 1 ≠ w.heap.size := by omega
  have hne2 : w.heap.size ≠ w.heap.size + 1 := by omega
  have hi := fIdx_lt s.data.toList
  have ho := fCnt_lt s.data.toList
  by_cases he : opE s.data.toList = 0
  · obtain ⟨e1, e2, e3⟩ := op_yes he
    obtain ⟨_, hic⟩ := opE_yes he
    rw [e1, e2, e3, he] at HO
    have HTot : Hid (total (hv ++ [fPart s.data.toList]) ≤ 281474976710656) := Lib.hid (by
      have : (fPart s.data.toList).length ≤ s.size := by unfold fPart; rw [List.length_drop, list_length]; omega
      rw [total_snoc]; omega)
    have HTot1 : Hid (total [fPart s.data.toList] ≤ 281474976710656) := Lib.hid (by
      have : (fPart s.data.toList).length ≤ s.size := by unfold fPart; rw [List.length_drop, list_length]; omega
      simp [total]; omega)
    have HF1 : Hid (fIdx s.data.toList = 0 → fed of hv s.data.toList = if 1 < fCnt s.data.toList then ⟨(fCnt s.data.toList : Int), [fPart s.data.toList], [], false, 0⟩ else ⟨0, [], [fPart s.data.toList].flatten, true, 0⟩) := Lib.hid (fun h0 => by
      have hz := fdE_first (of := of) (hv := hv) he h0
      have hw := new_first (hv := hv) h0
      by_cases hl : 1 < fCnt s.data.toList
      · rw [if_pos hl, fed_more hz (by rw [hw]; exact hl), hw]
      · rw [if_neg hl, fed_whole hz (by rw [hw]; exact hl), hw])
    have HF2 : Hid (fIdx s.data.toList ≠ 0 → fIdx s.data.toList = n → (fCnt s.data.toList : Int) = of → fed of hv s.data.toList = if n + 1 < fCnt s.data.toList then ⟨(fCnt s.data.toList : Int), hv ++ [fPart s.data.toList], [], false, 0⟩ else ⟨0, [], (hv ++ [fPart s.data.toList]).flatten, true, 0⟩) := Lib.hid (fun h0 ha hb => by
      have hz := fdE_next (of := of) (hv := hv) he (by rw [HN.out]; exact ha) hb
      have hw := new_next (hv := hv) h0
      have hwl : (hv ++ [fPart s.data.toList]).length = n + 1 := by rw [List.length_append, HN.out]; rfl
      by_cases hl : n + 1 < fCnt s.data.toList
      · rw [if_pos hl, fed_more hz (by rw [hw, hwl]; exact hl), hw]
      · rw [if_neg hl, fed_whole hz (by rw [hw, hwl]; exact hl), hw])
    have HF3 : Hid (fIdx s.data.toList ≠ 0 → fIdx s.data.toList ≠ n ∨ (fCnt s.data.toList : Int) ≠ of → fed of hv s.data.toList = fedE 8) := Lib.hid (fun h0 h => fed_none he h0 (by rw [HN.out]; exact h))
    clear he e1 e2 e3
    generalize fed of hv s.data.toList = F at *
    generalize fIdx s.data.toList = i at *
    generalize fCnt s.data.toList = cn at *
    generalize fPart s.data.toList = P at *
    clear h2
    by_cases h0 : i = 0
    · have hF := HF1.out h0
      subst h0
      have HMore : Hid (1 < cn → F = ⟨(cn : Int), [P], [], false, 0⟩) := Lib.hid (fun h => by rw [hF, if_pos h])
      have HWhole : Hid (¬ 1 < cn → F = ⟨0, [], [P].flatten, true, 0⟩) := Lib.hid (fun h => by rw [hF, if_neg h])
      clear hF HF1 HF2 HF3 HTot
      go_enter Try.func14, Try.ntmps14
      go_wp2_with fail
      rw [← HV.out]
      refine HO.out.mono ?_
      rintro e w1 ⟨rfl, hb1⟩
      have hT0 := HV0.out.below hb1
      have hT1 := HV1.out.below hb1
      have HB1 := Lib.hid (HBV.out.trans (hb1.mono HBV.out.size))
      have x0 := hT0.c0
      have x1 := hT0.c1
      have xf0 := hT0.fr 0
      have xf1 := hT0.fr 1
      have T0 := Lib.hid (hT0.set (.int .i64 (cn : Int)) (.slice none 0 0))
      have T1 := Lib.hid ((hT1.far (p := ⟨w.heap.size, 0, none⟩) hne (.int .i64 (cn : Int))).far (p := ⟨w.heap.size, 1, none⟩) hne (.slice none 0 0))
      have HBX := Lib.hid (below_two HB1.out (b := w.heap.size) (Nat.le_refl _) (.int .i64 (cn : Int)) (.slice none 0 0))
      clear hT0 hT1 HV0 HV1 HO HV HBV hb1
      obtain ⟨WX, hWX⟩ : ∃ WX, (w1.setCell ⟨w.heap.size, 0, none⟩ (.int .i64 (cn : Int))).setCell ⟨w.heap.size, 1, none⟩ (.slice none 0 0) = WX := ⟨_, rfl⟩
      rw [hWX] at T0 T1 HBX
      have HW := Lib.hid hWX
      clear hWX
      go_upto_region 6 with fail
      rw [HW.out]
      clear HW x0 x1 xf0 xf1 HB1
      have x0 := T0.out.c0
      have x1 := T0.out.c1
      have HX : Hid (Strs WX WX.heap.size none []) := Lib.hid (.inl rfl)
      have HCat := Lib.hid (Concat_part (A := none) (c := 0) (n := 0) (xs := []) P rfl HX.out (by omega) (fun _ => rfl))
      have hxl : WX.heap.size + 1 ≠ WX.heap.size := by omega
      go_wp2_with fail
      refine HCat.out.mono ?_
      rintro e w3 ⟨v3, rfl, hown3, hb3⟩
      have hS0 := T0.out.below hb3
      have hS1 := T1.out.below hb3
      have HB3 := Lib.hid (HBX.out.trans (hb3.mono HBX.out.size))
      have hlt0 : w.heap.size < WX.heap.size + 2 := by have := T0.out.lt; omega
      have hlt1 : w.heap.size + 1 < WX.heap.size + 2 := by have := T1.out.lt; omega
      have HOw := Lib.hid (own_far hown3 hlt0 1 v3)
      have a0 := hS0.c0
      have a1 := hS0.c1
      have af := hS0.fr 1
      have HS0 := Lib.hid (hS0.set1 v3)
      have HS1 := Lib.hid (hS1.far (p := ⟨w.heap.size, 1, none⟩) hne v3)
      have HB4 := Lib.hid (HB3.out.setCell (p := ⟨w.heap.size, 1, none⟩) (Nat.le_refl _) v3)
      clear HCat hb3 hS0 hS1 hown3
      obtain ⟨A3, c3, hv3⟩ : ∃ A3 c3, v3 = .slice A3 (1) c3 := by
        rcases HOw.out.2 with ⟨_, h⟩ | ⟨g, cap, cur, h, _⟩
        · omega
        · exact ⟨_, _, h⟩
      subst hv3
      by_cases hlt : 1 < cn
      · obtain ⟨W4, hW4⟩ : ∃ W4, w3.setCell ⟨w.heap.size, 1, none⟩ (.slice A3 (1) c3) = W4 := ⟨_, rfl⟩
        rw [hW4] at HOw HS0 HS1 HB4
        have b0 := HS0.out.c0
        have b1 := HS0.out.c1
        have d0 := HS1.out.c0
        have d1 := HS1.out.c1
        have g0 := HS1.out.fr 0
        have g1 := HS1.out.fr 1
        have HZ := Lib.hid (HS1.out.set (.int .i64 (cn : Int)) (.slice A3 (1) c3))
        have HBZ := Lib.hid (below_two HB4.out (b := w.heap.size + 1) (by omega) (.int .i64 (cn : Int)) (.slice A3 (1) c3))
        have HOZ := Lib.hid (own_far (own_far HOw.out hlt1 0 (.int .i64 (cn : Int))) hlt1 1 (.slice A3 (1) c3))
        go_wp2_with fail
        have r0 := HZ.out.c0
        have r1 := HZ.out.c1
        exact bodyPost_ret (v := .tuple #[.agg #[.int .i64 (cn : Int), .slice A3 (1) c3], .string ⟨#[]⟩, .bool false, .int .i64 0]) (by simp [results, Try.results14, go_sem, r0, r1]) rfl (by rw [HMore.out hlt]; exact feed_more rfl HOZ.out HBZ.out)
      · obtain ⟨W4, hW4⟩ : ∃ W4, w3.setCell ⟨w.heap.size, 1, none⟩ (.slice A3 (1) c3) = W4 := ⟨_, rfl⟩
        rw [hW4] at HOw HS0 HS1 HB4
        obtain ⟨A4, c4, hv4, hJ4⟩ := Join_row HOw.out (by omega) HTot1.out
        injection hv4 with ha4 _ hc4
        subst ha4 hc4
        have HJ4 := Lib.hid hJ4
        clear hJ4
        have b0 := HS0.out.c0
        have b1 := HS0.out.c1
        go_wp2_with fail
        refine HJ4.out.mono ?_
        rintro e w5 ⟨rfl, hb5⟩
        have hS1 := HS1.out.below hb5
        have HB5 := Lib.hid (HB4.out.trans (hb5.mono HB4.out.size))
        have d0 := hS1.c0
        have d1 := hS1.c1
        have g0 := hS1.fr 0
        have g1 := hS1.fr 1
        have HZ := Lib.hid (hS1.set (.int .i64 0) (.slice none 0 0))
        have HBZ := Lib.hid (below_two HB5.out (b := w.heap.size + 1) (by omega) (.int .i64 0) (.slice none 0 0))
        clear hS1 hb5 b0 b1
        go_wp2
        have r0 := HZ.out.c0
        have r1 := HZ.out.c1
        exact bodyPost_ret (v := .tuple #[.agg #[.int .i64 0, .slice none 0 0], .string (str ([] ++ [P]).flatten), .bool true, .int .i64 0]) (by simp [results, Try.results14, go_sem, r0, r1]) rfl (by rw [HWhole.out hlt]; exact feed_whole HBZ.out)

    · have HN0 := Lib.hid h0
      have hb0 : ((i : Int) == 0) = false := beq_eq_false_iff_ne.2 (by omega)
      by_cases hin : i = n
      · subst hin
        by_cases hof : (cn : Int) = of
        · have hF := HF2.out h0 rfl hof
          subst hof
          have HMore : Hid (i + 1 < cn → F = ⟨(cn : Int), hv ++ [P], [], false, 0⟩) := Lib.hid (fun h => by rw [hF, if_pos h])
          have HWhole : Hid (¬ i + 1 < cn → F = ⟨0, [], (hv ++ [P]).flatten, true, 0⟩) := Lib.hid (fun h => by rw [hF, if_neg h])
          clear hF HF1 HF2 HF3 HTot1
          go_enter Try.func14, Try.ntmps14
          go_wp2_with fail
          rw [← HV.out]
          refine HO.out.mono ?_
          rintro e WX ⟨rfl, hb1⟩
          have T0 := Lib.hid (HV0.out.below hb1)
          have T1 := Lib.hid (HV1.out.below hb1)
          have HBX := Lib.hid (HBV.out.trans (hb1.mono HBV.out.size))
          have HX := Lib.hid (HA.out.next HBX.out)
          have x0 := T0.out.c0
          have x1 := T0.out.c1
          clear HV0 HV1 HO HV HBV hb1
          have HCat := Lib.hid (Concat_part (A := A) (c := c) (n := i) (xs := hv) P HN.out HX.out h1 HNil.out)
          have hxl : WX.heap.size + 1 ≠ WX.heap.size := by omega
          go_wp2_with fail
          refine HCat.out.mono ?_
          rintro e w3 ⟨v3, rfl, hown3, hb3⟩
          have hS0 := T0.out.below hb3
          have hS1 := T1.out.below hb3
          have HB3 := Lib.hid (HBX.out.trans (hb3.mono HBX.out.size))
          have hlt0 : w.heap.size < WX.heap.size + 2 := by have := T0.out.lt; omega
          have hlt1 : w.heap.size + 1 < WX.heap.size + 2 := by have := T1.out.lt; omega
          have HOw := Lib.hid (own_far hown3 hlt0 1 v3)
          have a0 := hS0.c0
          have a1 := hS0.c1
          have af := hS0.fr 1
          have HS0 := Lib.hid (hS0.set1 v3)
          have HS1 := Lib.hid (hS1.far (p := ⟨w.heap.size, 1, none⟩) hne v3)
          have HB4 := Lib.hid (HB3.out.setCell (p := ⟨w.heap.size, 1, none⟩) (Nat.le_refl _) v3)
          clear HCat hb3 hS0 hS1 hown3
          obtain ⟨A3, c3, hv3⟩ : ∃ A3 c3, v3 = .slice A3 (i + 1) c3 := by
            rcases HOw.out.2 with ⟨_, h⟩ | ⟨g, cap, cur, h, _⟩
            · omega
            · exact ⟨_, _, h⟩
          subst hv3
          by_cases hlt : i + 1 < cn
          · obtain ⟨W4, hW4⟩ : ∃ W4, w3.setCell ⟨w.heap.size, 1, none⟩ (.slice A3 (i + 1) c3) = W4 := ⟨_, rfl⟩
            rw [hW4] at HOw HS0 HS1 HB4
            have b0 := HS0.out.c0
            have b1 := HS0.out.c1
            have d0 := HS1.out.c0
            have d1 := HS1.out.c1
            have g0 := HS1.out.fr 0
            have g1 := HS1.out.fr 1
            have HZ := Lib.hid (HS1.out.set (.int .i64 (cn : Int)) (.slice A3 (i + 1) c3))
            have HBZ := Lib.hid (below_two HB4.out (b := w.heap.size + 1) (by omega) (.int .i64 (cn : Int)) (.slice A3 (i + 1) c3))
            have HOZ := Lib.hid (own_far (own_far HOw.out hlt1 0 (.int .i64 (cn : Int))) hlt1 1 (.slice A3 (i + 1) c3))
            go_wp2_with fail
            have r0 := HZ.out.c0
            have r1 := HZ.out.c1
            exact bodyPost_ret (v := .tuple #[.agg #[.int .i64 (cn : Int), .slice A3 (i + 1) c3], .string ⟨#[]⟩, .bool false, .int .i64 0]) (by simp [results, Try.results14, go_sem, r0, r1]) rfl (by rw [HMore.out hlt]; exact feed_more (by rw [List.length_append, HN.out]; rfl) HOZ.out HBZ.out)
          · obtain ⟨W4, hW4⟩ : ∃ W4, w3.setCell ⟨w.heap.size, 1, none⟩ (.slice A3 (i + 1) c3) = W4 := ⟨_, rfl⟩
            rw [hW4] at HOw HS0 HS1 HB4
            obtain ⟨A4, c4, hv4, hJ4⟩ := Join_row HOw.out (by omega) HTot.out
            injection hv4 with ha4 _ hc4
            subst ha4 hc4
            have HJ4 := Lib.hid hJ4
            clear hJ4
            have b0 := HS0.out.c0
            have b1 := HS0.out.c1
            go_wp2_with fail
            refine HJ4.out.mono ?_
            rintro e w5 ⟨rfl, hb5⟩
            have hS1 := HS1.out.below hb5
            have HB5 := Lib.hid (HB4.out.trans (hb5.mono HB4.out.size))
            have d0 := hS1.c0
            have d1 := hS1.c1
            have g0 := hS1.fr 0
            have g1 := hS1.fr 1
            have HZ := Lib.hid (hS1.set (.int .i64 0) (.slice none 0 0))
            have HBZ := Lib.hid (below_two HB5.out (b := w.heap.size + 1) (by omega) (.int .i64 0) (.slice none 0 0))
            clear hS1 hb5 b0 b1
            go_wp2
            have r0 := HZ.out.c0
            have r1 := HZ.out.c1
            exact bodyPost_ret (v := .tuple #[.agg #[.int .i64 0, .slice none 0 0], .string (str (hv ++ [P]).flatten), .bool true, .int .i64 0]) (by simp [results, Try.results14, go_sem, r0, r1]) rfl (by rw [HWhole.out hlt]; exact feed_whole HBZ.out)

        · have hF := HF3.out h0 (.inr hof)
          rw [hF]
          clear hF HF1 HF2 HF3 HTot HTot1
          have hb1' : ((cn : Int) == of) = false := beq_eq_false_iff_ne.2 hof
          have hb2' : ((i : Int) == (i : Int)) = true := beq_self_eq_true _
          go_enter Try.func14, Try.ntmps14
          go_wp2_with fail
          rw [← HV.out]
          refine HO.out.mono ?_
          rintro e w1 ⟨rfl, hb1⟩
          have hT0 := HV0.out.below hb1
          have hT1 := HV1.out.below hb1
          have HB1 := Lib.hid (HBV.out.trans (hb1.mono HBV.out.size))
          have x0 := hT0.c0
          have x1 := hT0.c1
          have d0 := hT1.c0
          have d1 := hT1.c1
          have g0 := hT1.fr 0
          have g1 := hT1.fr 1
          have hb0 : ((i : Int) == 0) = false := beq_eq_false_iff_ne.2 (by have := HN0.out; omega)
          have HZ := Lib.hid (hT1.set (.int .i64 0) (.slice none 0 0))
          have HBZ := Lib.hid (below_two HB1.out (b := w.heap.size + 1) (by omega) (.int .i64 0) (.slice none 0 0))
          clear hT0 hT1 HV0 HV1 HO HV HBV hb1
          go_wp2
          have r0 := HZ.out.c0
          have r1 := HZ.out.c1
          exact bodyPost_ret (v := .tuple #[.agg #[.int .i64 0, .slice none 0 0], .string ⟨#[]⟩, .bool false, .int .i64 8]) (by simp [results, Try.results14, go_sem, r0, r1]) rfl (feed_err HBZ.out)

      · have hF := HF3.out h0 (.inl hin)
        rw [hF]
        clear hF HF1 HF2 HF3 HTot HTot1
        have hb2' : ((i : Int) == (n : Int)) = false := beq_eq_false_iff_ne.2 (by omega)
        go_enter Try.func14, Try.ntmps14
        go_wp2_with fail
        rw [← HV.out]
        refine HO.out.mono ?_
        rintro e w1 ⟨rfl, hb1⟩
        have hT0 := HV0.out.below hb1
        have hT1 := HV1.out.below hb1
        have HB1 := Lib.hid (HBV.out.trans (hb1.mono HBV.out.size))
        have x0 := hT0.c0
        have x1 := hT0.c1
        have d0 := hT1.c0
        have d1 := hT1.c1
        have g0 := hT1.fr 0
        have g1 := hT1.fr 1
        have hb0 : ((i : Int) == 0) = false := beq_eq_false_iff_ne.2 (by have := HN0.out; omega)
        have HZ := Lib.hid (hT1.set (.int .i64 0) (.slice none 0 0))
        have HBZ := Lib.hid (below_two HB1.out (b := w.heap.size + 1) (by omega) (.int .i64 0) (.slice none 0 0))
        clear hT0 hT1 HV0 HV1 HO HV HBV hb1
        go_wp2
        have r0 := HZ.out.c0
        have r1 := HZ.out.c1
        exact bodyPost_ret (v := .tuple #[.agg #[.int .i64 0, .slice none 0 0], .string ⟨#[]⟩, .bool false, .int .i64 8]) (by simp [results, Try.results14, go_sem, r0, r1]) rfl (feed_err HBZ.out)

  · rw [fed_op he]
    have HE : Hid ((opE s.data.toList != 0) = true) := Lib.hid (by simpa using he)
    generalize opE s.data.toList = er at *
    go_enter Try.func14, Try.ntmps14
    go_wp2_with fail
    rw [← HV.out]
    refine HO.out.mono ?_
    rintro e w1 ⟨rfl, hb1⟩
    have hT0 := HV0.out.below hb1
    have hT1 := HV1.out.below hb1
    have HB1 := Lib.hid (HBV.out.trans (hb1.mono HBV.out.size))
    have y0 := hT1.c0
    have y1 := hT1.c1
    have f0 := hT1.fr 0
    have f1 := hT1.fr 1
    have hg := HE.out
    have HT := Lib.hid (hT1.set (.int .i64 0) (.slice none 0 0))
    have HEnd := Lib.hid (below_two HB1.out (b := w.heap.size + 1) (by omega) (.int .i64 0) (.slice none 0 0))
    clear hT0 hT1 hb1
    go_wp2
    have r0 := HT.out.c0
    have r1 := HT.out.c1
    exact bodyPost_ret (v := .tuple #[.agg #[.int .i64 0, .slice none 0 0], .string ⟨#[]⟩, .bool false, .int .i64 er]) (by simp [results, Try.results14, go_sem, r0, r1]) rfl (feed_err HEnd.out)
end Go.Proofs.Ytlncedjgpndlpaa
