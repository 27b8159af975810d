/- Contracts of the document's Put and Tick. -/
import Derived.Test.YtdhmkcomngbmaaaLinkH
namespace Go.Proofs.Ytdhmkcomngbmaaa
open Go.RowKit

/-- What a call leaves that answers the document's end. -/
def EndR (x : LEnd) (w : World) (v : Value) (w' : World) : Prop := ∃ A c, v = x.rval A c ∧ Strs w' w'.heap.size A x.out ∧ Below w.heap.size w w'
def EndRErr (y : LEnd) (s : List UInt8) (er : Int) (w : World) (e : Ending) (w' : World) : Prop := ∃ v, e = .returned (.tuple #[v, .string (str s), .int .i64 er]) ∧ EndR y w v w'
theorem EndRErr.none_ {er : Int} {w w' : World} (hb : Below w.heap.size w w') : EndRErr LEnd.none_ [] er w (.returned (.tuple #[.agg #[.int .i64 0, .int .i64 0, .int .i64 0, .int .i64 0, .slice none 0 0], .string ⟨#[]⟩, .int .i64 er])) w' :=
  ⟨_, rfl, none, 0, rfl, .inl rfl, hb⟩
theorem putX_rval (x : LEnd) (p : List UInt8) (A : Option Addr) (c : Nat) : (putX x p).rval A c = .agg #[.int .i64 x.ep, .int .i64 x.ot, .int .i64 x.fi, .int .i64 x.wa, .slice A (x.out.length + 1) c] := by
  unfold LEnd.rval putX; simp
def txtsEnd (xs : List (List UInt8)) (w : World) (e : Ending) (w' : World) : Prop := ∃ A c, e = .returned (.slice A xs.length c) ∧ Strs w' w'.heap.size A xs ∧ Below w.heap.size w w'

set_option maxHeartbeats 4000000 in
set_option maxRecDepth 100000 in
theorem RPut_no (x : LEnd) (A : Option Addr) (c : Nat) (p : List UInt8) (w : World) (hx : x.Ok) (he : putE15 x p ≠ 0) :
    Calls Try.prog 18 #[x.rval A c, .string (str p)] w (EndRErr LEnd.none_ [] (putE15 x p) w) := by
  obtain ⟨V, hV⟩ : ∃ V, V = (w.alloc (.cells #[.int .i64 x.ep, .int .i64 x.ot, .int .i64 x.fi, .int .i64 x.wa, .slice A x.out.length c] 33)).alloc (.cells #[.int .i64 0, .int .i64 0, .int .i64 0, .int .i64 0, .slice none 0 0] 33) := ⟨_, rfl⟩
  have HBV : Hid (Below w.heap.size w V) := Lib.hid (by rw [hV]; exact below_news _ _ _)
  have HF0 : Hid (Five V w.heap.size (.int .i64 x.ep) (.int .i64 x.ot) (.int .i64 x.fi) (.int .i64 x.wa) (.slice A x.out.length c) 33) := Lib.hid (by rw [hV]; exact (boxes5 w _ _ _ _ _ _ _ _ _ _ _ _ (Below.refl _ _)).1)
  have HF1 : Hid (Five V (w.heap.size + 1) (.int .i64 0) (.int .i64 0) (.int .i64 0) (.int .i64 0) (.slice none 0 0) 33) := Lib.hid (by rw [hV]; exact (boxes5 w _ _ _ _ _ _ _ _ _ _ _ _ (Below.refl _ _)).2.1)
  have HV := Lib.hid hV
  have hsV : w.heap.size + 2 = V.heap.size := by rw [hV]; simp
  clear hV
  have hne : w.heap.size + 1 ≠ w.heap.size := by omega
  have hne2 : w.heap.size ≠ w.heap.size + 1 := by omega
  have hlen := hx.len
  have hf1 := hx.f1
  have hf2 := hx.f2
  unfold LEnd.rval
  clear hx
  by_cases g1 : 512 < p.length
  · have hg : (512 : Int) < ((str p).size : Int) := by rw [str_size]; omega
    rw [show putE15 x p = 5 from by unfold putE15; rw [if_pos g1]]
    clear he g1
    go_enter Try.func18, Try.ntmps18
    go_upto_region 1 with fail
    rw [← HV.out]
    have x0 := HF0.out.c0
    have x1 := HF0.out.c1
    have x2 := HF0.out.c2
    have x3 := HF0.out.c3
    have x4 := HF0.out.c4
    have y0 := HF1.out.c0
    have y1 := HF1.out.c1
    have y2 := HF1.out.c2
    have y3 := HF1.out.c3
    have y4 := HF1.out.c4
    have xf := HF0.out.fr
    have yf := HF1.out.fr
    go_wp2_with fail
    have HR := HF1.out.set (.int .i64 0) (.int .i64 0) (.int .i64 0) (.int .i64 0) (.slice none 0 0)
    have HE := below_five HBV.out (H := w.heap.size + 1) (by omega) (.int .i64 0) (.int .i64 0) (.int .i64 0) (.int .i64 0) (.slice none 0 0)
    have t0 := HR.c0
    have t1 := HR.c1
    have t2 := HR.c2
    have t3 := HR.c3
    have t4 := HR.c4
    unfold fiveSet at t0 t1 t2 t3 t4 HE
    exact bodyPost_ret (v := .tuple #[.agg #[.int .i64 0, .int .i64 0, .int .i64 0, .int .i64 0, .slice none 0 0], .string ⟨#[]⟩, .int .i64 5]) (by simp [results, Try.results18, go_sem, t0, t1, t2, t3, t4]) rfl (EndRErr.none_ HE)
  · have hg : ¬ (512 : Int) < ((str p).size : Int) := by rw [str_size]; omega
    have g2 : 63 < x.out.length ∨ 1099511627776 ≤ x.fi - 1 + x.out.length := by
      unfold putE15 at he
      rw [if_neg g1] at he
      split at he
      · assumption
      · exact absurd rfl he
    rw [show putE15 x p = 6 from by unfold putE15; rw [if_neg g1, if_pos g2]]
    clear he g1
    by_cases g3 : (63 : Int) < (x.out.length : Int)
    · clear g2
      go_enter Try.func18, Try.ntmps18
      go_upto_region 1 with fail
      rw [← HV.out]
      have x0 := HF0.out.c0
      have x1 := HF0.out.c1
      have x2 := HF0.out.c2
      have x3 := HF0.out.c3
      have x4 := HF0.out.c4
      have y0 := HF1.out.c0
      have y1 := HF1.out.c1
      have y2 := HF1.out.c2
      have y3 := HF1.out.c3
      have y4 := HF1.out.c4
      have xf := HF0.out.fr
      have yf := HF1.out.fr
      go_wp2_with fail
      have HR := HF1.out.set (.int .i64 0) (.int .i64 0) (.int .i64 0) (.int .i64 0) (.slice none 0 0)
      have HE := below_five HBV.out (H := w.heap.size + 1) (by omega) (.int .i64 0) (.int .i64 0) (.int .i64 0) (.int .i64 0) (.slice none 0 0)
      have t0 := HR.c0
      have t1 := HR.c1
      have t2 := HR.c2
      have t3 := HR.c3
      have t4 := HR.c4
      unfold fiveSet at t0 t1 t2 t3 t4 HE
      exact bodyPost_ret (v := .tuple #[.agg #[.int .i64 0, .int .i64 0, .int .i64 0, .int .i64 0, .slice none 0 0], .string ⟨#[]⟩, .int .i64 6]) (by simp [results, Try.results18, go_sem, t0, t1, t2, t3, t4]) rfl (EndRErr.none_ HE)
    · have g4 : (1099511627776 : Int) ≤ x.fi - 1 + (x.out.length : Int) := by omega
      have hw1 : IntKind.i64.wrap (x.fi - 1) = x.fi - 1 := by rw [IntKind.wrap_i64]; omega
      clear g2
      go_enter Try.func18, Try.ntmps18
      go_upto_region 1 with fail
      rw [← HV.out]
      have x0 := HF0.out.c0
      have x1 := HF0.out.c1
      have x2 := HF0.out.c2
      have x3 := HF0.out.c3
      have x4 := HF0.out.c4
      have y0 := HF1.out.c0
      have y1 := HF1.out.c1
      have y2 := HF1.out.c2
      have y3 := HF1.out.c3
      have y4 := HF1.out.c4
      have xf := HF0.out.fr
      have yf := HF1.out.fr
      go_wp2_with fail
      have HR := HF1.out.set (.int .i64 0) (.int .i64 0) (.int .i64 0) (.int .i64 0) (.slice none 0 0)
      have HE := below_five HBV.out (H := w.heap.size + 1) (by omega) (.int .i64 0) (.int .i64 0) (.int .i64 0) (.int .i64 0) (.slice none 0 0)
      have t0 := HR.c0
      have t1 := HR.c1
      have t2 := HR.c2
      have t3 := HR.c3
      have t4 := HR.c4
      unfold fiveSet at t0 t1 t2 t3 t4 HE
      exact bodyPost_ret (v := .tuple #[.agg #[.int .i64 0, .int .i64 0, .int .i64 0, .int .i64 0, .slice none 0 0], .string ⟨#[]⟩, .int .i64 6]) (by simp [results, Try.results18, go_sem, t0, t1, t2, t3, t4]) rfl (EndRErr.none_ HE)

set_option maxHeartbeats 4000000 in
set_option maxRecDepth 100000 in
theorem RPut_yes (x : LEnd) (A : Option Addr) (c : Nat) (p : List UInt8) (w : World) (h : Strs w w.heap.size A x.out) (hn : A = none → c = 0) (hx : x.Ok) (he : putE15 x p = 0) :
    Calls Try.prog 18 #[x.rval A c, .string (str p)] w (EndRErr (putX x p) (putS x p) 0 w) := by
  obtain ⟨V, hV⟩ : ∃ V, V = (w.alloc (.cells #[.int .i64 x.ep, .int .i64 x.ot, .int .i64 x.fi, .int .i64 x.wa, .slice A x.out.length c] 33)).alloc (.cells #[.int .i64 0, .int .i64 0, .int .i64 0, .int .i64 0, .slice none 0 0] 33) := ⟨_, rfl⟩
  have HBV : Hid (Below w.heap.size w V) := Lib.hid (by rw [hV]; exact below_news _ _ _)
  have HF0 : Hid (Five V w.heap.size (.int .i64 x.ep) (.int .i64 x.ot) (.int .i64 x.fi) (.int .i64 x.wa) (.slice A x.out.length c) 33) := Lib.hid (by rw [hV]; exact (boxes5 w _ _ _ _ _ _ _ _ _ _ _ _ (Below.refl _ _)).1)
  have HF1 : Hid (Five V (w.heap.size + 1) (.int .i64 0) (.int .i64 0) (.int .i64 0) (.int .i64 0) (.slice none 0 0) 33) := Lib.hid (by rw [hV]; exact (boxes5 w _ _ _ _ _ _ _ _ _ _ _ _ (Below.refl _ _)).2.1)
  have HV := Lib.hid hV
  have hsV : w.heap.size + 2 = V.heap.size := by rw [hV]; simp
  clear hV
  have hne : w.heap.size + 1 ≠ w.heap.size := by omega
  have hne2 : w.heap.size ≠ w.heap.size + 1 := by omega
  have hlen := hx.len
  have hf1 := hx.f1
  have hf2 := hx.f2
  have hg : ¬ 512 < p.length ∧ ¬ (63 < x.out.length ∨ 1099511627776 ≤ x.fi - 1 + x.out.length) := by
    unfold putE15 at he
    split at he
    · omega
    · split at he
      · omega
      · exact ⟨by assumption, by assumption⟩
  obtain ⟨g1, g2⟩ := hg
  have hg : ¬ (512 : Int) < ((str p).size : Int) := by rw [str_size]; omega
  have g3 : ¬ (63 : Int) < (x.out.length : Int) := by omega
  have g4 : ¬ (1099511627776 : Int) ≤ x.fi - 1 + (x.out.length : Int) := by omega
  have hok : (putX x p).Ok := (put_stays hx he).1
  have HSe := Lib.hid (fun A' c' W => RPacket_any (putX x p) A' c' 1 (x.fi + x.out.length) p W hok.ok3 (.inl rfl) (by omega) (by omega) (by omega))
  have HEn : Hid (∀ (s : List UInt8) (W : World) (v : Value) (A' : Option Addr) (c' B' : Nat), putS x p = s → v = .slice A' (x.out.length + 1) c' → W.ownsRow B' 9 1 v (x.out.length + 1) ((x.out ++ [p]).map txt) → Below w.heap.size w W → EndRErr (putX x p) (putS x p) 0 w (.returned (.tuple #[.agg #[.int .i64 x.ep, .int .i64 x.ot, .int .i64 x.fi, .int .i64 x.wa, v], .string (str s), .int .i64 0])) W) := Lib.hid (fun s W v A' c' B' hs hv ho hb => by
    obtain ⟨A2, c2, hv2, hl2, hs2, hn2, hc2⟩ := own_strs2 ho
    subst hs hv2
    exact ⟨_, rfl, A2, c2, by rw [putX_rval], hs2, hb⟩)
  have HS4 : Hid (x.out.length < 4 → putS x p = pktB (putX x p) 1 (x.fi + x.out.length) p) := Lib.hid (fun h4 => by unfold putS; rw [if_pos h4]; rfl)
  have HS5 : Hid (¬ x.out.length < 4 → putS x p = []) := Lib.hid (fun h4 => by unfold putS; rw [if_neg h4])
  simp only [putX_rval] at HSe
  have HLi := Lib.hid (h.next HBV.out).toLies
  have HNn := Lib.hid hn
  have HXl := Lib.hid (map_txt_len x.out)
  have HX1 := Lib.hid (map_txt_one x.out)
  have HSn := Lib.hid (map_txt_snoc x.out p)
  obtain ⟨i0, hi0, hz0, hz1, hz2⟩ := info_parts Try.infoStr
  unfold LEnd.rval
  clear h hx he g1 hok g2 hn
  generalize pktB (putX x p) 1 (x.fi + x.out.length) p = PK at *
  generalize (x.out ++ [p]).map txt = CS at *
  generalize x.out.map txt = XS at *
  generalize putX x p = Y at *
  generalize putS x p = PS at *
  go_enter Try.func18, Try.ntmps18
  go_upto_region 1 with fail
  rw [← HV.out]
  have x0 := HF0.out.c0
  have x1 := HF0.out.c1
  have x2 := HF0.out.c2
  have x3 := HF0.out.c3
  have x4 := HF0.out.c4
  have y0 := HF1.out.c0
  have y1 := HF1.out.c1
  have y2 := HF1.out.c2
  have y3 := HF1.out.c3
  have y4 := HF1.out.c4
  have xf := HF0.out.fr
  have yf := HF1.out.fr
  go_upto_region 6 with fail
  go_wp2_with (at_builtin; refine wpList_append_rows rfl (.tmp 28) (.tmp 30) 22 rfl V.heap.size 9 i0 (.string ⟨#[]⟩) 1 16 Try.underlying22 hi0 hz0 hz1 hz2 rfl (by decide) (.slice none 0 0) 0 [] rfl (World.ownsRow_nil _ _ _ _) A x.out.length c XS rfl HXl.out V.heap.size HLi.out HNn.out HX1.out ?c1 ?c2 (Nat.le_refl _) ?_)
  case c1 => unfold maxLen; omega
  case c2 => omega
  intro v2 w2 ho2 hg2
  (try rw [List.nil_append, Nat.zero_add] at ho2)
  have HB2 : Hid (Below V.heap.size V w2) := Lib.hid ((Below.refl _ _).grown hg2 (Nat.le_refl _) (fun q hq => (by cases hq)))
  have HO2 := Lib.hid ho2
  clear ho2 hg2 HLi HNn HXl HX1 x0 x1 x2 x3 x4 y0 y1 y2 y3 y4 xf yf HV
  have hw2 : V.heap.size ≤ w2.heap.size := HB2.out.size
  have HN2 : Hid (Lies (w2.alloc (.cells #[.string (str p)] 9)) (w2.alloc (.cells #[.string (str p)] 9)).heap.size (some ⟨w2.heap.size, 0, none⟩) [txt p]) := Lib.hid (.inr ⟨w2.heap.size, 0, rfl, by simp, fun j hj => by
    obtain rfl : j = 0 := by simp at hj; omega
    rw [Lib.cell_of_heap (heap_alloc_new w2 _)]; rfl⟩)
  go_wp2_with (at_builtin; refine wpList_append_rows rfl (.tmp 31) (.tmp 33) 22 rfl V.heap.size 9 i0 (.string ⟨#[]⟩) 1 16 Try.underlying22 hi0 hz0 hz1 hz2 rfl (by decide) v2 x.out.length XS rfl (own_kept HO2.out (below_one _ _)) (some ⟨w2.heap.size, 0, none⟩) 1 1 [txt p] rfl rfl _ HN2.out (fun h => by cases h) (by simp [txt, Value.oneCell']) ?c3 ?c4 ?c5 ?_)
  case c3 => unfold maxLen; omega
  case c4 => omega
  case c5 => simp; omega
  intro v3 w3 ho3 hg3
  rw [HSn.out] at ho3
  have HB3 : Hid (Below V.heap.size V w3) := Lib.hid ((HB2.out.trans ((below_one _ _).mono hw2)).grown hg3 (by simp; omega) (fun q hq => (HO2.out.lt q hq).1))
  obtain ⟨A3, c3, hv3⟩ := own_strs2' ho3 (by omega)
  subst hv3
  have HG0' := HF0.out.below HB3.out
  have HG1' := HF1.out.below HB3.out
  have x0 := HG0'.c0
  have x1 := HG0'.c1
  have x2 := HG0'.c2
  have x3 := HG0'.c3
  have x4 := HG0'.c4
  have xf := HG0'.fr
  have HO := Lib.hid (own_far15 ho3 (b := w.heap.size) (by omega) 4 (.slice A3 (x.out.length + 1) c3))
  have HG0 := Lib.hid (HG0'.set4 (.slice A3 (x.out.length + 1) c3))
  have HG1 := Lib.hid (HG1'.far (p := ⟨w.heap.size, 4, none⟩) hne (.slice A3 (x.out.length + 1) c3))
  have HB4 := Lib.hid ((HBV.out.trans (HB3.out.mono HBV.out.size)).setCell (p := ⟨w.heap.size, 4, none⟩) (Nat.le_refl _) (.slice A3 (x.out.length + 1) c3))
  clear ho3 hg3 HN2 HO2 HB2 HG0' HG1'
  go_upto_region 7 with fail
  clear x0 x1 x2 x3 x4 xf HB3
  generalize w3.setCell ⟨w.heap.size, 4, none⟩ (.slice A3 (x.out.length + 1) c3) = W3 at *
  have x4 := HG0.out.c4
  have x2 := HG0.out.c2
  by_cases h4 : x.out.length < 4
  · have hps := HS4.out h4
    subst hps
    clear HS4 HS5
    go_upto_region 10 with fail
    have y0 := fun z : LatW W3 => (HG1.out.lat z).c0
    have y1 := fun z : LatW W3 => (HG1.out.lat z).c1
    have y2 := fun z : LatW W3 => (HG1.out.lat z).c2
    have y3 := fun z : LatW W3 => (HG1.out.lat z).c3
    have y4 := fun z : LatW W3 => (HG1.out.lat z).c4
    have yf := fun z : LatW W3 => (HG1.out.lat z).fr
    have hd0 := HG0.out.drew.all
    have HL := Lib.hid (fun z : LatW W3 => (HG0.out.lat z).all)
    have hw1 : IntKind.i64.wrap (x.fi - 1) = x.fi - 1 := by rw [IntKind.wrap_i64]; omega
    have hw2' : IntKind.i64.wrap (x.fi - 1 + ((x.out.length : Int) + 1)) = x.fi + (x.out.length : Int) := by rw [IntKind.wrap_i64]; omega
    clear x4 x2
    go_region_held3 (fun w' => w'.cell? ⟨w.heap.size, 0, none⟩ = some (.int .i64 x.ep) ∧ w'.cell? ⟨w.heap.size, 1, none⟩ = some (.int .i64 x.ot) ∧ w'.cell? ⟨w.heap.size, 2, none⟩ = some (.int .i64 x.fi) ∧ w'.cell? ⟨w.heap.size, 3, none⟩ = some (.int .i64 x.wa) ∧ w'.cell? ⟨w.heap.size, 4, none⟩ = some (.slice A3 (x.out.length + 1) c3)) (first | with_reducible exact HL.out z4 | with_reducible exact hd0 | with_reducible exact (HG0.out.lat z4).far5 hne2 _ _ _ _ _) (first | (go_at_call 38; refine (HSe.out _ _ _).mono ?_; rintro e w8 ⟨rfl, hb8⟩; obtain ⟨z4, hz4⟩ := LatW.later (LatW.first W3) hb8; subst hz4; clear hb8))
    all_goals
      go_wp2_with fail
      have HR := (HG1.out.lat z4).set (.int .i64 x.ep) (.int .i64 x.ot) (.int .i64 x.fi) (.int .i64 x.wa) (.slice A3 (x.out.length + 1) c3)
      have HE := below_five (lat_end HB4.out z4) (H := w.heap.size + 1) (by omega) (.int .i64 x.ep) (.int .i64 x.ot) (.int .i64 x.fi) (.int .i64 x.wa) (.slice A3 (x.out.length + 1) c3)
      have HOE := own_five (own_kept HO.out z4.bel) (b := w.heap.size + 1) (by omega) (.int .i64 x.ep) (.int .i64 x.ot) (.int .i64 x.fi) (.int .i64 x.wa) (.slice A3 (x.out.length + 1) c3)
      have t0 := HR.c0
      have t1 := HR.c1
      have t2 := HR.c2
      have t3 := HR.c3
      have t4 := HR.c4
      unfold fiveSet at t0 t1 t2 t3 t4 HE HOE
      exact bodyPost_ret (v := .tuple #[.agg #[.int .i64 x.ep, .int .i64 x.ot, .int .i64 x.fi, .int .i64 x.wa, .slice A3 (x.out.length + 1) c3], .string (str PS), .int .i64 0]) (by simp [results, Try.results18, go_sem, t0, t1, t2, t3, t4]) rfl (HEn.out _ _ _ _ _ _ rfl rfl HOE HE)
  · have hps := HS5.out h4
    subst hps
    clear HS4 HS5
    have x0 := HG0.out.c0
    have x1 := HG0.out.c1
    have x3 := HG0.out.c3
    have y0 := HG1.out.c0
    have y1 := HG1.out.c1
    have y2 := HG1.out.c2
    have y3 := HG1.out.c3
    have y4 := HG1.out.c4
    have yf := HG1.out.fr
    go_wp2_with fail
    have HR := HG1.out.set (.int .i64 x.ep) (.int .i64 x.ot) (.int .i64 x.fi) (.int .i64 x.wa) (.slice A3 (x.out.length + 1) c3)
    have HE := below_five HB4.out (H := w.heap.size + 1) (by omega) (.int .i64 x.ep) (.int .i64 x.ot) (.int .i64 x.fi) (.int .i64 x.wa) (.slice A3 (x.out.length + 1) c3)
    have HOE := own_five HO.out (b := w.heap.size + 1) (by omega) (.int .i64 x.ep) (.int .i64 x.ot) (.int .i64 x.fi) (.int .i64 x.wa) (.slice A3 (x.out.length + 1) c3)
    have t0 := HR.c0
    have t1 := HR.c1
    have t2 := HR.c2
    have t3 := HR.c3
    have t4 := HR.c4
    unfold fiveSet at t0 t1 t2 t3 t4 HE HOE
    exact bodyPost_ret (v := .tuple #[.agg #[.int .i64 x.ep, .int .i64 x.ot, .int .i64 x.fi, .int .i64 x.wa, .slice A3 (x.out.length + 1) c3], .string ⟨#[]⟩, .int .i64 0]) (by simp [results, Try.results18, go_sem, t0, t1, t2, t3, t4]) rfl (HEn.out _ _ _ _ _ _ rfl rfl HOE HE)

set_option maxHeartbeats 4000000 in
set_option maxRecDepth 100000 in
theorem RTick_ok (x : LEnd) (A : Option Addr) (c : Nat) (w : World) (h : Strs w w.heap.size A x.out) (hx : x.Ok) :
    Calls Try.prog 20 #[x.rval A c] w (txtsEnd (tickL x) w) := by
  obtain ⟨V, hV⟩ : ∃ V, V = w.alloc (.cells #[.int .i64 x.ep, .int .i64 x.ot, .int .i64 x.fi, .int .i64 x.wa, .slice A x.out.length c] 33) := ⟨_, rfl⟩
  have HBV : Hid (Below w.heap.size w V) := Lib.hid (by rw [hV]; exact below_one _ _)
  have HF : Hid (Five V w.heap.size (.int .i64 x.ep) (.int .i64 x.ot) (.int .i64 x.fi) (.int .i64 x.wa) (.slice A x.out.length c) 33) := Lib.hid (by rw [hV]; exact Five.new _ _ _ _ _ _ _)
  have HV := Lib.hid hV
  have hsV : w.heap.size < V.heap.size := HF.out.lt
  have hlen := hx.len
  have hf1 := hx.f1
  have hf2 := hx.f2
  have HSe : Hid (∀ (k : Nat) (hk : k < x.out.length) (W : World), k < 4 → Calls Try.prog 38 #[x.rval A c, .int .i64 (1 : Nat), .int .i64 (x.fi + k), .string (str x.out[k])] W fun e w' => e = .returned (.string (str (pktB x 1 (x.fi + k) x.out[k]))) ∧ Below W.heap.size W w') := Lib.hid (fun k hk W h4 => RPacket_any x A c 1 (x.fi + k) x.out[k] W hx.ok3 (.inl rfl) (by omega) (by omega) (hx.each _ (List.getElem_mem hk)))
  have HA := Lib.hid (h.next HBV.out)
  have HTk := Lib.hid (fun k h1 h2 => @tickL_at x k h1 h2)
  obtain ⟨m, hm⟩ : ∃ m, (tickL x).length = m := ⟨_, rfl⟩
  have hm2 : m = min 4 x.out.length := by rw [← hm, tickL_len15]
  have hm4 : m ≤ 4 := by omega
  have hmn : m ≤ x.out.length := by omega
  have hm5 : m < x.out.length → m = 4 := by omega
  have HM := Lib.hid hm
  have HSn := Lib.hid (fun k (hk : k < (tickL x).length) => List.take_succ_eq_append_getElem hk)
  have HFin : Hid (∀ (A' : Option Addr) (c' : Nat) (W : World), W.ownsRow V.heap.size 9 1 (.slice A' m c') m (((tickL x).take m).map txt) → Below V.heap.size V W → txtsEnd (tickL x) w (.returned (.slice A' m c')) W) := Lib.hid (fun A' c' W ho hb => by
    rw [← hm, List.take_length] at ho
    obtain ⟨A2, c2, hv2, _, hs2, _, _⟩ := own_strs2 ho
    exact ⟨A2, c2, by rw [← hm, ← hv2], hs2, HBV.out.trans (hb.mono HBV.out.size)⟩)
  obtain ⟨i0, hi0, hz0, hz1, hz2⟩ := info_parts Try.infoStr
  unfold LEnd.rval at HSe ⊢
  clear h hx hm hm2 hV
  generalize tickL x = TL at *
  go_enter Try.func20, Try.ntmps20
  go_upto_region 1 with fail
  rw [← HV.out]
  go_wp2_with fail
  go_loopw [3, 4] (fun v i wr => ∃ (k : Nat) (A' : Option Addr) (c' : Nat), k ≤ m ∧ v = .slice A' k c' ∧ i = .int .i64 k ∧ Hid (wr.ownsRow V.heap.size 9 1 (.slice A' k c') k ((TL.take k).map txt)) ∧ Hid (Below V.heap.size V wr)) (fun _ i _ => m - (intOf i).toNat)
  case atStart => exact ⟨0, none, 0, by omega, rfl, rfl, Lib.hid (World.ownsRow_nil _ _ _ _), Lib.hid (Below.refl _ _)⟩
  case round =>
    obtain ⟨k, A', c', hk, rfl, rfl, HO, HB⟩ := hrel
    have g4 := (HF.out.below HB.out).c4
    by_cases hlt : k < m
    · have hkn : k < x.out.length := by omega
      have hkt : k < TL.length := by rw [HM.out]; exact hlt
      obtain ⟨b, off, hA, hbl, hc0⟩ := HA.out.at_ hkn
      subst hA
      have e1 := HTk.out k hkt hkn
      have HSk := Lib.hid (HSn.out k hkt)
      have HS := Lib.hid (fun W => HSe.out k hkn W (by omega))
      rw [e1] at HSk
      clear e1
      unfold txt at hc0
      generalize pktB x 1 (x.fi + k) x.out[k] = PK at *
      generalize x.out[k] = pc at *
      have HC6 : Hid (∀ W, Below V.heap.size V W → W.cell? ⟨w.heap.size, 0, none⟩ = some (.int .i64 x.ep) ∧ W.cell? ⟨w.heap.size, 1, none⟩ = some (.int .i64 x.ot) ∧ W.cell? ⟨w.heap.size, 2, none⟩ = some (.int .i64 x.fi) ∧ W.cell? ⟨w.heap.size, 3, none⟩ = some (.int .i64 x.wa) ∧ W.cell? ⟨w.heap.size, 4, none⟩ = some (.slice (some ⟨b, off, none⟩) x.out.length c) ∧ W.cell? ⟨b, off + k, none⟩ = some (.string (str pc))) := Lib.hid (fun W hW => by
        have hF := HF.out.below hW
        exact ⟨hF.c0, hF.c1, hF.c2, hF.c3, hF.c4, (hW.cell (p := ⟨b, off + k, none⟩) hbl).trans hc0⟩)
      have x0 := fun z : LatW wr => HC6.out z.wd (HB.out.trans (z.bel.mono HB.out.size))
      have HOz : Hid (∀ z : LatW wr, z.wd.ownsRow V.heap.size 9 1 (.slice A' k c') k ((TL.take k).map txt)) := Lib.hid (fun z => own_kept HO.out z.bel)
      have xd := HC6.out wr.drew HB.out.drew
      have hk0 : (0 : Int) ≤ (k : Int) := by omega
      have hk2 : (k : Int) < (x.out.length : Int) := by omega
      have hwk : IntKind.i64.wrap (x.fi + (k : Int)) = x.fi + (k : Int) := by rw [IntKind.wrap_i64]; omega
      have hs1 : (1 : Nat) ≤ 1 := Nat.le_refl _
      have hs2 : k + 1 ≤ maxLen := by unfold maxLen; omega
      have hs3 : (k + 1) * 16 ≤ 140737488355328 := by omega
      have hs4 : ∀ u ∈ [Value.string (str PK)], u.oneCell' = true := by simp [Value.oneCell']
      clear hc0
      go_upto_region 5 with fail
      go_region_held3 (fun w' => w'.cell? ⟨w.heap.size, 0, none⟩ = some (.int .i64 x.ep) ∧ w'.cell? ⟨w.heap.size, 1, none⟩ = some (.int .i64 x.ot) ∧ w'.cell? ⟨w.heap.size, 2, none⟩ = some (.int .i64 x.fi) ∧ w'.cell? ⟨w.heap.size, 3, none⟩ = some (.int .i64 x.wa) ∧ w'.cell? ⟨w.heap.size, 4, none⟩ = some (.slice (some ⟨b, off, none⟩) x.out.length c) ∧ w'.cell? ⟨b, off + k, none⟩ = some (.string (str pc))) (first | with_reducible exact x0 z5 | with_reducible exact x0 (LatW.lay1 z5 _) | with_reducible exact xd | exact x0 (LatW.lay1 z5 _) | exact x7 | fail) (first
        | (go_at_call 38; refine (HS.out _).mono ?_; rintro e w9 ⟨rfl, hb9⟩; obtain ⟨z5, hz5⟩ := LatW.later (LatW.first wr) hb9; subst hz5; clear hb9)
        | (refine step_append_lies _ (by rfl) (.tmp 16) (.tmp 28) 22 (by rfl) V.heap.size 9 i0 (.string ⟨#[]⟩) 1 16 Try.underlying22 hi0 hz0 hz1 hz2 rfl (by decide) (.slice A' k c') k ((TL.take k).map txt) (by rfl) ((HOz.out z5).alloc _) ⟨z5.wd.heap.size, 0, none⟩ 1 1 [.string (str PK)] (by rfl) (by rfl) (cell_one_new _ _ _) (by simp [Value.oneCell']) (by omega) (by unfold maxLen; omega) (by omega) (Nat.le_trans HB.out.size (LatW.lay1 z5 _).bel.size) _ rfl ?_; intro g cap w7 hown hg hat hlt7; have HO7 := Lib.hid hown; have hb7 : Below V.heap.size (LatW.lay1 z5 (.cells #[.string (str PK)] 9)).wd w7 := (Below.refl _ _).grown hg (Nat.le_trans HB.out.size (LatW.lay1 z5 _).bel.size) (fun q hq => ((HOz.out z5).lt q hq).1); have HB7 : Hid (Below V.heap.size V w7) := Lib.hid ((HB.out.trans ((LatW.lay1 z5 (.cells #[.string (str PK)] 9)).bel.mono HB.out.size)).trans hb7); have x7 := HC6.out _ HB7.out; clear hown hg hat hlt7 hb7) | fail)
      have HO8 : Hid (w7.ownsRow V.heap.size 9 1 (.slice (some ⟨g, 0, none⟩) (k + 1) cap) (k + 1) ((TL.take (k + 1)).map txt)) := Lib.hid (by
        have := HO7.out
        rwa [show (Value.string (str PK)) = txt PK from rfl, map_txt_snoc, ← HSk.out] at this)
      clear x0 x7 xd HO7 HO HB HC6 HOz HS g4
      go_wp2
      go_roundw
      case rel => exact ⟨k + 1, some ⟨g, 0, none⟩, cap, by omega, rfl, by go_num, HO8, HB7⟩
      case measure => simp [intOf]; omega
    · obtain rfl : k = m := by omega
      by_cases hn : k < x.out.length
      · have hk4 := hm5 hn
        have hk4' : ¬ ((k : Int) < 4) := by omega
        clear hk4
        go_wp2_with fail
        go_ret
        exact HFin.out _ _ _ HO.out HB.out
      · go_wp2_with fail
        go_ret
        exact HFin.out _ _ _ HO.out HB.out
end Go.Proofs.Ytdhmkcomngbmaaa
